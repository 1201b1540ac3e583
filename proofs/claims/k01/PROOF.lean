import PyProof.Rows.All
import Wide.All
import OpenK.AllK
import Wide.FinOn
import HandS.ForExc
import HandS.Walk
import HandS.ExcInit
import HandS.ExcField
import HandS.CallSlots
import HandS.Wide
import HandS.Gcd
import HandS.IsInst
import HandS.Deep
import HandS.Defaults
import HandS.Flow
import HandS.TryOnly
import HandS.Style
import HandS.FStr
import HandS.TupAny
import HandS.HeadHook2
import HandS.Head0
import HandS.Head1
import HandS.Head2
import HandS.HeadEnd
import HandS.HeadHook1
import HandS.Head3
import PySem.Challenge.RW_wherelaid_k01_whole_ratios_and_their_bou
section
set_option Elab.async false
set_option linter.all false
set_option maxRecDepth 100000
set_option maxHeartbeats 4000000
set_option autoImplicit false
/-! pure layer: values without a heap -/
namespace PL
open PySem PySem.Spec PyProof.Rows L2

def Ex (H H' : Hp) : Prop := ∀ a o, H a = some o → H' a = some o
theorem Ex.refl (H : Hp) : Ex H H := fun _ _ h => h
theorem Ex.trans {H H1 H2 : Hp} (a : Ex H H1) (b : Ex H1 H2) : Ex H H2 := fun x o h => b x o (a x o h)
theorem Ex.new {H : Hp} {p : Addr} {o : HO} (h : H p = none) : Ex H (upd H p o) := fun a u e => by
  rw [upd_ne (ne_of_none e h)]
  exact e
theorem Ex.upd2 {G H : Hp} {p : Addr} {o : HO} (e : Ex G H) (h : H p = none) : Ex (upd G p o) (upd H p o) := fun a u ea => by
  by_cases z : a = p
  · subst z
    rw [upd_same] at ea ⊢
    exact ea
  · rw [upd_ne z] at ea ⊢
    exact e a u ea
theorem Ex.none {H H' : Hp} (e : Ex H H') {a : Addr} (h : H' a = Option.none) : H a = Option.none := by
  cases q : H a with
  | none => rfl
  | some o => rw [e a o q] at h; cases h
theorem Ex.rd {H H' : Hp} {a : Addr} {u : HO} (e : Ex H H') (h : Rd H a u) : Rd H' a u := by
  rcases h with h | ⟨o, h⟩
  · exact .inl (e a _ h)
  · exact .inr ⟨o, e a _ h⟩
theorem Ex.sqL {K : PySem.W.Frag} {H H' : Hp} {a : Addr} {xs : List V} (e : Ex H H') (h : SqL K H a xs) : SqL K H' a xs := by
  rcases h with h | h
  · exact .inl (e.rd h)
  · exact .inr h
theorem Ex.sqT {K : PySem.W.Frag} {H H' : Hp} {a : Addr} {xs : List V} (e : Ex H H') (h : SqT K H a xs) : SqT K H' a xs := by
  rcases h with h | h
  · exact .inl (e.rd h)
  · exact .inr h

inductive PV where
  | non | bl (b : Bool) | int (i : Int) | str (x : Str)
  | tup (xs : List PV) | lst (xs : List PV) | scr (xs : List PV)
  | obj (c : Str) (fs : List (Str × PV))
  | atm (v : V)

mutual
inductive Rep (K : PySem.W.Frag) (mg : Str → Option Value) (G : Hp) : V → PV → Prop
  | non : Rep K mg G .non .non
  | bl (b : Bool) : Rep K mg G (.bl b) (.bl b)
  | int (i : Int) : Rep K mg G (.int i) (.int i)
  | str (x : Str) : Rep K mg G (.str x) (.str x)
  | tup {a : Addr} {vs : List V} {xs : List PV} : SqT K G a vs → Reps K mg G vs xs → Rep K mg G (.ref a) (.tup xs)
  | lst {a : Addr} {vs : List V} {xs : List PV} : Rd G a (.lst vs) → Reps K mg G vs xs → Rep K mg G (.ref a) (.lst xs)
  | scr {a : Addr} {vs : List V} {xs : List PV} : SqL K G a vs → Reps K mg G vs xs → Rep K mg G (.ref a) (.scr xs)
  | obj {a C dx : Addr} {c : Str} {ws : List (Str × V)} {fs : List (Str × PV)} : mg c = some (.ref C) → G a = some (.ins C dx ws) → RepF K mg G ws fs → Rep K mg G (.ref a) (.obj c fs)
  | atm (v : V) : Rep K mg G v (.atm v)
inductive Reps (K : PySem.W.Frag) (mg : Str → Option Value) (G : Hp) : List V → List PV → Prop
  | nil : Reps K mg G [] []
  | cons {v : V} {vs : List V} {p : PV} {ps : List PV} : Rep K mg G v p → Reps K mg G vs ps → Reps K mg G (v :: vs) (p :: ps)
inductive RepF (K : PySem.W.Frag) (mg : Str → Option Value) (G : Hp) : List (Str × V) → List (Str × PV) → Prop
  | nil : RepF K mg G [] []
  | cons {n : Str} {v : V} {vs : List (Str × V)} {p : PV} {ps : List (Str × PV)} : Rep K mg G v p → RepF K mg G vs ps → RepF K mg G ((n, v) :: vs) ((n, p) :: ps)
end
section
variable {K : PySem.W.Frag} {mg : Str → Option Value} {G G' : Hp}
mutual
theorem Rep.mono (e : Ex G G') : ∀ {v : V} {p : PV}, Rep K mg G v p → Rep K mg G' v p
  | _, _, .non => .non
  | _, _, .bl b => .bl b
  | _, _, .int i => .int i
  | _, _, .str x => .str x
  | _, _, .tup h r => .tup (e.sqT h) (Reps.mono e r)
  | _, _, .lst h r => .lst (e.rd h) (Reps.mono e r)
  | _, _, .scr h r => .scr (e.sqL h) (Reps.mono e r)
  | _, _, .obj m h r => .obj m (e _ _ h) (RepF.mono e r)
  | _, _, .atm v => .atm v
theorem Reps.mono (e : Ex G G') : ∀ {v : List V} {p : List PV}, Reps K mg G v p → Reps K mg G' v p
  | _, _, .nil => .nil
  | _, _, .cons h r => .cons (Rep.mono e h) (Reps.mono e r)
theorem RepF.mono (e : Ex G G') : ∀ {v : List (Str × V)} {p : List (Str × PV)}, RepF K mg G v p → RepF K mg G' v p
  | _, _, .nil => .nil
  | _, _, .cons h r => .cons (Rep.mono e h) (RepF.mono e r)
end
theorem Reps.length : ∀ {v : List V} {p : List PV}, Reps K mg G v p → v.length = p.length
  | _, _, .nil => rfl
  | _, _, .cons _ r => congrArg (· + 1) (Reps.length r)
theorem Reps.get : ∀ {v : List V} {p : List PV} {i : Nat} {q : PV}, Reps K mg G v p → p[i]? = some q → ∃ x, v[i]? = some x ∧ Rep K mg G x q
  | _, _, _, _, .nil, e => by simp at e
  | _, _, 0, _, .cons r _, e => by simp at e; subst e; exact ⟨_, rfl, r⟩
  | _, _, i + 1, q, .cons _ t, e => by
    obtain ⟨u, h1, h2⟩ := Reps.get (i := i) (q := q) t (by simpa using e)
    exact ⟨u, by simpa using h1, h2⟩
theorem Reps.getV {v : List V} {p : List PV} {i : Nat} {x : V} (r : Reps K mg G v p) (e : v[i]? = some x) : ∃ q, p[i]? = some q ∧ Rep K mg G x q := by
  have h := List.getElem?_eq_some_iff.mp e
  obtain ⟨hi, _⟩ := h
  have hp : i < p.length := by rw [← r.length]; exact hi
  obtain ⟨y, hy, ry⟩ := r.get (i := i) (q := p[i]) (by simp [hp])
  rw [e] at hy
  cases hy
  exact ⟨p[i], by simp [hp], ry⟩
theorem Reps.set {x : V} {q : PV} (rx : Rep K mg G x q) : ∀ {v : List V} {p : List PV} (i : Nat), Reps K mg G v p → Reps K mg G (v.set i x) (p.set i q)
  | _, _, _, .nil => .nil
  | _, _, 0, .cons _ t => .cons rx t
  | _, _, i + 1, .cons h t => .cons h (Reps.set rx i t)
theorem Reps.append : ∀ {v w : List V} {p q : List PV}, Reps K mg G v p → Reps K mg G w q → Reps K mg G (v ++ w) (p ++ q)
  | _, _, _, _, .nil, s => s
  | _, _, _, _, .cons r t, s => .cons r (Reps.append t s)
theorem Reps.drop : ∀ {v : List V} {p : List PV} (n : Nat), Reps K mg G v p → Reps K mg G (v.drop n) (p.drop n)
  | _, _, 0, r => r
  | _, _, _ + 1, .nil => .nil
  | _, _, n + 1, .cons _ t => Reps.drop n t
theorem Reps.take : ∀ {v : List V} {p : List PV} (n : Nat), Reps K mg G v p → Reps K mg G (v.take n) (p.take n)
  | _, _, 0, _ => .nil
  | _, _, _ + 1, .nil => .nil
  | _, _, n + 1, .cons r t => .cons r (Reps.take n t)
theorem RepF.names : ∀ {v : List (Str × V)} {p : List (Str × PV)}, RepF K mg G v p → v.map (·.1) = p.map (·.1)
  | _, _, .nil => rfl
  | _, _, .cons _ r => congrArg (_ :: ·) (RepF.names r)
theorem RepF.length {v : List (Str × V)} {p : List (Str × PV)} (r : RepF K mg G v p) : v.length = p.length := by
  have h := congrArg List.length r.names
  simpa using h
theorem RepF.look : ∀ {v : List (Str × V)} {p : List (Str × PV)} {f : Str} {q : PV}, RepF K mg G v p → p.lookup f = some q → ∃ x, v.lookup f = some x ∧ Rep K mg G x q
  | _, _, _, _, .nil, e => by cases e
  | _, _, f, q, .cons (n := n) (v := v) (p := p) h t, e => by
    simp only [List.lookup] at e ⊢
    cases z : (f == n) with
    | true =>
      rw [z] at e
      simp only at e ⊢
      cases e
      exact ⟨v, rfl, h⟩
    | false =>
      rw [z] at e
      simp only at e ⊢
      exact RepF.look t e
theorem RepF.lookN : ∀ {v : List (Str × V)} {p : List (Str × PV)} {f : Str}, RepF K mg G v p → p.lookup f = none → v.lookup f = none
  | _, _, _, .nil, e => rfl
  | _, _, f, .cons (n := n) h t, e => by
    simp only [List.lookup] at e ⊢
    cases z : (f == n) with
    | true => rw [z] at e; simp only at e; cases e
    | false =>
      rw [z] at e
      simp only at e ⊢
      exact RepF.lookN t e
/-- a new tuple, list -/
theorem Rep.newT {p : Addr} {vs : List V} {xs : List PV} (hp : G p = none) (r : Reps K mg G vs xs) : Rep K mg (upd G p (.tup vs)) (.ref p) (.tup xs) := .tup (.inl (.inl upd_same)) (r.mono (Ex.new hp))
theorem Rep.newL {p : Addr} {vs : List V} {xs : List PV} (hp : G p = none) (r : Reps K mg G vs xs) : Rep K mg (upd G p (.lst vs)) (.ref p) (.lst xs) := .lst (.inl upd_same) (r.mono (Ex.new hp))
end

/-- what stands at an owned address -/
inductive Top (K : PySem.W.Frag) (mg : Str → Option Value) (G : Hp) : HO → PV → Prop
  | lst {vs : List V} {xs : List PV} : Reps K mg G vs xs → Top K mg G (.lst vs) (.lst xs)
  | ins {C dx : Addr} {c : Str} {ws : List (Str × V)} {fs : List (Str × PV)} : mg c = some (.ref C) → RepF K mg G ws fs → Top K mg G (.ins C dx ws) (.obj c fs)
theorem Top.mono {K : PySem.W.Frag} {mg : Str → Option Value} {G G' : Hp} (e : Ex G G') {o : HO} {p : PV} : Top K mg G o p → Top K mg G' o p
  | .lst r => .lst (r.mono e)
  | .ins m r => .ins m (r.mono e)
theorem Top.frz {K : PySem.W.Frag} {mg : Str → Option Value} {G : Hp} {o : HO} {p : PV} {a : Addr} (h : G a = none) : Top K mg G o p → Rep K mg (upd G a o) (.ref a) p
  | .lst r => .lst (.inl upd_same) (r.mono (Ex.new h))
  | .ins m r => .obj m upd_same (r.mono (Ex.new h))

inductive Slot where
  | no | v (p : PV) | own (p : PV)
abbrev PEnv := List Slot

structure Gam where
  K : PySem.W.Frag
  mg : Str → Option Value
  C : Hp
  G : Hp
  P : Nat → Option Addr
  W : WX

structure EnvOk (Γ : Gam) (G : Hp) (σ : L2.St) (H : Hp) (ρ : PEnv) : Prop where
  len : σ.length = ρ.length
  cH : Ex Γ.C H
  gH : Ex G H
  g0 : Ex Γ.G G
  gC : ∀ a, Γ.C a ≠ none → G a = Γ.G a
  par : ∀ (i : Nat) (a : Addr), Γ.P i = some a → σ[i]? = some (some (V.ref a))
  val : ∀ (i : Nat) (p : PV), ρ[i]? = some (Slot.v p) → ∃ x : V, σ[i]? = some (some x) ∧ Rep Γ.K Γ.mg G x p
  own : ∀ (i : Nat) (p : PV), ρ[i]? = some (Slot.own p) → ∃ a o, σ[i]? = some (some (V.ref a)) ∧ Γ.C a = none ∧ G a = none ∧ H a = some o ∧ Top Γ.K Γ.mg G o p
  dis : ∀ (i j : Nat) (p q : PV) (a : Addr), i ≠ j → ρ[i]? = some (Slot.own p) → ρ[j]? = some (Slot.own q) → σ[i]? = some (some (V.ref a)) → σ[j]? = some (some (V.ref a)) → False

/-- new things alone -/
structure Grow (G H G' H' : Hp) : Prop where
  hH : Ex H H'
  gG : Ex G G'
  gH : Ex G' H'
  nw : ∀ a, H a ≠ none → G' a = G a
theorem Grow.refl {G H : Hp} (e : Ex G H) : Grow G H G H := ⟨Ex.refl H, Ex.refl G, e, fun _ _ => rfl⟩
theorem Grow.new {G H : Hp} {p : Addr} {o : HO} (e : Ex G H) (h : H p = none) : Grow G H (upd G p o) (upd H p o) :=
  ⟨Ex.new h, Ex.new (e.none h), e.upd2 h, fun a ha => upd_ne fun z => ha (z ▸ h)⟩
/-- new in the heap alone -/
theorem Grow.newH {G H : Hp} {p : Addr} {o : HO} (e : Ex G H) (h : H p = none) : Grow G H G (upd H p o) :=
  ⟨Ex.new h, Ex.refl G, e.trans (Ex.new h), fun _ _ => rfl⟩
theorem Grow.trans {G H G1 H1 G2 H2 : Hp} (a : Grow G H G1 H1) (b : Grow G1 H1 G2 H2) : Grow G H G2 H2 :=
  ⟨a.hH.trans b.hH, a.gG.trans b.gG, b.gH, fun x hx => (b.nw x fun z => hx (a.hH.none z)).trans (a.nw x hx)⟩
theorem EnvOk.grow {Γ : Gam} {G H G' H' : Hp} {σ : L2.St} {ρ : PEnv} (ok : EnvOk Γ G σ H ρ) (g : Grow G H G' H') : EnvOk Γ G' σ H' ρ := by
  refine ⟨ok.len, ok.cH.trans g.hH, g.gH, ok.g0.trans g.gG, fun a ha => ?_, ok.par, fun i p h => ?_, fun i p h => ?_, ok.dis⟩
  · refine (g.nw a fun z => ha ?_).trans (ok.gC a ha)
    exact ok.cH.none z
  · obtain ⟨x, h1, h2⟩ := ok.val i p h
    exact ⟨x, h1, h2.mono g.gG⟩
  · obtain ⟨a, o, h1, h2, h3, h4, h5⟩ := ok.own i p h
    exact ⟨a, o, h1, h2, (g.nw a fun z => by rw [z] at h4; cases h4).trans h3, g.hH a o h4, h5.mono g.gG⟩

inductive ERes (α : Type) where
  | ok (a : α) (ρ : PEnv)
  | exc (c : Str) (fs : List (Str × PV)) (ρ : PEnv)
  | bad
def ERes.bind {α β : Type} (r : ERes α) (k : α → PEnv → ERes β) : ERes β := match r with
  | .ok a ρ => k a ρ
  | .exc c fs ρ => .exc c fs ρ
  | .bad => .bad
abbrev EF := PEnv → ERes PV
abbrev TF := PEnv → ERes Bool
abbrev AF := PEnv → ERes (List PV)

def ExcPost (Γ : Gam) (c : Str) (fs : List (Str × PV)) (ρ' : PEnv) (G : Hp) (σ : L2.St) : Prop :=
  ∀ C d ws G' H', Γ.mg c = some (.ref C) → Ex G G' → EnvOk Γ G' σ H' ρ' → G' d = some (.xd ws) → RepF Γ.K Γ.mg G' ws fs → Γ.W (.ref C) (some d) σ H'
def Post {α β : Type} (Γ : Gam) (rel : Hp → β → α → Prop) (r : ERes α) (G : Hp) (σ : L2.St) (Q : β → Hp → Prop) : Prop := match r with
  | .ok p ρ' => ∀ v G' H', Ex G G' → EnvOk Γ G' σ H' ρ' → rel G' v p → Q v H'
  | .exc c fs ρ' => ExcPost Γ c fs ρ' G σ
  | .bad => False
def DX {α β : Type} (Γ : Gam) (rel : Hp → β → α → Prop) (f : PEnv → ERes α) : L2.St → Hp → (β → Hp → Prop) → Prop := fun σ H Q =>
  ∃ G ρ, EnvOk Γ G σ H ρ ∧ Post Γ rel (f ρ) G σ Q
abbrev DE (Γ : Gam) (f : EF) : TE := DX Γ (Rep Γ.K Γ.mg) f
abbrev DT (Γ : Gam) (f : TF) : TT := DX Γ (fun _ b c => b = c) f
abbrev DA (Γ : Gam) (f : AF) : TA := DX Γ (Reps Γ.K Γ.mg) f
theorem ExcPost.mono {Γ : Gam} {c : Str} {fs : List (Str × PV)} {ρ' : PEnv} {G G1 : Hp} {σ : L2.St} (e : Ex G G1) (h : ExcPost Γ c fs ρ' G σ) : ExcPost Γ c fs ρ' G1 σ :=
  fun C d ws G' H' h1 h2 => h C d ws G' H' h1 (e.trans h2)
theorem Post.mono {α β : Type} {Γ : Gam} {rel : Hp → β → α → Prop} {r : ERes α} {G G1 : Hp} {σ : L2.St} {Q : β → Hp → Prop} (e : Ex G G1) (h : Post Γ rel r G σ Q) : Post Γ rel r G1 σ Q := by
  cases r with
  | ok p ρ' => exact fun v G' H' h1 => h v G' H' (e.trans h1)
  | exc c fs ρ' => exact ExcPost.mono e h
  | bad => exact h
theorem DX.bindI {α β α1 β1 : Type} {Γ : Gam} {rel : Hp → β → α → Prop} {rel1 : Hp → β1 → α1 → Prop} {f : PEnv → ERes α1} {k : α1 → PEnv → ERes α} {G H : Hp} {σ : L2.St} {ρ : PEnv} {Q : β → Hp → Prop} {Q1 : β1 → Hp → Prop}
    (ok : EnvOk Γ G σ H ρ) (h : Post Γ rel ((f ρ).bind k) G σ Q)
    (c : ∀ v G1 H1 p ρ1, Ex G G1 → EnvOk Γ G1 σ H1 ρ1 → rel1 G1 v p → Post Γ rel (k p ρ1) G1 σ Q → Q1 v H1) : DX Γ rel1 f σ H Q1 := by
  refine ⟨G, ρ, ok, ?_⟩
  cases e : f ρ with
  | ok p ρ1 =>
    rw [e] at h
    exact fun v G1 H1 h1 h2 h3 => c v G1 H1 p ρ1 h1 h2 h3 (Post.mono h1 h)
  | exc a fs ρ1 =>
    rw [e] at h
    exact h
  | bad =>
    rw [e] at h
    exact h
theorem Post.fin {α β : Type} {Γ : Gam} {rel : Hp → β → α → Prop} {p : α} {ρ' : PEnv} {G G' H' : Hp} {σ : L2.St} {Q : β → Hp → Prop} {v : β} (h : Post Γ rel (.ok p ρ') G σ Q) (g : Ex G G') (ok : EnvOk Γ G' σ H' ρ') (r : rel G' v p) : Q v H' := h v G' H' g ok r

/-- the context is the one that Γ speaks of -/
structure OkX (X : Cx) (Γ : Gam) : Prop where
  k : X.K = Γ.K
  m : X.mg = Γ.mg
theorem PE.imp {X : Cx} {e : Expr} {t t' : TE} (h : PE X e t) (i : ∀ σ H Q, t' σ H Q → t σ H Q) : PE X e t' := ⟨fun pins s σ H Q I z => h.run pins s σ H Q I (i σ H Q z)⟩
theorem PT.imp {X : Cx} {e : Expr} {t t' : TT} (h : PT X e t) (i : ∀ σ H Q, t' σ H Q → t σ H Q) : PT X e t' := ⟨fun pins s σ H Q I z => h.run pins s σ H Q I (i σ H Q z)⟩
theorem PW.imp {X : Cx} {e : Expr} {t t' : TT} (h : PW X e t) (i : ∀ σ H Q, t' σ H Q → t σ H Q) : PW X e t' := ⟨fun w pins s σ H Q I z => h.run w pins s σ H Q I (i σ H Q z)⟩
theorem PA.imp {X : Cx} {e : List Expr} {t t' : TA} (h : PA X e t) (i : ∀ σ H Q, t' σ H Q → t σ H Q) : PA X e t' := ⟨fun p pins s σ H Q I z => h.run p pins s σ H Q I (i σ H Q z)⟩
theorem PS.imp {X : Cx} {e : Stmt} {t t' : TS} (h : PS X e t) (i : ∀ D σ H, t' D σ H → t D σ H) : PS X e t' := ⟨fun pins s σ H D I z => h.run pins s σ H D I (i D σ H z)⟩
theorem PSs.imp {X : Cx} {e : List Stmt} {t t' : TS} (h : PSs X e t) (i : ∀ D σ H, t' D σ H → t D σ H) : PSs X e t' := ⟨fun pins s σ H D I z => h.run pins s σ H D I (i D σ H z)⟩
end PL
end

section
set_option Elab.async false
set_option linter.all false
set_option maxRecDepth 100000
set_option maxHeartbeats 4000000
set_option autoImplicit false
namespace PL
open PySem PySem.Spec PyProof.Rows L2

theorem Ex.putH {G H : Hp} {a : Addr} {o : HO} (e : Ex G H) (h : H a = some o) : Ex (upd G a o) H := fun b u eb => by
  by_cases z : b = a
  · subst z
    rw [upd_same] at eb
    rw [h]; exact eb
  · rw [upd_ne z] at eb
    exact e b u eb
theorem EnvOk.freeze {Γ : Gam} {G H : Hp} {σ : L2.St} {ρ : PEnv} {i : Nat} {p : PV} {a : Addr} {o : HO} (ok : EnvOk Γ G σ H ρ) (hi : ρ[i]? = some (Slot.own p)) (ha : σ[i]? = some (some (V.ref a)))
    (hC : Γ.C a = none) (hG : G a = none) (hH : H a = some o) (ht : Top Γ.K Γ.mg G o p) (np : Γ.P i = none) : EnvOk Γ (upd G a o) σ H (ρ.set i (.v p)) := by
  have hlt : i < ρ.length := (List.getElem?_eq_some_iff.mp hi).1
  refine ⟨by simp [ok.len], ok.cH, ok.gH.putH hH, ok.g0.trans (Ex.new hG), fun b hb => ?_, ok.par, fun j q hj => ?_, fun j q hj => ?_, fun j k q r b hjk hj hk e1 e2 => ?_⟩
  · rw [upd_ne (fun z : b = a => hb (by rw [z]; exact hC))]
    exact ok.gC b hb
  · by_cases z : j = i
    · subst z
      rw [List.getElem?_set_self hlt] at hj
      cases hj
      exact ⟨_, ha, ht.frz hG⟩
    · rw [List.getElem?_set_ne (Ne.symm z)] at hj
      obtain ⟨x, h1, h2⟩ := ok.val j q hj
      exact ⟨x, h1, h2.mono (Ex.new hG)⟩
  · by_cases z : j = i
    · subst z
      rw [List.getElem?_set_self hlt] at hj
      cases hj
    · rw [List.getElem?_set_ne (Ne.symm z)] at hj
      obtain ⟨b, u, h1, h2, h3, h4, h5⟩ := ok.own j q hj
      refine ⟨b, u, h1, h2, ?_, h4, h5.mono (Ex.new hG)⟩
      rw [upd_ne (fun zz : b = a => ok.dis j i q p a z hj hi (by rw [← zz]; exact h1) ha)]
      exact h3
  · have hj' : j ≠ i := fun z => by
      subst z
      rw [List.getElem?_set_self hlt] at hj
      cases hj
    have hk' : k ≠ i := fun z => by
      subst z
      rw [List.getElem?_set_self hlt] at hk
      cases hk
    rw [List.getElem?_set_ne (Ne.symm hj')] at hj
    rw [List.getElem?_set_ne (Ne.symm hk')] at hk
    exact ok.dis j k q r b hjk hj hk e1 e2

section
variable {X : Cx} {Γ : Gam} {pos : Pos}

/-! ### names and constants -/
def eVar (i : Nat) : EF := fun ρ => match ρ[i]? with
  | some (.v p) => .ok p ρ
  | some (.own p) => .ok p (ρ.set i (.v p))
  | _ => .bad
theorem v_var {i : Nat} {e : Expr} (h : PE X e (tVar i)) (np : Γ.P i = none) : PE X e (DE Γ (eVar i)) := by
  refine PE.imp h fun σ H Q ⟨G, ρ, ok, q⟩ => ?_
  cases hi : ρ[i]? with
  | none => simp only [eVar, hi] at q; exact q.elim
  | some s =>
    cases s with
    | no => simp only [eVar, hi] at q; exact q.elim
    | v p =>
      simp only [eVar, hi] at q
      obtain ⟨x, h1, h2⟩ := ok.val i p hi
      exact ⟨x, h1, q x G H (Ex.refl G) ok h2⟩
    | own p =>
      simp only [eVar, hi] at q
      obtain ⟨a, o, h1, h2, h3, h4, h5⟩ := ok.own i p hi
      exact ⟨_, h1, q _ (upd G a o) H (Ex.new h3) (ok.freeze hi h1 h2 h3 h4 h5 np) (h5.frz h3)⟩
def eC (p : PV) : EF := fun ρ => .ok p ρ
theorem v_c {e : Expr} {v : V} {p : PV} (h : PE X e (tC v)) (r : ∀ G, Rep Γ.K Γ.mg G v p) : PE X e (DE Γ (eC p)) :=
  PE.imp h fun σ H Q ⟨G, ρ, ok, q⟩ => q v G H (Ex.refl G) ok (r G)
theorem v_int {i : Int} {j : Nat} : PE X (.Constant (.int i) j pos) (DE Γ (eC (.int i))) := v_c pe_int fun _ => .int i
theorem v_bl {i : Bool} {j : Nat} : PE X (.Constant (.bool i) j pos) (DE Γ (eC (.bl i))) := v_c pe_bl fun _ => .bl i
theorem v_str {i : Str} {j : Nat} : PE X (.Constant (.str i) j pos) (DE Γ (eC (.str i))) := v_c pe_str fun _ => .str i
theorem v_non {j : Nat} : PE X (.Constant .none j pos) (DE Γ (eC .non)) := v_c pe_non fun _ => .non

/-! ### operators -/
/-- the rule r of two values does what g says of their contents -/
def OpS (Γ : Gam) (r : R2) (g : PV → PV → Option PV) : Prop := ∀ (G H : Hp) (x y : V) (p q z : PV) (Q : VK), Ex G H → Rep Γ.K Γ.mg G x p → Rep Γ.K Γ.mg G y q → g p q = some z →
  (∀ v G' H', Grow G H G' H' → Rep Γ.K Γ.mg G' v z → Q v H') → r x y H Q
def oRes (o : Option PV) (ρ : PEnv) : ERes PV := match o with
  | some z => .ok z ρ
  | none => .bad
def eOp (g : PV → PV → Option PV) (fa fb : EF) : EF := fun ρ => (fa ρ).bind fun p ρ1 => (fb ρ1).bind fun q ρ2 => oRes (g p q) ρ2
theorem opImp {r : R2} {g : PV → PV → Option PV} {fa fb : EF} (os : OpS Γ r g) : ∀ σ H Q, DE Γ (eOp g fa fb) σ H Q → tOp r (DE Γ fa) (DE Γ fb) σ H Q := fun σ H Q ⟨G, ρ, ok, h⟩ => by
  refine DX.bindI ok h fun x G1 H1 p ρ1 e1 ok1 r1 h1 => ?_
  refine DX.bindI ok1 h1 fun y G2 H2 q ρ2 e2 ok2 r2 h2 => ?_
  cases hg : g p q with
  | none => rw [hg] at h2; exact h2.elim
  | some z =>
    rw [hg] at h2
    exact os G2 H2 x y p q z Q ok2.gH (r1.mono e2) r2 hg fun v G' H' gr rv => h2 v G' H' gr.gG (ok2.grow gr) rv
theorem v_op {a b : Expr} {fa fb : EF} {op : Operator} {r : R2} {g : PV → PV → Option PV} (ho : OpR X (binaryOp op) r) (os : OpS Γ r g) (ha : PE X a (DE Γ fa)) (hb : PE X b (DE Γ fb)) : PE X (.BinOp a op b pos) (DE Γ (eOp g fa fb)) :=
  PE.imp (pe_op ho ha hb) (opImp os)
theorem v_cmp {a b : Expr} {fa fb : EF} {op : CmpOp} {r : R2} {g : PV → PV → Option PV} (ho : OpR X (compareOp op) r) (os : OpS Γ r g) (ha : PE X a (DE Γ fa)) (hb : PE X b (DE Γ fb)) (hm : behindInMarks op b = false) : PE X (.Compare a [op] [b] pos) (DE Γ (eOp g fa fb)) :=
  PE.imp (pe_cmpR ho ha hb hm) (opImp os)
def eChain (g g' : PV → PV → Option PV) (fa fb fc : EF) : EF := fun ρ => (fa ρ).bind fun p ρ1 => (fb ρ1).bind fun q ρ2 => match g p q with
  | some (.bl true) => (fc ρ2).bind fun r ρ3 => oRes (g' q r) ρ3
  | some (.bl false) => .ok (.bl false) ρ2
  | _ => .bad
/-- the rule hands back what it was told, at the heap as it stands -/
def OpB (Γ : Gam) (r : R2) (g : PV → PV → Option PV) : Prop := ∀ (G H : Hp) (x y : V) (p q : PV) (b : Bool) (Q : VK), Ex G H → Rep Γ.K Γ.mg G x p → Rep Γ.K Γ.mg G y q → g p q = some (.bl b) → Q (.bl b) H → r x y H Q
theorem v_chain {a b c : Expr} {fa fb fc : EF} {op op' : CmpOp} {r r' : R2} {g g' : PV → PV → Option PV} (ho : OpR X (compareOp op) r) (ho' : OpR X (compareOp op') r') (os : OpB Γ r g) (os' : OpS Γ r' g')
    (ha : PE X a (DE Γ fa)) (hb : PE X b (DE Γ fb)) (hc : PE X c (DE Γ fc)) (hpe : PE X (.Compare a [op, op'] [b, c] pos) (tChain r r' (DE Γ fa) (DE Γ fb) (DE Γ fc))) : PE X (.Compare a [op, op'] [b, c] pos) (DE Γ (eChain g g' fa fb fc)) :=
  PE.imp hpe fun σ H Q ⟨G, ρ, ok, h⟩ => by
    refine DX.bindI ok h fun x G1 H1 p ρ1 e1 ok1 r1 h1 => ?_
    refine DX.bindI ok1 h1 fun y G2 H2 q ρ2 e2 ok2 r2 h2 => ?_
    cases hg : g p q with
    | none => rw [hg] at h2; exact h2.elim
    | some z =>
      rw [hg] at h2
      cases z with
      | bl k =>
        refine os G2 H2 x y p q k _ ok2.gH (r1.mono e2) r2 hg ⟨k, rfl, ?_⟩
        cases k with
        | true =>
          show DE Γ fc σ H2 _
          refine DX.bindI ok2 h2 fun w G3 H3 s ρ3 e3 ok3 r3 h3 => ?_
          cases hg' : g' q s with
          | none => rw [hg'] at h3; exact h3.elim
          | some z' =>
            rw [hg'] at h3
            exact os' G3 H3 y w q s z' Q ok3.gH (r2.mono e3) r3 hg' fun v G' H' gr rv => h3 v G' H' gr.gG (ok3.grow gr) rv
        | false =>
          show Q (.bl false) H2
          exact h2 _ G2 H2 (Ex.refl G2) ok2 (.bl false)
      | _ => exact h2.elim
def UnS (Γ : Gam) (r : V → Hp → VK → Prop) (g : PV → Option PV) : Prop := ∀ (G H : Hp) (x : V) (p z : PV) (Q : VK), Ex G H → Rep Γ.K Γ.mg G x p → g p = some z → (∀ v G' H', Grow G H G' H' → Rep Γ.K Γ.mg G' v z → Q v H') → r x H Q
def eUn (g : PV → Option PV) (fa : EF) : EF := fun ρ => (fa ρ).bind fun p ρ1 => oRes (g p) ρ1
theorem v_un {a : Expr} {fa : EF} {op : UnaryOp} {r : V → Hp → VK → Prop} {g : PV → Option PV} (ho : UnR X (unaryOp op) r) (os : UnS Γ r g) (ha : PE X a (DE Γ fa)) : PE X (.UnaryOp op a pos) (DE Γ (eUn g fa)) :=
  PE.imp (pe_un ho ha) fun σ H Q ⟨G, ρ, ok, h⟩ => by
    refine DX.bindI ok h fun x G1 H1 p ρ1 e1 ok1 r1 h1 => ?_
    cases hg : g p with
    | none => rw [hg] at h1; exact h1.elim
    | some z =>
      rw [hg] at h1
      exact os G1 H1 x p z Q ok1.gH r1 hg fun v G' H' gr rv => h1 v G' H' gr.gG (ok1.grow gr) rv

/-! ### what the operators do -/
def pAdd : PV → PV → Option PV
  | .int i, .int j => some (.int (i + j))
  | _, _ => none
def pSub : PV → PV → Option PV
  | .int i, .int j => some (.int (i - j))
  | _, _ => none
/-- the size to which numbers may grow -/
def big (n : Nat) (i : Int) : Bool := decide (i.natAbs < 2 ^ n)
def pMul : PV → PV → Option PV
  | .int i, .int j => if (decide ((-(2 ^ 64) < i ∧ i < 2 ^ 64) ∨ (-(2 ^ 64) < j ∧ j < 2 ^ 64)) || decide (i.natAbs.log2 + j.natAbs.log2 < 1000000)) = true then some (.int (i * j)) else none
  | _, _ => none
def pDiv : PV → PV → Option PV
  | .int i, .int j => if decide (j ≠ 0 ∧ j.natAbs.log2 < 9000) = true then some (.int (i.fdiv j)) else none
  | _, _ => none
def pMod : PV → PV → Option PV
  | .int i, .int j => if decide (j ≠ 0) = true then some (.int (i.fmod j)) else none
  | _, _ => none
def rMulA : R2 := fun x y H Q => rI CMul (fun i j => .int (i * j)) x y H Q ∨ rI CMulW (fun i j => .int (i * j)) x y H Q
theorem op_mulA : OpR X (binaryOp .Mult) rMulA := op_mul.or op_mulW
theorem s_add : OpS Γ (rI0 fun i j => .int (i + j)) pAdd := by
  intro G H x y p q z Q gh rx ry hg k
  cases p <;> cases q <;> first | (cases hg; done) | skip
  cases rx; cases ry; cases hg
  exact ⟨_, _, rfl, rfl, k _ G H (Grow.refl gh) (.int _)⟩
theorem s_sub : OpS Γ (rI0 fun i j => .int (i - j)) pSub := by
  intro G H x y p q z Q gh rx ry hg k
  cases p <;> cases q <;> first | (cases hg; done) | skip
  cases rx; cases ry; cases hg
  exact ⟨_, _, rfl, rfl, k _ G H (Grow.refl gh) (.int _)⟩
theorem s_mul : OpS Γ rMulA pMul := by
  intro G H x y p q z Q gh rx ry hg k
  cases p <;> cases q <;> first | (cases hg; done) | skip
  cases rx; cases ry
  simp only [pMul] at hg
  split at hg
  · rename_i c
    cases hg
    rcases Bool.or_eq_true_iff.mp c with c | c
    · exact .inl ⟨_, _, rfl, rfl, by have z := of_decide_eq_true c; exact z, k _ G H (Grow.refl gh) (.int _)⟩
    · exact .inr ⟨_, _, rfl, rfl, by have z := of_decide_eq_true c; exact z, k _ G H (Grow.refl gh) (.int _)⟩
  · cases hg
def CDivZ (_ j : Int) : Prop := j ≠ 0 ∧ j.natAbs.log2 < 9000
theorem op_fdivZ : OpR X (binaryOp .FloorDiv) (rI CDivZ fun i j => .int (i.fdiv j)) := opI fun _ _ _ _ _ _ _ hc q => floordiv_int hc.1 q (.inl (PyProof.noPylong_of_log2 hc.2))
theorem s_div : OpS Γ (rI CDivZ fun i j => .int (i.fdiv j)) pDiv := by
  intro G H x y p q z Q gh rx ry hg k
  cases p <;> cases q <;> first | (cases hg; done) | skip
  cases rx; cases ry
  simp only [pDiv] at hg
  split at hg
  · rename_i c
    cases hg
    exact ⟨_, _, rfl, rfl, by have z := of_decide_eq_true c; exact z, k _ G H (Grow.refl gh) (.int _)⟩
  · cases hg
theorem s_mod : OpS Γ (rI (fun _ j => j ≠ 0) fun i j => .int (i.fmod j)) pMod := by
  intro G H x y p q z Q gh rx ry hg k
  cases p <;> cases q <;> first | (cases hg; done) | skip
  cases rx; cases ry
  simp only [pMod] at hg
  split at hg
  · rename_i c
    cases hg
    exact ⟨_, _, rfl, rfl, by have z := of_decide_eq_true c; exact z, k _ G H (Grow.refl gh) (.int _)⟩
  · cases hg
def pPow : PV → PV → Option PV
  | .int i, .int j => if decide (0 ≤ j ∧ j ≤ 1000000 ∧ i.natAbs < 2 ^ 64) = true then some (.int (i ^ j.toNat)) else none
  | _, _ => none
theorem s_pow : OpS Γ (rI CPow fun i j => .int (i ^ j.toNat)) pPow := by
  intro G H x y p q z Q gh rx ry hg k
  cases p <;> cases q <;> first | (cases hg; done) | skip
  cases rx; cases ry
  simp only [pPow] at hg
  split at hg
  · rename_i c
    cases hg
    exact ⟨_, _, rfl, rfl, by have z := of_decide_eq_true c; exact z, k _ G H (Grow.refl gh) (.int _)⟩
  · cases hg
def pNeg : PV → Option PV
  | .int i => some (.int (-i))
  | _ => none
theorem s_neg : UnS Γ (rU fun i => .int (-i)) pNeg := by
  intro G H x p z Q gh rx hg k
  cases p <;> first | (cases hg; done) | skip
  cases rx; cases hg
  exact ⟨_, rfl, k _ G H (Grow.refl gh) (.int _)⟩
/-! order of whole numbers -/
def pCmp (f : Int → Int → Bool) : PV → PV → Option PV
  | .int i, .int j => some (.bl (f i j))
  | _, _ => none
theorem s_cmp {f : Int → Int → Bool} : OpS Γ (rI0 fun i j => .bl (f i j)) (pCmp f) := by
  intro G H x y p q z Q gh rx ry hg k
  cases p <;> cases q <;> first | (cases hg; done) | skip
  cases rx; cases ry; cases hg
  exact ⟨_, _, rfl, rfl, k _ G H (Grow.refl gh) (.bl _)⟩
theorem s_cmpB {f : Int → Int → Bool} : OpB Γ (rI0 fun i j => .bl (f i j)) (pCmp f) := by
  intro G H x y p q b Q gh rx ry hg k
  cases p <;> cases q <;> first | (cases hg; done) | skip
  cases rx; cases ry; cases hg
  exact ⟨_, _, rfl, rfl, k⟩
/-! == at any depth -/
mutual
def toD : PV → Option PyData
  | .non => some .none
  | .bl b => some (.bool b)
  | .int i => some (.int i)
  | .str x => some (.str x)
  | .tup xs => match toDs xs with
    | some ds => some (.tuple ds)
    | none => none
  | .lst xs => match toDs xs with
    | some ds => some (.list ds)
    | none => none
  | _ => none
def toDs : List PV → Option (List PyData)
  | [] => some []
  | x :: xs => match toD x with
    | some d => match toDs xs with
      | some ds => some (d :: ds)
      | none => none
    | none => none
end
mutual
theorem toD_dp {K : PySem.W.Frag} {mg : Str → Option Value} {G : Hp} : ∀ {v : V} {p : PV} {d : PyData}, Rep K mg G v p → toD p = some d → Dp K G v d
  | _, _, _, .non, e => by simp only [toD] at e; cases e; exact .non
  | _, _, _, .bl b, e => by simp only [toD] at e; cases e; exact .bl b
  | _, _, _, .int b, e => by simp only [toD] at e; cases e; exact .int b
  | _, _, _, .str b, e => by simp only [toD] at e; cases e; exact .str b
  | _, .tup xs, _, .tup h r, e => by
    simp only [toD] at e
    cases q : toDs xs with
    | none => rw [q] at e; cases e
    | some ds => rw [q] at e; cases e; exact .tup h (toDs_dp r q)
  | _, .lst xs, _, .lst h r, e => by
    simp only [toD] at e
    cases q : toDs xs with
    | none => rw [q] at e; cases e
    | some ds => rw [q] at e; cases e; exact .lst (.inl h) (toDs_dp r q)
  | _, _, _, .obj _ _ _, e => by simp only [toD] at e; cases e
  | _, _, _, .scr _ _, e => by simp only [toD] at e; cases e
  | _, _, _, .atm _, e => by simp only [toD] at e; cases e
theorem toDs_dp {K : PySem.W.Frag} {mg : Str → Option Value} {G : Hp} : ∀ {v : List V} {p : List PV} {d : List PyData}, Reps K mg G v p → toDs p = some d → DpAll K G v d
  | _, _, _, .nil, e => by simp only [toDs] at e; cases e; exact .nil
  | _, x :: xs, _, .cons h r, e => by
    simp only [toDs] at e
    cases q : toD x with
    | none => rw [q] at e; cases e
    | some d =>
      rw [q] at e
      simp only at e
      cases q2 : toDs xs with
      | none => rw [q2] at e; cases e
      | some ds => rw [q2] at e; cases e; exact .cons (toD_dp h q) (toDs_dp r q2)
end
def pEqB (p q : PV) : Option Bool := match toD p, toD q with
  | some d, some e => if (SeqAt.shaped d && SeqAt.shaped e) = true then some (PyData.eqv d e) else none
  | _, _ => none
def pEq (p q : PV) : Option PV := match pEqB p q with
  | some b => some (.bl b)
  | none => none
def pNe (p q : PV) : Option PV := match pEqB p q with
  | some b => some (.bl (!b))
  | none => none
mutual
theorem dp_mono {K : PySem.W.Frag} {H H' : Hp} (e : Ex H H') : ∀ {v : V} {d : PyData}, Dp K H v d → Dp K H' v d
  | _, _, .non => .non
  | _, _, .bl b => .bl b
  | _, _, .int b => .int b
  | _, _, .str b => .str b
  | _, _, .lst h r => .lst (e.sqL h) (dps_mono e r)
  | _, _, .tup h r => .tup (e.sqT h) (dps_mono e r)
theorem dps_mono {K : PySem.W.Frag} {H H' : Hp} (e : Ex H H') : ∀ {v : List V} {d : List PyData}, DpAll K H v d → DpAll K H' v d
  | _, _, .nil => .nil
  | _, _, .cons h r => .cons (dp_mono e h) (dps_mono e r)
end
theorem eqB_dp {G H : Hp} {x y : V} {p q : PV} {b : Bool} (gh : Ex G H) (rx : Rep Γ.K Γ.mg G x p) (ry : Rep Γ.K Γ.mg G y q) (h : pEqB p q = some b) :
    ∃ d e, Dp Γ.K H x d ∧ Dp Γ.K H y e ∧ SeqAt.shaped d = true ∧ SeqAt.shaped e = true ∧ PyData.eqv d e = b := by
  unfold pEqB at h
  cases hp : toD p with
  | none => rw [hp] at h; cases h
  | some d =>
    cases hq : toD q with
    | none => rw [hp, hq] at h; cases h
    | some e =>
      rw [hp, hq] at h
      simp only at h
      split at h
      · rename_i c
        obtain ⟨c1, c2⟩ := Bool.and_eq_true_iff.mp c
        exact ⟨d, e, dp_mono gh (toD_dp rx hp), dp_mono gh (toD_dp ry hq), c1, c2, Option.some.inj h⟩
      · cases h
theorem s_eqD : OpS Γ (rEqD Γ.K) pEq := by
  intro G H x y p q z Q gh rx ry hg k
  unfold pEq at hg
  cases hb : pEqB p q with
  | none => rw [hb] at hg; cases hg
  | some b =>
    rw [hb] at hg
    cases hg
    obtain ⟨d, e, h1, h2, h3, h4, h5⟩ := eqB_dp gh rx ry hb
    exact ⟨d, e, h1, h2, h3, h4, by rw [h5]; exact k _ G H (Grow.refl gh) (.bl _)⟩
theorem s_neD : OpS Γ (rNeD Γ.K) pNe := by
  intro G H x y p q z Q gh rx ry hg k
  unfold pNe at hg
  cases hb : pEqB p q with
  | none => rw [hb] at hg; cases hg
  | some b =>
    rw [hb] at hg
    cases hg
    obtain ⟨d, e, h1, h2, h3, h4, h5⟩ := eqB_dp gh rx ry hb
    exact ⟨d, e, h1, h2, h3, h4, by rw [h5]; exact k _ G H (Grow.refl gh) (.bl _)⟩
/-! is None, is True, is False -/
end
end PL
end

section
set_option Elab.async false
set_option linter.all false
set_option maxRecDepth 100000
set_option maxHeartbeats 4000000
set_option autoImplicit false
namespace PL
open PySem PySem.Spec PyProof.Rows L2

theorem EnvOk.addG {Γ : Gam} {G H : Hp} {σ : L2.St} {ρ : PEnv} {a : Addr} {o : HO} (ok : EnvOk Γ G σ H ρ) (hC : Γ.C a = none) (hG : G a = none) (hH : H a = some o)
    (hn : ∀ (i : Nat) (q : PV), ρ[i]? = some (Slot.own q) → σ[i]? ≠ some (some (V.ref a))) : EnvOk Γ (upd G a o) σ H ρ := by
  refine ⟨ok.len, ok.cH, ok.gH.putH hH, ok.g0.trans (Ex.new hG), fun b hb => ?_, ok.par, fun j q hj => ?_, fun j q hj => ?_, ok.dis⟩
  · rw [upd_ne (fun z : b = a => hb (by rw [z]; exact hC))]
    exact ok.gC b hb
  · obtain ⟨x, h1, h2⟩ := ok.val j q hj
    exact ⟨x, h1, h2.mono (Ex.new hG)⟩
  · obtain ⟨b, u, h1, h2, h3, h4, h5⟩ := ok.own j q hj
    refine ⟨b, u, h1, h2, ?_, h4, h5.mono (Ex.new hG)⟩
    rw [upd_ne (fun zz : b = a => hn j q hj (by rw [← zz]; exact h1))]
    exact h3
theorem EnvOk.notOwn {Γ : Gam} {G H : Hp} {σ : L2.St} {ρ : PEnv} {a : Addr} (ok : EnvOk Γ G σ H ρ) (hH : H a = none) (i : Nat) (q : PV) (hi : ρ[i]? = some (Slot.own q)) : σ[i]? ≠ some (some (V.ref a)) := fun z => by
  obtain ⟨b, u, h1, h2, h3, h4, h5⟩ := ok.own i q hi
  rw [h1] at z
  cases z
  rw [hH] at h4
  cases h4

section
variable {X : Cx} {Γ : Gam} {pos : Pos}
/-! ### fresh things -/
def PostF (Γ : Gam) (r : ERes PV) (G : Hp) (σ : L2.St) (Q : VK) : Prop := match r with
  | .ok p ρ' => ∀ a o G' H', Ex G G' → EnvOk Γ G' σ H' ρ' → Γ.C a = none → G' a = none → H' a = some o → Top Γ.K Γ.mg G' o p → (∀ (i : Nat) (q : PV), ρ'[i]? = some (Slot.own q) → σ[i]? ≠ some (some (V.ref a))) → Q (.ref a) H'
  | .exc c fs ρ' => ExcPost Γ c fs ρ' G σ
  | .bad => False
def DF (Γ : Gam) (f : EF) : TE := fun σ H Q => ∃ G ρ, EnvOk Γ G σ H ρ ∧ PostF Γ (f ρ) G σ Q
theorem PostF.mono {r : ERes PV} {G G1 : Hp} {σ : L2.St} {Q : VK} (e : Ex G G1) (h : PostF Γ r G σ Q) : PostF Γ r G1 σ Q := by
  cases r with
  | ok p ρ' => exact fun a o G' H' h1 => h a o G' H' (e.trans h1)
  | exc c fs ρ' => exact ExcPost.mono e h
  | bad => exact h
theorem DX.bindF {α1 β1 : Type} {rel1 : Hp → β1 → α1 → Prop} {f : PEnv → ERes α1} {k : α1 → PEnv → ERes PV} {G H : Hp} {σ : L2.St} {ρ : PEnv} {Q : VK} {Q1 : β1 → Hp → Prop}
    (ok : EnvOk Γ G σ H ρ) (h : PostF Γ ((f ρ).bind k) G σ Q)
    (c : ∀ v G1 H1 p ρ1, Ex G G1 → EnvOk Γ G1 σ H1 ρ1 → rel1 G1 v p → PostF Γ (k p ρ1) G1 σ Q → Q1 v H1) : DX Γ rel1 f σ H Q1 := by
  refine ⟨G, ρ, ok, ?_⟩
  cases e : f ρ with
  | ok p ρ1 =>
    rw [e] at h
    exact fun v G1 H1 h1 h2 h3 => c v G1 H1 p ρ1 h1 h2 h3 (PostF.mono h1 h)
  | exc a fs ρ1 =>
    rw [e] at h
    exact h
  | bad =>
    rw [e] at h
    exact h
/-- a fresh thing that nobody will change -/
theorem v_frz {e : Expr} {f : EF} (h : PE X e (DF Γ f)) : PE X e (DE Γ f) := PE.imp h fun σ H Q ⟨G, ρ, ok, q⟩ => by
  refine ⟨G, ρ, ok, ?_⟩
  cases hf : f ρ with
  | ok p ρ' =>
    rw [hf] at q
    exact fun a o G' H' h1 h2 h3 h4 h5 h6 h7 => q _ (upd G' a o) H' (h1.trans (Ex.new h4)) (h2.addG h3 h4 h5 h7) (h6.frz h4)
  | exc c fs ρ' => rw [hf] at q; exact q
  | bad => rw [hf] at q; exact q

/-! ### arguments, displays -/
def aNil : AF := fun ρ => .ok [] ρ
def aCons (fa : EF) (fr : AF) : AF := fun ρ => (fa ρ).bind fun p ρ1 => (fr ρ1).bind fun ps ρ2 => .ok (p :: ps) ρ2
theorem v_nil : PA X [] (DA Γ aNil) := PA.imp pa_nil fun σ H Q ⟨G, ρ, ok, h⟩ => h [] G H (Ex.refl G) ok .nil
theorem v_cons {e : Expr} {es : List Expr} {fa : EF} {fr : AF} (ha : PE X e (DE Γ fa)) (hr : PA X es (DA Γ fr)) (hs : starEach (e :: es) X.env = (false, eval e X.env) :: starEach es X.env := by rfl) : PA X (e :: es) (DA Γ (aCons fa fr)) :=
  PA.imp (pa_cons ha hr hs) fun σ H Q ⟨G, ρ, ok, h⟩ => by
    refine DX.bindI ok h fun x G1 H1 p ρ1 e1 ok1 r1 h1 => ?_
    refine DX.bindI ok1 h1 fun xs G2 H2 ps ρ2 e2 ok2 r2 h2 => ?_
    exact h2 (x :: xs) G2 H2 (Ex.refl G2) ok2 (.cons (r1.mono e2) r2)
theorem szOk {n : Nat} (h : n ≤ 100000) : n ≤ sizeLine := Nat.le_trans h (by rw [sizeLine_eq]; decide)
def eTup (fa : AF) : EF := fun ρ => (fa ρ).bind fun ps ρ1 => if decide (ps.length ≤ 100000) = true then .ok (.tup ps) ρ1 else .bad
theorem v_tup {es : List Expr} {fa : AF} {x1 : Nat} (ha : PA X es (DA Γ fa)) : PE X (.Tuple es x1 pos) (DE Γ (eTup fa)) :=
  PE.imp (pe_tup ha) fun σ H Q ⟨G, ρ, ok, h⟩ => by
    refine DX.bindI ok h fun xs G1 H1 ps ρ1 e1 ok1 r1 h1 => ?_
    split at h1
    · rename_i c
      have c' := of_decide_eq_true c
      refine ⟨szOk (by rw [r1.length]; exact c'), fun p hp => ?_⟩
      exact h1 _ (upd G1 p (.tup xs)) _ (Ex.new (ok1.gH.none hp)) (ok1.grow (Grow.new ok1.gH hp)) (Rep.newT (ok1.gH.none hp) r1)
    · exact h1.elim
def eLst (fa : AF) : EF := fun ρ => (fa ρ).bind fun ps ρ1 => if decide (ps.length ≤ 100000) = true then .ok (.lst ps) ρ1 else .bad
theorem f_lst {es : List Expr} {fa : AF} (ha : PA X es (DA Γ fa)) : PE X (.List es pos) (DF Γ (eLst fa)) :=
  PE.imp (pe_lst ha) fun σ H Q ⟨G, ρ, ok, h⟩ => by
    refine DX.bindF ok h fun xs G1 H1 ps ρ1 e1 ok1 r1 h1 => ?_
    split at h1
    · rename_i c
      have c' := of_decide_eq_true c
      refine ⟨szOk (by rw [r1.length]; exact c'), fun p hp => ?_⟩
      exact h1 p (.lst xs) G1 _ (Ex.refl G1) (ok1.grow (Grow.newH ok1.gH hp)) (ok1.cH.none hp) (ok1.gH.none hp) upd_same (.lst r1) fun i q hi => ok1.notOwn hp i q hi
    · exact h1.elim
theorem v_lst {es : List Expr} {fa : AF} (ha : PA X es (DA Γ fa)) : PE X (.List es pos) (DE Γ (eLst fa)) := v_frz (f_lst ha)

/-! ### tests -/
def pTru : PV → Option Bool
  | .non => some false
  | .bl b => some b
  | .int i => some (i != 0)
  | .str y => if decide (y.length ≤ 100000) = true then some ((y.length : Int) != 0) else none
  | .tup xs => some (!xs.isEmpty)
  | .lst xs => some (!xs.isEmpty)
  | _ => none
def tRes (o : Option Bool) (ρ : PEnv) : ERes Bool := match o with
  | some z => .ok z ρ
  | none => .bad
theorem Reps.isEmpty {K : PySem.W.Frag} {mg : Str → Option Value} {G : Hp} {vs : List V} {ps : List PV} (r : Reps K mg G vs ps) : vs.isEmpty = ps.isEmpty := by
  cases r <;> rfl
theorem truV {H G : Hp} {x : V} {p : PV} {k : Bool} (gh : Ex G H) (r : Rep Γ.K Γ.mg G x p) (h : pTru p = some k) : TruV Γ.K x H k := by
  cases r with
  | non => cases h; rfl
  | bl b => cases h; rfl
  | int b => cases h; rfl
  | str y =>
    simp only [pTru] at h
    split at h
    · rename_i c
      cases h
      exact ⟨szOk (of_decide_eq_true c), rfl⟩
    · cases h
  | tup h1 r1 => cases h; exact .inr (.inl ⟨_, gh.sqT h1, by rw [r1.isEmpty]⟩)
  | lst h1 r1 => cases h; exact .inl ⟨_, .inl (gh.rd h1), by rw [r1.isEmpty]⟩
  | scr h1 r1 => cases h
  | obj _ _ _ => cases h
  | atm v => cases h
def tTru (f : EF) : TF := fun ρ => (f ρ).bind fun p ρ1 => tRes (pTru p) ρ1
theorem t_tru (hx : OkX X Γ) {e : Expr} {f : EF} (h : PE X e (DE Γ f)) (he : ∀ whole, isTrue e X.env whole = (do let v ← whole; standAt e.pos; holding [v] (truthy v)) := by intro _; rfl) : PT X e (DT Γ (tTru f)) :=
  PT.imp (pt_truth h he) fun σ H Q ⟨G, ρ, ok, q⟩ => by
    refine DX.bindI ok q fun x G1 H1 p ρ1 e1 ok1 r1 h1 => ?_
    cases hp : pTru p with
    | none => rw [hp] at h1; exact h1.elim
    | some k =>
      rw [hp] at h1
      exact ⟨k, by rw [hx.k]; exact truV ok1.gH r1 hp, h1 k G1 H1 (Ex.refl G1) ok1 rfl⟩
def tNo (f : TF) : TF := fun ρ => (f ρ).bind fun b ρ1 => .ok (!b) ρ1
theorem t_not {e : Expr} {f : TF} (h : PT X e (DT Γ f)) : PT X (.UnaryOp .Not e pos) (DT Γ (tNo f)) :=
  PT.imp (pt_not h) fun σ H Q ⟨G, ρ, ok, q⟩ => by
    refine DX.bindI ok q fun x G1 H1 p ρ1 e1 ok1 r1 h1 => ?_
    have r1' : x = p := r1
    subst r1'
    exact h1 _ G1 H1 (Ex.refl G1) ok1 rfl
def tAn (f g : TF) : TF := fun ρ => (f ρ).bind fun b ρ1 => if b = true then g ρ1 else .ok false ρ1
def tOo (f g : TF) : TF := fun ρ => (f ρ).bind fun b ρ1 => if b = true then .ok true ρ1 else g ρ1
theorem w_and {e b : Expr} {rest : List Expr} {f g : TF} (h : PT X e (DT Γ f)) (hr : PW X (.BoolOp .And (b :: rest) pos) (DT Γ g)) : PW X (.BoolOp .And (e :: b :: rest) pos) (DT Γ (tAn f g)) :=
  PW.imp (pw_and h hr) fun σ H Q ⟨G, ρ, ok, q⟩ => by
    refine DX.bindI ok q fun x G1 H1 p ρ1 e1 ok1 r1 h1 => ?_
    have r1' : x = p := r1
    subst r1'
    cases x with
    | true => exact ⟨G1, ρ1, ok1, h1⟩
    | false => exact h1 false G1 H1 (Ex.refl G1) ok1 rfl
theorem w_and1 {e : Expr} {f : TF} (h : PT X e (DT Γ f)) : PW X (.BoolOp .And [e] pos) (DT Γ f) := pw_and1 h
theorem w_or {e b : Expr} {rest : List Expr} {f g : TF} (h : PT X e (DT Γ f)) (hr : PW X (.BoolOp .Or (b :: rest) pos) (DT Γ g)) : PW X (.BoolOp .Or (e :: b :: rest) pos) (DT Γ (tOo f g)) :=
  PW.imp (pw_or h hr) fun σ H Q ⟨G, ρ, ok, q⟩ => by
    refine DX.bindI ok q fun x G1 H1 p ρ1 e1 ok1 r1 h1 => ?_
    have r1' : x = p := r1
    subst r1'
    cases x with
    | true => exact h1 true G1 H1 (Ex.refl G1) ok1 rfl
    | false => exact ⟨G1, ρ1, ok1, h1⟩
theorem w_or1 {e : Expr} {f : TF} (h : PT X e (DT Γ f)) : PW X (.BoolOp .Or [e] pos) (DT Γ f) := pw_or1 h
/-! values -/
def eAnd (fa fb : EF) : EF := fun ρ => (fa ρ).bind fun p ρ1 => match pTru p with
  | some true => fb ρ1
  | some false => .ok p ρ1
  | none => .bad
def eOr (fa fb : EF) : EF := fun ρ => (fa ρ).bind fun p ρ1 => match pTru p with
  | some true => .ok p ρ1
  | some false => fb ρ1
  | none => .bad
theorem v_and (hx : OkX X Γ) {e b : Expr} {rest : List Expr} {fa fb : EF} (h : PE X e (DE Γ fa)) (hr : PE X (.BoolOp .And (b :: rest) pos) (DE Γ fb)) : PE X (.BoolOp .And (e :: b :: rest) pos) (DE Γ (eAnd fa fb)) :=
  PE.imp (pe_andT h hr) fun σ H Q ⟨G, ρ, ok, q⟩ => by
    refine DX.bindI ok q fun x G1 H1 p ρ1 e1 ok1 r1 h1 => ?_
    cases hp : pTru p with
    | none => simp only [hp] at h1; exact h1.elim
    | some k =>
      simp only [hp] at h1
      refine ⟨k, by rw [hx.k]; exact truV ok1.gH r1 hp, ?_⟩
      cases k with
      | true => exact ⟨G1, ρ1, ok1, h1⟩
      | false => exact h1 x G1 H1 (Ex.refl G1) ok1 r1
theorem v_or (hx : OkX X Γ) {e b : Expr} {rest : List Expr} {fa fb : EF} (h : PE X e (DE Γ fa)) (hr : PE X (.BoolOp .Or (b :: rest) pos) (DE Γ fb)) : PE X (.BoolOp .Or (e :: b :: rest) pos) (DE Γ (eOr fa fb)) :=
  PE.imp (pe_orT h hr) fun σ H Q ⟨G, ρ, ok, q⟩ => by
    refine DX.bindI ok q fun x G1 H1 p ρ1 e1 ok1 r1 h1 => ?_
    cases hp : pTru p with
    | none => simp only [hp] at h1; exact h1.elim
    | some k =>
      simp only [hp] at h1
      refine ⟨k, by rw [hx.k]; exact truV ok1.gH r1 hp, ?_⟩
      cases k with
      | false => exact ⟨G1, ρ1, ok1, h1⟩
      | true => exact h1 x G1 H1 (Ex.refl G1) ok1 r1
theorem v_one {e : Expr} {op : BoolOp} {fa : EF} (h : PE X e (DE Γ fa)) : PE X (.BoolOp op [e] pos) (DE Γ fa) := pe_one h
def eNot (f : EF) : EF := fun ρ => (f ρ).bind fun p ρ1 => match pTru p with
  | some k => .ok (.bl (!k)) ρ1
  | none => .bad
def eIf (t : TF) (fa fb : EF) : EF := fun ρ => (t ρ).bind fun b ρ1 => if b = true then fa ρ1 else fb ρ1
theorem v_if {c a b : Expr} {t : TF} {fa fb : EF} (hc : PT X c (DT Γ t)) (ha : PE X a (DE Γ fa)) (hb : PE X b (DE Γ fb)) : PE X (.IfExp c a b pos) (DE Γ (eIf t fa fb)) :=
  PE.imp (pe_ifExp hc ha hb) fun σ H Q ⟨G, ρ, ok, q⟩ => by
    refine DX.bindI ok q fun x G1 H1 p ρ1 e1 ok1 r1 h1 => ?_
    have r1' : x = p := r1
    subst r1'
    cases x with
    | true => exact ⟨G1, ρ1, ok1, h1⟩
    | false => exact ⟨G1, ρ1, ok1, h1⟩

/-! ### items -/
def rIxA (K : PySem.W.Frag) : R2 := fun x y H Q => rIxL K x y H Q ∨ rIxT K x y H Q
theorem ix_any : IxR X (rIxA X.K) := fun value slice pins s σ H x y v u Q I r1 r2 h hs => by
  rcases h with h | h
  · exact ix_list value slice pins s σ H x y v u Q I r1 r2 h hs
  · exact ix_tup value slice pins s σ H x y v u Q I r1 r2 h hs
theorem Reps.at {K : PySem.W.Frag} {mg : Str → Option Value} {G : Hp} {vs : List V} {ps : List PV} {i : Int} {q : PV} (r : Reps K mg G vs ps) (h : atI ps i = some q) : ∃ v, atI vs i = some v ∧ Rep K mg G v q := by
  unfold atI at h ⊢
  rw [r.length]
  cases e : ixN ps.length i with
  | none => rw [e] at h; cases h
  | some j =>
    rw [e] at h
    exact r.get h
def pIx : PV → PV → Option PV
  | .lst xs, .int i => atI xs i
  | .tup xs, .int i => atI xs i
  | _, _ => none
theorem s_ix : OpS Γ (rIxA Γ.K) pIx := by
  intro G H x y p q z Q gh rx ry hg k
  cases p <;> cases q <;> first | (cases hg; done) | skip
  · cases ry
    cases rx with
    | tup h r =>
      obtain ⟨v, h1, h2⟩ := r.at hg
      exact .inr ⟨_, _, _, v, rfl, rfl, gh.sqT h, h1, k v G H (Grow.refl gh) h2⟩
  · cases ry
    cases rx with
    | lst h r =>
      obtain ⟨v, h1, h2⟩ := r.at hg
      exact .inl ⟨_, _, _, v, rfl, rfl, .inl (gh.rd h), h1, k v G H (Grow.refl gh) h2⟩
theorem v_ix (hx : OkX X Γ) {a b : Expr} {fa fb : EF} (ha : PE X a (DE Γ fa)) (hb : PE X b (DE Γ fb)) (hs : PlainIx b := by exact fun _ _ => rfl) : PE X (.Subscript a b pos) (DE Γ (eOp pIx fa fb)) := by
  have h := pe_ix (pos := pos) (ix_any (X := X)) ha hb hs
  rw [hx.k] at h
  exact PE.imp h (opImp s_ix)
/-- an item of an owned list -/
def eIxO (i : Nat) (fb : EF) : EF := fun ρ => match ρ[i]? with
  | some (.own _) => (fb ρ).bind fun q ρ1 => match ρ1[i]? with
    | some (.own (.lst xs)) => oRes (pIx (.lst xs) q) ρ1
    | _ => .bad
  | _ => .bad
theorem v_ixO (hx : OkX X Γ) {a b : Expr} {i : Nat} {fb : EF} (ha : PE X a (tVar i)) (hb : PE X b (DE Γ fb)) (hs : PlainIx b := by exact fun _ _ => rfl) : PE X (.Subscript a b pos) (DE Γ (eIxO i fb)) := by
  have h := pe_ix (pos := pos) (ix_any (X := X)) ha hb hs
  rw [hx.k] at h
  refine PE.imp h fun σ H Q ⟨G, ρ, ok, q⟩ => ?_
  cases hi : ρ[i]? with
  | none => simp only [eIxO, hi] at q; exact q.elim
  | some s =>
    cases s with
    | own p =>
      simp only [eIxO, hi] at q
      obtain ⟨a, o, h1, h2, h3, h4, h5⟩ := ok.own i p hi
      refine ⟨_, h1, ?_⟩
      refine DX.bindI ok q fun y G1 H1 q' ρ1 e1 ok1 r1 k1 => ?_
      cases hj : ρ1[i]? with
      | none => simp only [hj] at k1; exact k1.elim
      | some s1 =>
        cases s1 with
        | own p1 =>
          cases p1 with
          | lst xs =>
            simp only [hj] at k1
            obtain ⟨a', o', g1, g2, g3, g4, g5⟩ := ok1.own i _ hj
            rw [h1] at g1
            cases g1
            cases q' with
            | int n =>
              cases g5 with
              | lst rr =>
                cases r1
                cases hz : pIx (.lst xs) (.int n) with
                | none => rw [hz] at k1; exact k1.elim
                | some z =>
                  rw [hz] at k1
                  obtain ⟨w, w1, w2⟩ := rr.at hz
                  exact .inl ⟨_, _, _, w, rfl, rfl, .inl (.inl g4), w1, k1 w G1 H1 (Ex.refl G1) ok1 w2⟩
            | _ => exact k1.elim
          | _ => simp only [hj] at k1; exact k1.elim
        | _ => simp only [hj] at k1; exact k1.elim
    | _ => simp only [eIxO, hi] at q; exact q.elim
end
end PL
end

section
set_option Elab.async false
set_option linter.all false
set_option maxRecDepth 100000
set_option maxHeartbeats 4000000
set_option autoImplicit false
namespace PL
open PySem PySem.Spec PyProof.Rows L2
section
variable {X : Cx} {Γ : Gam} {pos : Pos}
/-! ### calls of built-ins -/
def CallS (Γ : Gam) (r : List V → Hp → VK → Prop) (g : List PV → Option PV) : Prop := ∀ (G H : Hp) (vs : List V) (ps : List PV) (z : PV) (Q : VK), Ex G H → Reps Γ.K Γ.mg G vs ps → g ps = some z →
  (∀ v G' H', Grow G H G' H' → Rep Γ.K Γ.mg G' v z → Q v H') → r vs H Q
def eCall (g : List PV → Option PV) (fa : AF) : EF := fun ρ => (fa ρ).bind fun ps ρ1 => oRes (g ps) ρ1
theorem callImp {r : List V → Hp → VK → Prop} {g : List PV → Option PV} {fa : AF} (os : CallS Γ r g) : ∀ σ H Q, DE Γ (eCall g fa) σ H Q → tCB r (DA Γ fa) σ H Q := fun σ H Q ⟨G, ρ, ok, h⟩ => by
  refine DX.bindI ok h fun xs G1 H1 ps ρ1 e1 ok1 r1 h1 => ?_
  cases hg : g ps with
  | none => rw [hg] at h1; exact h1.elim
  | some z =>
    rw [hg] at h1
    exact os G1 H1 xs ps z Q ok1.gH r1 hg fun v G' H' gr rv => h1 v G' H' gr.gG (ok1.grow gr) rv
theorem v_callB {id : String} {r : List V → Hp → VK → Prop} {g : List PV → Option PV} {x : Str} {p : Pos} {e : Expr} {es : List Expr} {fa : AF} (hc : CallR X (.builtin id) r) (os : CallS Γ r g) (hg : Gl X x) (hm : X.mg x = none) (hv : bootBuiltins x = some (.builtin id)) (ha : PA X (e :: es) (DA Γ fa))
    (hn : x ≠ "__name__" := by decide) (hdb : (x == ("__debug__" : Str)) = false := by decide)
    (he : starEach (e :: es) X.env = (false, eval e X.env) :: starEach es X.env := by rfl) (hpl : (backTo pos (starEach es X.env)).any (·.1) = false := by rfl) : PE X (.Call (.Name x p) (e :: es) [] pos) (DE Γ (eCall g fa)) :=
  PE.imp (pe_callB hc hg hm hv ha hn hdb he hpl) (callImp os)
theorem v_callTy {T : String} {r : List V → Hp → VK → Prop} {g : List PV → Option PV} {x : Str} {p : Pos} {e : Expr} {es : List Expr} {fa : AF} (hc : CallR X (.type T) r) (os : CallS Γ r g) (hg : Gl X x) (hm : X.mg x = none) (hv : bootBuiltins x = some (.type T)) (ha : PA X (e :: es) (DA Γ fa))
    (hn : x ≠ "__name__" := by decide) (hdb : (x == ("__debug__" : Str)) = false := by decide)
    (he : starEach (e :: es) X.env = (false, eval e X.env) :: starEach es X.env := by rfl) (hpl : (backTo pos (starEach es X.env)).any (·.1) = false := by rfl) : PE X (.Call (.Name x p) (e :: es) [] pos) (DE Γ (eCall g fa)) :=
  PE.imp (pe_callTy hc hg hm hv ha hn hdb he hpl) (callImp os)
theorem v_callBf {id : String} {r : List V → Hp → VK → Prop} {g : List PV → Option PV} {x : Str} {p : Pos} {e : Expr} {es : List Expr} {fa : AF} (hc : CallR X (.builtin id) r) (os : CallS Γ r g) (hg : Gl X x) (hm : X.mg x = some (.builtin id)) (ha : PA X (e :: es) (DA Γ fa))
    (hdb : (x == ("__debug__" : Str)) = false := by decide)
    (he : starEach (e :: es) X.env = (false, eval e X.env) :: starEach es X.env := by rfl) (hpl : (backTo pos (starEach es X.env)).any (·.1) = false := by rfl) : PE X (.Call (.Name x p) (e :: es) [] pos) (DE Γ (eCall g fa)) :=
  PE.imp (pe_callBfun hc hg hm ha hdb he hpl) (callImp os)
theorem reps1 {K : PySem.W.Frag} {mg : Str → Option Value} {G : Hp} {vs : List V} {p : PV} (r : Reps K mg G vs [p]) : ∃ v, vs = [v] ∧ Rep K mg G v p := by
  cases r with
  | cons h t => cases t; exact ⟨_, rfl, h⟩
theorem reps2 {K : PySem.W.Frag} {mg : Str → Option Value} {G : Hp} {vs : List V} {p q : PV} (r : Reps K mg G vs [p, q]) : ∃ v w, vs = [v, w] ∧ Rep K mg G v p ∧ Rep K mg G w q := by
  cases r with
  | cons h t =>
    obtain ⟨w, rfl, h2⟩ := reps1 t
    exact ⟨_, w, rfl, h, h2⟩
def pLen : List PV → Option PV
  | [.str y] => if decide (y.length ≤ 100000) = true then some (.int y.length) else none
  | [.lst xs] => some (.int xs.length)
  | [.tup xs] => some (.int xs.length)
  | [.scr xs] => some (.int xs.length)
  | _ => none
theorem c_len : CallS Γ (fun xs H Q => ∃ x n, xs = [x] ∧ LenV Γ.K x H n ∧ Q (.int n) H) pLen := by
  intro G H vs ps z Q gh r hg k
  cases r with
  | nil => cases hg
  | cons r1 r2 =>
    cases r2 with
    | cons _ _ => rename_i p _ _ _ _ _ _; cases p <;> cases hg
    | nil =>
      cases r1 with
      | str y =>
        simp only [pLen] at hg
        split at hg
        · rename_i c
          cases hg
          exact ⟨_, y.length, rfl, ⟨szOk (of_decide_eq_true c), rfl⟩, k _ G H (Grow.refl gh) (.int _)⟩
        · cases hg
      | scr h rr => cases hg; exact ⟨_, _, rfl, .inl ⟨_, gh.sqL h, rfl⟩, k _ G H (Grow.refl gh) (by rw [rr.length]; exact .int _)⟩
      | lst h rr => cases hg; exact ⟨_, _, rfl, .inl ⟨_, .inl (gh.rd h), rfl⟩, k _ G H (Grow.refl gh) (by rw [rr.length]; exact .int _)⟩
      | tup h rr => cases hg; exact ⟨_, _, rfl, .inr ⟨_, gh.sqT h, rfl⟩, k _ G H (Grow.refl gh) (by rw [rr.length]; exact .int _)⟩
      | _ => cases hg
def pAbs : List PV → Option PV
  | [.int i] => some (.int (if i < 0 then -i else i))
  | _ => none
theorem c_abs : CallS Γ (fun xs H Q => ∃ i, xs = [.int i] ∧ Q (.int (if i < 0 then -i else i)) H) pAbs := by
  intro G H vs ps z Q gh r hg k
  cases r with
  | nil => cases hg
  | cons r1 r2 =>
    cases r2 with
    | cons _ _ => rename_i p _ _ _ _ _ _; cases p <;> cases hg
    | nil =>
      cases r1 with
      | int i => cases hg; exact ⟨_, rfl, k _ G H (Grow.refl gh) (.int _)⟩
      | _ => cases hg
def pInt : List PV → Option PV
  | [.int i] => some (.int i)
  | [.bl b] => some (.int (if b then 1 else 0))
  | _ => none
theorem c_int : CallS Γ (fun xs H Q => (∃ i, xs = [.int i] ∧ Q (.int i) H) ∨ ∃ k, xs = [.bl k] ∧ Q (.int (if k then 1 else 0)) H) pInt := by
  intro G H vs ps z Q gh r hg k
  cases r with
  | nil => cases hg
  | cons r1 r2 =>
    cases r2 with
    | cons _ _ => rename_i p _ _ _ _ _ _; cases p <;> cases hg
    | nil =>
      cases r1 with
      | int i => cases hg; exact .inl ⟨_, rfl, k _ G H (Grow.refl gh) (.int _)⟩
      | bl i => cases hg; exact .inr ⟨_, rfl, k _ G H (Grow.refl gh) (.int _)⟩
      | _ => cases hg
def pStr : List PV → Option PV
  | [.int i] => if decide (i.natAbs.log2 < 1920) = true then some (.str (toString i)) else none
  | _ => none
theorem c_str : CallS Γ (fun xs H Q => ∃ i, xs = [.int i] ∧ i.natAbs.log2 < 1920 ∧ Q (.str (toString i)) H) pStr := by
  intro G H vs ps z Q gh r hg k
  cases r with
  | nil => cases hg
  | cons r1 r2 =>
    cases r2 with
    | cons _ _ => rename_i p _ _ _ _ _ _; cases p <;> cases hg
    | nil =>
      cases r1 with
      | int i =>
        simp only [pStr] at hg
        split at hg
        · rename_i c
          cases hg
          exact ⟨_, rfl, of_decide_eq_true c, k _ G H (Grow.refl gh) (.str _)⟩
        · cases hg
      | _ => cases hg
def pGcd : List PV → Option PV
  | [.int i, .int j] => some (.int ((Nat.gcd i.natAbs j.natAbs : Nat) : Int))
  | _ => none
theorem c_gcd : CallS Γ rGcd pGcd := by
  intro G H vs ps z Q gh r hg k
  unfold pGcd at hg
  split at hg
  · obtain ⟨v, w, rfl, h1, h2⟩ := reps2 r
    cases h1; cases h2; cases hg
    exact ⟨_, _, rfl, k _ G H (Grow.refl gh) (.int _)⟩
  · cases hg
def pTuple : List PV → Option PV
  | [.lst xs] => some (.tup xs)
  | [.tup xs] => some (.tup xs)
  | _ => none
theorem c_tuple : CallS Γ (fun xs H Q => ∃ p ys, xs = [.ref p] ∧ ((SqL Γ.K H p ys ∧ ∀ l, H l = none → Q (.ref l) (upd H l (.tup ys))) ∨ (SqT Γ.K H p ys ∧ Q (.ref p) H))) pTuple := by
  intro G H vs ps z Q gh r hg k
  cases r with
  | nil => cases hg
  | cons r1 r2 =>
    cases r2 with
    | cons _ _ => rename_i p _ _ _ _ _ _; cases p <;> cases hg
    | nil =>
      cases r1 with
      | lst h rr => cases hg; exact ⟨_, _, rfl, .inl ⟨.inl (gh.rd h), fun l hl => k _ (upd G l (.tup _)) _ (Grow.new gh hl) (Rep.newT (gh.none hl) rr)⟩⟩
      | tup h rr => cases hg; exact ⟨_, _, rfl, .inr ⟨gh.sqT h, k _ G H (Grow.refl gh) (.tup h rr)⟩⟩
      | _ => cases hg
/-! isinstance of built-in types -/
def tyName : PV → Option String
  | .non => some "NoneType"
  | .bl _ => some "bool"
  | .int _ => some "int"
  | .str _ => some "str"
  | .tup _ => some "tuple"
  | .lst _ => some "list"
  | _ => none
def tyIs : List String := ["NoneType", "bool", "int", "str", "tuple", "list"]
def isaT (a b : String) : Bool := a == b || (a == "bool" && b == "int")
theorem kit_isa0 : ∀ a ∈ tyIs, ∀ b ∈ tyIs, kitB a b = some (isaT a b) := by decide +kernel
theorem kit_isa : ∀ a ∈ tyIs, ∀ b ∈ tyIs, ∀ K : PySem.W.Frag, PySem.W.kitOne K (.type a) (.type b) = some (isaT a b) := fun a ha b hb _ => kit_ty (kit_isa0 a ha b hb)
theorem tyX_of {G H : Hp} {x : V} {p : PV} {a : String} (gh : Ex G H) (r : Rep Γ.K Γ.mg G x p) (h : tyName p = some a) : TyX Γ.K H x (.type a) := by
  cases r with
  | non => cases h; exact .base .non
  | bl b => cases h; exact .base (.bl b)
  | int b => cases h; exact .base (.int b)
  | str b => cases h; exact .base (.str b)
  | tup h1 _ =>
    cases h
    rcases gh.sqT h1 with (e | ⟨o, e⟩) | ⟨o, its, n, e, c, _⟩
    · exact .base (.tup e)
    · exact .fTuple e
    · exact .kTuple e c
  | lst h1 _ =>
    cases h
    rcases gh.rd h1 with e | ⟨o, e⟩
    · exact .base (.lst e)
    · exact .base (.frz e)
  | scr _ _ => cases h
  | obj _ _ _ => cases h
  | atm _ => cases h
theorem tyName_in {p : PV} {a : String} (h : tyName p = some a) : a ∈ tyIs := by
  cases p <;> cases h <;> decide
def pIsi : List PV → Option PV
  | [p, .atm (.ty b)] => match tyName p with
    | some a => if decide (b ∈ tyIs) = true then some (.bl (isaT a b)) else none
    | none => none
  | _ => none
theorem c_isi : CallS Γ (rIsi Γ.K) pIsi := by
  intro G H vs ps z Q gh r hg k
  unfold pIsi at hg
  split at hg
  · rename_i p b
    split at hg
    · rename_i a ha
      split at hg
      · rename_i c
        obtain ⟨v, w, rfl, h1, h2⟩ := reps2 r
        cases hg; cases h2
        exact ⟨_, _, _, _, isaT a b, rfl, .ty b, tyX_of gh h1 ha, kit_isa a (tyName_in ha) b (of_decide_eq_true c) Γ.K, k _ G H (Grow.refl gh) (.bl _)⟩
      · cases hg
    · cases hg
  · cases hg
/-! is None, is True -/
def rIsA : R2 := fun x y H Q => (y = .non ∧ Q (.bl (decide (x = .non))) H) ∨ (∃ a b : Bool, x = .bl a ∧ y = .bl b ∧ Q (.bl (decide (a = b))) H)
theorem op_isA : OpR X (compareOp .Is) rIsA := op_isN.or op_isBl
def rNotA : R2 := fun x y H Q => (y = .non ∧ Q (.bl (!decide (x = .non))) H) ∨ (∃ a b : Bool, x = .bl a ∧ y = .bl b ∧ Q (.bl (!decide (a = b))) H)
theorem op_notA : OpR X (compareOp .IsNot) rNotA := op_notN.or op_notBl
def isNon : PV → Option Bool
  | .non => some true
  | .atm _ => none
  | _ => some false
theorem isNon_ok {G : Hp} {x : V} {p : PV} {b : Bool} (r : Rep Γ.K Γ.mg G x p) (h : isNon p = some b) : decide (x = V.non) = b := by
  cases r <;> cases h <;> simp
def pIs : PV → PV → Option PV
  | .bl a, .bl b => some (.bl (decide (a = b)))
  | p, .non => match isNon p with
    | some b => some (.bl b)
    | none => none
  | _, _ => none
def pNot : PV → PV → Option PV
  | .bl a, .bl b => some (.bl (!decide (a = b)))
  | p, .non => match isNon p with
    | some b => some (.bl (!b))
    | none => none
  | _, _ => none
theorem s_is : OpS Γ rIsA pIs := by
  intro G H x y p q z Q gh rx ry hg k
  cases q with
  | non =>
    cases ry
    have hg2 : (match isNon p with | some b => some (PV.bl b) | none => none) = some z := by
      cases p <;> exact hg
    cases hb : isNon p with
    | none => rw [hb] at hg2; cases hg2
    | some b =>
      rw [hb] at hg2
      cases hg2
      exact .inl ⟨rfl, by rw [isNon_ok rx hb]; exact k _ G H (Grow.refl gh) (.bl _)⟩
  | bl b =>
    cases ry
    cases p <;> first | (cases hg; done) | skip
    cases rx; cases hg
    exact .inr ⟨_, _, rfl, rfl, k _ G H (Grow.refl gh) (.bl _)⟩
  | _ => cases p <;> cases hg
theorem s_isnot : OpS Γ rNotA pNot := by
  intro G H x y p q z Q gh rx ry hg k
  cases q with
  | non =>
    cases ry
    have hg2 : (match isNon p with | some b => some (PV.bl (!b)) | none => none) = some z := by
      cases p <;> exact hg
    cases hb : isNon p with
    | none => rw [hb] at hg2; cases hg2
    | some b =>
      rw [hb] at hg2
      cases hg2
      exact .inl ⟨rfl, by rw [isNon_ok rx hb]; exact k _ G H (Grow.refl gh) (.bl _)⟩
  | bl b =>
    cases ry
    cases p <;> first | (cases hg; done) | skip
    cases rx; cases hg
    exact .inr ⟨_, _, rfl, rfl, k _ G H (Grow.refl gh) (.bl _)⟩
  | _ => cases p <;> cases hg
/-! in, of data at any depth, in a list -/
def pIn : PV → PV → Option PV
  | p, .lst xs => match toD p, toD (.lst xs) with
    | some d, some (.list ds) => if (SeqAt.shaped d && SeqAt.shaped (.list ds)) = true then some (.bl (ds.any fun z => PyData.eqv z d)) else none
    | _, _ => none
  | _, _ => none
def pNotIn : PV → PV → Option PV := fun p q => match pIn p q with
  | some (.bl b) => some (.bl (!b))
  | _ => none
theorem in_some {G H : Hp} {x y : V} {p q z : PV} (gh : Ex G H) (rx : Rep Γ.K Γ.mg G x p) (ry : Rep Γ.K Γ.mg G y q) (hg : pIn p q = some z) :
    ∃ d ds, Dp Γ.K H x d ∧ Dp Γ.K H y (.list ds) ∧ SeqAt.shaped d = true ∧ SeqAt.shaped (.list ds) = true ∧ z = .bl (ds.any fun z => PyData.eqv z d) := by
  cases q <;> first | (cases hg; done) | skip
  rename_i xs
  simp only [pIn] at hg
  cases hp : toD p with
  | none => rw [hp] at hg; cases hg
  | some d =>
    cases hq : toD (.lst xs) with
    | none => rw [hp, hq] at hg; cases hg
    | some e =>
      rw [hp, hq] at hg
      cases e with
      | list ds =>
        simp only at hg
        split at hg
        · rename_i c
          obtain ⟨c1, c2⟩ := Bool.and_eq_true_iff.mp c
          cases hg
          exact ⟨d, ds, dp_mono gh (toD_dp rx hp), dp_mono gh (toD_dp ry hq), c1, c2, rfl⟩
        · cases hg
      | _ => cases hg
theorem s_in : OpS Γ (rInD Γ.K) pIn := by
  intro G H x y p q z Q gh rx ry hg k
  obtain ⟨d, ds, h1, h2, h3, h4, rfl⟩ := in_some gh rx ry hg
  exact ⟨d, ds, h1, h2, h3, h4, k _ G H (Grow.refl gh) (.bl _)⟩
theorem s_notIn : OpS Γ (rNotInD Γ.K) pNotIn := by
  intro G H x y p q z Q gh rx ry hg k
  unfold pNotIn at hg
  split at hg
  · rename_i b hb
    cases hg
    obtain ⟨d, ds, h1, h2, h3, h4, e⟩ := in_some gh rx ry hb
    cases e
    exact ⟨d, ds, h1, h2, h3, h4, k _ G H (Grow.refl gh) (.bl _)⟩
  · cases hg
/-! texts: + and f-strings -/
def pAddS : PV → PV → Option PV
  | .str i, .str j => if decide (i.length + j.length ≤ 100000) = true then some (.str (i ++ j)) else none
  | _, _ => none
theorem s_addS : OpS Γ (fun x y H Q => ∃ i j, x = .str i ∧ y = .str j ∧ i.length + j.length ≤ sizeLine ∧ Q (.str (i ++ j)) H) pAddS := by
  intro G H x y p q z Q gh rx ry hg k
  cases p <;> cases q <;> first | (cases hg; done) | skip
  cases rx; cases ry
  simp only [pAddS] at hg
  split at hg
  · rename_i c
    cases hg
    exact ⟨_, _, rfl, rfl, szOk (of_decide_eq_true c), k _ G H (Grow.refl gh) (.str _)⟩
  · cases hg
def pFmt : PV → Option PV
  | .str y => if decide (y.length ≤ 100000) = true then some (.str y) else none
  | .int i => if decide (i.natAbs.log2 < 1920) = true then some (.str (toString i)) else none
  | _ => none
def eFmt (fa : EF) : EF := fun ρ => (fa ρ).bind fun p ρ1 => oRes (pFmt p) ρ1
theorem v_fmt {e : Expr} {fa : EF} (h : PE X e (DE Γ fa)) : PE X (.FormattedValue e (-1) none pos) (DE Γ (eFmt fa)) :=
  PE.imp (pe_fmt h) fun σ H Q ⟨G, ρ, ok, q⟩ => by
    refine DX.bindI ok q fun x G1 H1 p ρ1 e1 ok1 r1 h1 => ?_
    cases r1 with
    | str y =>
      simp only [pFmt] at h1
      split at h1
      · rename_i c
        exact .inl ⟨y, rfl, szOk (of_decide_eq_true c), h1 _ G1 H1 (Ex.refl G1) ok1 (.str _)⟩
      · exact h1.elim
    | int i =>
      simp only [pFmt] at h1
      split at h1
      · rename_i c
        exact .inr ⟨i, rfl, of_decide_eq_true c, h1 _ G1 H1 (Ex.refl G1) ok1 (.str _)⟩
      · exact h1.elim
    | _ => exact h1.elim
theorem v_joined1 {e : Expr} {fa : EF} (h : PE X e (DE Γ fa)) : PE X (.JoinedStr [e] pos) (DE Γ fa) := pe_joined1 h
end
end PL
end

section
set_option Elab.async false
set_option linter.all false
set_option maxRecDepth 100000
set_option maxHeartbeats 4000000
set_option autoImplicit false
namespace PL
open PySem PySem.Spec PyProof.Rows L2

theorem EnvOk.set {Γ : Gam} {G H : Hp} {σ : L2.St} {ρ : PEnv} {i : Nat} {v : V} {p : PV} (ok : EnvOk Γ G σ H ρ) (np : Γ.P i = none) (r : Rep Γ.K Γ.mg G v p) : EnvOk Γ G (σ.set i (some v)) H (ρ.set i (.v p)) := by
  refine ⟨by simp [ok.len], ok.cH, ok.gH, ok.g0, ok.gC, fun j a hj => ?_, fun j q hj => ?_, fun j q hj => ?_, fun j k q s b hjk hj hk e1 e2 => ?_⟩
  · have z : j ≠ i := fun z => by rw [z, np] at hj; cases hj
    rw [List.getElem?_set_ne (Ne.symm z)]
    exact ok.par j a hj
  · by_cases z : j = i
    · subst z
      have hlt : j < ρ.length := by
        rcases Nat.lt_or_ge j ρ.length with h | h
        · exact h
        · rw [List.getElem?_eq_none (by simpa using h)] at hj; cases hj
      rw [List.getElem?_set_self hlt] at hj
      cases hj
      exact ⟨v, List.getElem?_set_self (by rw [ok.len]; exact hlt), r⟩
    · rw [List.getElem?_set_ne (Ne.symm z)] at hj ⊢
      exact ok.val j q hj
  · have z : j ≠ i := fun z => by
      subst z
      have hlt : j < ρ.length := by
        rcases Nat.lt_or_ge j ρ.length with h | h
        · exact h
        · rw [List.getElem?_eq_none (by simpa using h)] at hj; cases hj
      rw [List.getElem?_set_self hlt] at hj
      cases hj
    rw [List.getElem?_set_ne (Ne.symm z)] at hj ⊢
    exact ok.own j q hj
  · have z : ∀ (j : Nat) (q : PV), (ρ.set i (.v p))[j]? = some (Slot.own q) → j ≠ i := fun j q hj z => by
      subst z
      have hlt : j < ρ.length := by
        rcases Nat.lt_or_ge j ρ.length with h | h
        · exact h
        · rw [List.getElem?_eq_none (by simpa using h)] at hj; cases hj
      rw [List.getElem?_set_self hlt] at hj
      cases hj
    have z1 := z j q hj
    have z2 := z k s hk
    rw [List.getElem?_set_ne (Ne.symm z1)] at hj e1
    rw [List.getElem?_set_ne (Ne.symm z2)] at hk e2
    exact ok.dis j k q s b hjk hj hk e1 e2
theorem EnvOk.setNo {Γ : Gam} {G H : Hp} {σ : L2.St} {ρ : PEnv} {i : Nat} {v : Option V} (ok : EnvOk Γ G σ H ρ) (np : Γ.P i = none) : EnvOk Γ G (σ.set i v) H (ρ.set i .no) := by
  have z : ∀ (j : Nat) (q : Slot), q ≠ .no → (ρ.set i .no)[j]? = some q → j ≠ i := fun j q hq hj z => by
    subst z
    have hlt : j < ρ.length := by
      rcases Nat.lt_or_ge j ρ.length with h | h
      · exact h
      · rw [List.getElem?_eq_none (by simpa using h)] at hj; cases hj
    rw [List.getElem?_set_self hlt] at hj
    cases hj
    exact hq rfl
  refine ⟨by simp [ok.len], ok.cH, ok.gH, ok.g0, ok.gC, fun j a hj => ?_, fun j q hj => ?_, fun j q hj => ?_, fun j k q s b hjk hj hk e1 e2 => ?_⟩
  · have z : j ≠ i := fun z => by rw [z, np] at hj; cases hj
    rw [List.getElem?_set_ne (Ne.symm z)]
    exact ok.par j a hj
  · have z1 := z j _ (by intro h; cases h) hj
    rw [List.getElem?_set_ne (Ne.symm z1)] at hj ⊢
    exact ok.val j q hj
  · have z1 := z j _ (by intro h; cases h) hj
    rw [List.getElem?_set_ne (Ne.symm z1)] at hj ⊢
    exact ok.own j q hj
  · have z1 := z j _ (by intro h; cases h) hj
    have z2 := z k _ (by intro h; cases h) hk
    rw [List.getElem?_set_ne (Ne.symm z1)] at hj e1
    rw [List.getElem?_set_ne (Ne.symm z2)] at hk e2
    exact ok.dis j k q s b hjk hj hk e1 e2
theorem EnvOk.setO {Γ : Gam} {G H : Hp} {σ : L2.St} {ρ : PEnv} {i : Nat} {a : Addr} {o : HO} {p : PV} (ok : EnvOk Γ G σ H ρ) (np : Γ.P i = none) (hC : Γ.C a = none) (hG : G a = none) (hH : H a = some o) (ht : Top Γ.K Γ.mg G o p)
    (hn : ∀ (i : Nat) (q : PV), ρ[i]? = some (Slot.own q) → σ[i]? ≠ some (some (V.ref a))) : EnvOk Γ G (σ.set i (some (V.ref a))) H (ρ.set i (.own p)) := by
  have inb : ∀ (j : Nat) (q : Slot), (ρ.set i (.own p))[j]? = some q → j < ρ.length := fun j q hj => by
    rcases Nat.lt_or_ge j ρ.length with h | h
    · exact h
    · rw [List.getElem?_eq_none (by simpa using h)] at hj; cases hj
  refine ⟨by simp [ok.len], ok.cH, ok.gH, ok.g0, ok.gC, fun j b hj => ?_, fun j q hj => ?_, fun j q hj => ?_, fun j k q s b hjk hj hk e1 e2 => ?_⟩
  · have z : j ≠ i := fun z => by rw [z, np] at hj; cases hj
    rw [List.getElem?_set_ne (Ne.symm z)]
    exact ok.par j b hj
  · have z : j ≠ i := fun z => by
      subst z
      rw [List.getElem?_set_self (inb _ _ hj)] at hj
      cases hj
    rw [List.getElem?_set_ne (Ne.symm z)] at hj ⊢
    exact ok.val j q hj
  · by_cases z : j = i
    · subst z
      have hlt := inb _ _ hj
      rw [List.getElem?_set_self hlt] at hj
      cases hj
      exact ⟨a, o, List.getElem?_set_self (by rw [ok.len]; exact hlt), hC, hG, hH, ht⟩
    · rw [List.getElem?_set_ne (Ne.symm z)] at hj ⊢
      exact ok.own j q hj
  · have hjl := inb _ _ hj
    have hkl := inb _ _ hk
    by_cases z1 : j = i
    · by_cases z2 : k = i
      · exact hjk (z1.trans z2.symm)
      · subst z1
        rw [List.getElem?_set_ne (Ne.symm z2)] at hk e2
        rw [List.getElem?_set_self (by rw [ok.len]; exact hjl)] at e1
        cases e1
        exact hn k s hk e2
    · rw [List.getElem?_set_ne (Ne.symm z1)] at hj e1
      by_cases z2 : k = i
      · subst z2
        rw [List.getElem?_set_self (by rw [ok.len]; exact hkl)] at e2
        cases e2
        exact hn j q hj e1
      · rw [List.getElem?_set_ne (Ne.symm z2)] at hk e2
        exact ok.dis j k q s b hjk hj hk e1 e2
/-- an owned thing is changed -/
theorem EnvOk.write {Γ : Gam} {G H : Hp} {σ : L2.St} {ρ : PEnv} {i : Nat} {a : Addr} {o : HO} {p p' : PV} (ok : EnvOk Γ G σ H ρ) (hi : ρ[i]? = some (Slot.own p)) (ha : σ[i]? = some (some (V.ref a))) (ht : Top Γ.K Γ.mg G o p') :
    EnvOk Γ G σ (upd H a o) (ρ.set i (.own p')) := by
  have hlt : i < ρ.length := (List.getElem?_eq_some_iff.mp hi).1
  obtain ⟨a', u, g1, g2, g3, g4, g5⟩ := ok.own i p hi
  rw [ha] at g1
  cases g1
  have exn : ∀ {F : Hp}, Ex F H → F a = none → Ex F (upd H a o) := fun {F} e n b w hb => by
    rw [upd_ne (fun z : b = a => by rw [z, n] at hb; cases hb)]
    exact e b w hb
  refine ⟨by simp [ok.len], exn ok.cH g2, exn ok.gH g3, ok.g0, ok.gC, ok.par, fun j q hj => ?_, fun j q hj => ?_, fun j k q s b hjk hj hk e1 e2 => ?_⟩
  · have z : j ≠ i := fun z => by
      subst z
      rw [List.getElem?_set_self hlt] at hj
      cases hj
    rw [List.getElem?_set_ne (Ne.symm z)] at hj
    exact ok.val j q hj
  · by_cases z : j = i
    · subst z
      rw [List.getElem?_set_self hlt] at hj
      cases hj
      exact ⟨a, o, ha, g2, g3, upd_same, ht⟩
    · rw [List.getElem?_set_ne (Ne.symm z)] at hj
      obtain ⟨b, w, h1, h2, h3, h4, h5⟩ := ok.own j q hj
      refine ⟨b, w, h1, h2, h3, ?_, h5⟩
      rw [upd_ne (fun zz : b = a => ok.dis j i q p a z hj hi (by rw [← zz]; exact h1) ha)]
      exact h4
  · have back : ∀ (j : Nat) (q : PV), (ρ.set i (.own p'))[j]? = some (Slot.own q) → ∃ q', ρ[j]? = some (Slot.own q') := fun j q hj => by
      by_cases z : j = i
      · subst z; exact ⟨p, hi⟩
      · rw [List.getElem?_set_ne (Ne.symm z)] at hj; exact ⟨q, hj⟩
    obtain ⟨q', hj'⟩ := back j q hj
    obtain ⟨s', hk'⟩ := back k s hk
    exact ok.dis j k q' s' b hjk hj' hk' e1 e2

inductive SRes where
  | nx (ρ : PEnv) | rt (p : PV) (ρ : PEnv) | ro (p : PV) (ρ : PEnv) | bk (ρ : PEnv) | ct (ρ : PEnv)
  | exc (c : Str) (fs : List (Str × PV)) (ρ : PEnv) | bad
abbrev SF := PEnv → SRes
def ERes.bindS {α : Type} (r : ERes α) (k : α → PEnv → SRes) : SRes := match r with
  | .ok a ρ => k a ρ
  | .exc c fs ρ => .exc c fs ρ
  | .bad => .bad
def ExcPostS (Γ : Gam) (c : Str) (fs : List (Str × PV)) (ρ' : PEnv) (G : Hp) : Prop :=
  ∀ C d ws σ' G' H', Γ.mg c = some (.ref C) → Ex G G' → EnvOk Γ G' σ' H' ρ' → G' d = some (.xd ws) → RepF Γ.K Γ.mg G' ws fs → Γ.W (.ref C) (some d) σ' H'
def PostS (Γ : Gam) (r : SRes) (G : Hp) (D : Ends) : Prop := match r with
  | .nx ρ' => ∀ σ' G' H', Ex G G' → EnvOk Γ G' σ' H' ρ' → D.nx σ' H'
  | .bk ρ' => ∀ σ' G' H', Ex G G' → EnvOk Γ G' σ' H' ρ' → D.bk σ' H'
  | .ct ρ' => ∀ σ' G' H', Ex G G' → EnvOk Γ G' σ' H' ρ' → D.ct σ' H'
  | .rt p ρ' => ∀ v σ' G' H', Ex G G' → EnvOk Γ G' σ' H' ρ' → Rep Γ.K Γ.mg G' v p → D.rt v H'
  | .ro p ρ' => ∀ a o σ' G' H', Ex G G' → EnvOk Γ G' σ' H' ρ' → Γ.C a = none → G' a = none → H' a = some o → Top Γ.K Γ.mg G' o p → (∀ (i : Nat) (q : PV), ρ'[i]? = some (Slot.own q) → σ'[i]? ≠ some (some (V.ref a))) → D.rt (.ref a) H'
  | .exc c fs ρ' => ExcPostS Γ c fs ρ' G
  | .bad => False
def DS (Γ : Gam) (f : SF) : TS := fun D σ H => ∃ G ρ, EnvOk Γ G σ H ρ ∧ PostS Γ (f ρ) G D
theorem PostS.mono {Γ : Gam} {r : SRes} {G G1 : Hp} {D : Ends} (e : Ex G G1) (h : PostS Γ r G D) : PostS Γ r G1 D := by
  cases r with
  | nx ρ' => exact fun σ' G' H' h1 => h σ' G' H' (e.trans h1)
  | bk ρ' => exact fun σ' G' H' h1 => h σ' G' H' (e.trans h1)
  | ct ρ' => exact fun σ' G' H' h1 => h σ' G' H' (e.trans h1)
  | rt p ρ' => exact fun v σ' G' H' h1 => h v σ' G' H' (e.trans h1)
  | ro p ρ' => exact fun a o σ' G' H' h1 => h a o σ' G' H' (e.trans h1)
  | exc c fs ρ' => exact fun C d ws σ' G' H' h1 h2 => h C d ws σ' G' H' h1 (e.trans h2)
  | bad => exact h
theorem DX.bindS {α1 β1 : Type} {Γ : Gam} {rel1 : Hp → β1 → α1 → Prop} {f : PEnv → ERes α1} {k : α1 → PEnv → SRes} {G H : Hp} {σ : L2.St} {ρ : PEnv} {D : Ends} {Q1 : β1 → Hp → Prop}
    (ok : EnvOk Γ G σ H ρ) (h : PostS Γ ((f ρ).bindS k) G D)
    (c : ∀ v G1 H1 p ρ1, Ex G G1 → EnvOk Γ G1 σ H1 ρ1 → rel1 G1 v p → PostS Γ (k p ρ1) G1 D → Q1 v H1) : DX Γ rel1 f σ H Q1 := by
  refine ⟨G, ρ, ok, ?_⟩
  cases e : f ρ with
  | ok p ρ1 =>
    rw [e] at h
    exact fun v G1 H1 h1 h2 h3 => c v G1 H1 p ρ1 h1 h2 h3 (PostS.mono h1 h)
  | exc a fs ρ1 =>
    rw [e] at h
    exact fun C d ws G' H' => h C d ws σ G' H'
  | bad =>
    rw [e] at h
    exact h
theorem DF.bindS {Γ : Gam} {f : EF} {k : PV → PEnv → SRes} {G H : Hp} {σ : L2.St} {ρ : PEnv} {D : Ends} {Q1 : VK} (ok : EnvOk Γ G σ H ρ) (h : PostS Γ ((f ρ).bindS k) G D)
    (c : ∀ a o G1 H1 p ρ1, Ex G G1 → EnvOk Γ G1 σ H1 ρ1 → Γ.C a = none → G1 a = none → H1 a = some o → Top Γ.K Γ.mg G1 o p → (∀ (i : Nat) (q : PV), ρ1[i]? = some (Slot.own q) → σ[i]? ≠ some (some (V.ref a))) → PostS Γ (k p ρ1) G1 D → Q1 (.ref a) H1) : DF Γ f σ H Q1 := by
  refine ⟨G, ρ, ok, ?_⟩
  cases e : f ρ with
  | ok p ρ1 =>
    rw [e] at h
    exact fun a o G1 H1 h1 h2 h3 h4 h5 h6 h7 => c a o G1 H1 p ρ1 h1 h2 h3 h4 h5 h6 h7 (PostS.mono h1 h)
  | exc a fs ρ1 =>
    rw [e] at h
    exact fun C d ws G' H' => h C d ws σ G' H'
  | bad =>
    rw [e] at h
    exact h

section
variable {X : Cx} {Γ : Gam} {pos : Pos}
/-! ### targets -/
/-- all slots but these are as they were -/
def SBut (is : List Nat) (σ σ' : L2.St) : Prop := σ'.length = σ.length ∧ ∀ j : Nat, j ∉ is → σ'[j]? = σ[j]?
theorem SBut.refl (is : List Nat) (σ : L2.St) : SBut is σ σ := ⟨rfl, fun _ _ => rfl⟩
theorem SBut.trans {is js : List Nat} {σ σ1 σ2 : L2.St} (a : SBut is σ σ1) (b : SBut js σ1 σ2) : SBut (is ++ js) σ σ2 :=
  ⟨b.1.trans a.1, fun j hj => (b.2 j fun z => hj (List.mem_append_right _ z)).trans (a.2 j fun z => hj (List.mem_append_left _ z))⟩
abbrev GF := PV → PEnv → Option PEnv
abbrev GsF := List PV → PEnv → Option PEnv
def DG (Γ : Gam) (is : List Nat) (g : GF) : TG := fun v σ H Q => ∃ G ρ p, EnvOk Γ G σ H ρ ∧ Rep Γ.K Γ.mg G v p ∧ match g p ρ with
  | some ρ' => ∀ σ', EnvOk Γ G σ' H ρ' → SBut is σ σ' → Q σ' H
  | none => False
def DGs (Γ : Gam) (is : List Nat) (g : GsF) : TGs := fun vs σ H Q => ∃ G ρ ps, EnvOk Γ G σ H ρ ∧ Reps Γ.K Γ.mg G vs ps ∧ match g ps ρ with
  | some ρ' => ∀ σ', EnvOk Γ G σ' H ρ' → SBut is σ σ' → Q σ' H
  | none => False
theorem PG.imp {tg : Expr} {t t' : TG} (h : PG X tg t) (i : ∀ v σ H Q, t' v σ H Q → t v σ H Q) : PG X tg t' := ⟨fun pins s σ H v u Q I r z => h.run pins s σ H v u Q I r (i v σ H Q z)⟩
theorem PGs.imp {tg : List Expr} {t t' : TGs} (h : PGs X tg t) (i : ∀ v σ H Q, t' v σ H Q → t v σ H Q) : PGs X tg t' := ⟨fun pins s σ H v u Q I r z => h.run pins s σ H v u Q I r (i v σ H Q z)⟩
def gN (i : Nat) : GF := fun p ρ => some (ρ.set i (.v p))
theorem g_name {i : Nat} {tg : Expr} (h : PG X tg (gName i)) (np : Γ.P i = none) : PG X tg (DG Γ [i] (gN i)) := PG.imp h fun v σ H Q ⟨G, ρ, p, ok, r, q⟩ =>
  q _ (ok.set np r) ⟨by simp, fun j hj => List.getElem?_set_ne (fun z : i = j => hj (by simp [z]))⟩
def gsN : GsF := fun ps ρ => match ps with
  | [] => some ρ
  | _ => none
def gsC (g : GF) (gs : GsF) : GsF := fun ps ρ => match ps with
  | p :: r => match g p ρ with
    | some ρ' => gs r ρ'
    | none => none
  | [] => none
theorem gs_nil : PGs X [] (DGs Γ [] gsN) := PGs.imp pgs_nil fun v σ H Q ⟨G, ρ, ps, ok, r, q⟩ => by
  cases r with
  | nil => exact ⟨rfl, q σ ok (SBut.refl _ _)⟩
  | cons _ _ => exact q.elim
theorem gs_cons {e : Expr} {es : List Expr} {is js : List Nat} {g : GF} {gs : GsF} (h1 : PG X e (DG Γ is g)) (h2 : PGs X es (DGs Γ js gs)) (hs : (assignEach (e :: es) X.env).map (·.2) = assign e X.env :: (assignEach es X.env).map (·.2) := by rfl) : PGs X (e :: es) (DGs Γ (is ++ js) (gsC g gs)) :=
  PGs.imp (pgs_cons h1 h2 hs) fun v σ H Q ⟨G, ρ, ps, ok, r, q⟩ => by
    cases r with
    | nil => exact q.elim
    | @cons x xs p pp rv rr =>
      refine ⟨x, xs, rfl, G, ρ, p, ok, rv, ?_⟩
      simp only [gsC] at q
      cases hg : g p ρ with
      | none => rw [hg] at q; exact q.elim
      | some ρ' =>
        rw [hg] at q
        refine fun σ' ok' sb => ⟨G, ρ', pp, ok', rr, ?_⟩
        simp only at q
        cases hgs : gs pp ρ' with
        | none => rw [hgs] at q; exact q.elim
        | some ρ2 =>
          rw [hgs] at q
          exact fun σ2 ok2 sb2 => q σ2 ok2 (sb.trans sb2)
def gTp (n : Nat) (gs : GsF) : GF := fun p ρ => match p with
  | .tup xs => if decide (xs.length = n) = true then gs xs ρ else none
  | _ => none
theorem g_tup (hx : OkX X Γ) {es : List Expr} {k n : Nat} {is : List Nat} {gs : GsF} (hc : X.calm = true) (h : PGs X es (DGs Γ is gs)) (hn : (assignEach es X.env).length = n := by rfl) (hst : (assignEach es X.env).findIdx? (·.1) = none := by rfl) : PG X (.Tuple es k pos) (DG Γ is (gTp n gs)) :=
  PG.imp (pg_tup (pos := pos) (k := k) hc h hn hst) fun v σ H Q ⟨G, ρ, p, ok, r, q⟩ => by
    cases r with
    | tup h1 r1 =>
      simp only [gTp] at q
      split at q
      · rename_i ρ' e
        split at e
        · rename_i c
          exact ⟨_, _, rfl, by rw [hx.k]; exact ok.gH.sqT h1, by rw [r1.length]; exact of_decide_eq_true c, G, ρ, _, ok, r1, by rw [e]; exact q⟩
        · cases e
      · exact q.elim
    | _ => exact q.elim

/-! ### statements -/
def sAsg (i : Nat) (f : EF) : SF := fun ρ => (f ρ).bindS fun p ρ1 => .nx (ρ1.set i (.v p))
theorem s_asg {i : Nat} {st : Stmt} {f : EF} (h : PS X st (tAsg (DE Γ f) (gName i))) (np : Γ.P i = none) : PS X st (DS Γ (sAsg i f)) :=
  PS.imp h fun D σ H ⟨G, ρ, ok, q⟩ => DX.bindS ok q fun v G1 H1 p ρ1 e1 ok1 r1 h1 => h1 _ G1 H1 (Ex.refl G1) (ok1.set np r1)
def sAsgO (i : Nat) (f : EF) : SF := fun ρ => (f ρ).bindS fun p ρ1 => .nx (ρ1.set i (.own p))
theorem s_asgO {i : Nat} {st : Stmt} {f : EF} (h : PS X st (tAsg (DF Γ f) (gName i))) (np : Γ.P i = none) : PS X st (DS Γ (sAsgO i f)) :=
  PS.imp h fun D σ H ⟨G, ρ, ok, q⟩ => DF.bindS ok q fun a o G1 H1 p ρ1 e1 ok1 h2 h3 h4 h5 h6 h1 => h1 _ G1 H1 (Ex.refl G1) (ok1.setO np h2 h3 h4 h5 h6)
def sAsgG (g : GF) (f : EF) : SF := fun ρ => (f ρ).bindS fun p ρ1 => match g p ρ1 with
  | some ρ2 => .nx ρ2
  | none => .bad
theorem s_asgG {st : Stmt} {is : List Nat} {g : GF} {f : EF} (h : PS X st (tAsg (DE Γ f) (DG Γ is g))) : PS X st (DS Γ (sAsgG g f)) :=
  PS.imp h fun D σ H ⟨G, ρ, ok, q⟩ => DX.bindS ok q fun v G1 H1 p ρ1 e1 ok1 r1 h1 => by
    refine ⟨G1, ρ1, p, ok1, r1, ?_⟩
    cases hg : g p ρ1 with
    | none => simp only [hg] at h1; exact h1.elim
    | some ρ2 =>
      simp only [hg] at h1
      exact fun σ' ok' _ => h1 σ' G1 H1 (Ex.refl G1) ok'
/-- a, b = x, y -/
def sPar (i j : Nat) (fa : AF) : SF := fun ρ => (fa ρ).bindS fun ps ρ1 => match ps with
  | [p, q] => .nx ((ρ1.set i (.v p)).set j (.v q))
  | _ => .bad
theorem s_par {i j : Nat} {st : Stmt} {fa : AF} (h : PS X st (tPar i j (DA Γ fa))) (npi : Γ.P i = none) (npj : Γ.P j = none) : PS X st (DS Γ (sPar i j fa)) :=
  PS.imp h fun D σ H ⟨G, ρ, ok, q⟩ => DX.bindS ok q fun vs G1 H1 ps ρ1 e1 ok1 r1 h1 => by
    split at h1
    · obtain ⟨v, w, rfl, h2, h3⟩ := reps2 r1
      exact ⟨v, w, rfl, h1 _ G1 H1 (Ex.refl G1) ((ok1.set npi h2).set npj h3)⟩
    · exact h1.elim
def sDrop (f : EF) : SF := fun ρ => (f ρ).bindS fun _ ρ1 => .nx ρ1
theorem s_drop {st : Stmt} {f : EF} (h : PS X st (tDrop (DE Γ f))) : PS X st (DS Γ (sDrop f)) :=
  PS.imp h fun D σ H ⟨G, ρ, ok, q⟩ => DX.bindS ok q fun v G1 H1 p ρ1 e1 ok1 r1 h1 => h1 σ G1 H1 (Ex.refl G1) ok1
def sRet (f : EF) : SF := fun ρ => (f ρ).bindS fun p ρ1 => .rt p ρ1
theorem s_ret {e : Expr} {f : EF} (h : PE X e (DE Γ f)) : PS X (.Return (some e) pos) (DS Γ (sRet f)) :=
  PS.imp (ps_ret h) fun D σ H ⟨G, ρ, ok, q⟩ => DX.bindS ok q fun v G1 H1 p ρ1 e1 ok1 r1 h1 => h1 v σ G1 H1 (Ex.refl G1) ok1 r1
def sRetO (f : EF) : SF := fun ρ => (f ρ).bindS fun p ρ1 => .ro p ρ1
theorem s_retO {e : Expr} {f : EF} (h : PE X e (DF Γ f)) : PS X (.Return (some e) pos) (DS Γ (sRetO f)) :=
  PS.imp (ps_ret h) fun D σ H ⟨G, ρ, ok, q⟩ => DF.bindS ok q fun a o G1 H1 p ρ1 e1 ok1 h2 h3 h4 h5 h6 h1 => h1 a o σ G1 H1 (Ex.refl G1) ok1 h2 h3 h4 h5 h6
/-- return x, x a slot that is owned -/
def sRetV (i : Nat) : SF := fun ρ => match ρ[i]? with
  | some (.own p) => .ro p (ρ.set i .no)
  | _ => .bad
theorem s_retV {i : Nat} {e : Expr} (h : PE X e (tVar i)) (np : Γ.P i = none) : PS X (.Return (some e) pos) (DS Γ (sRetV i)) :=
  PS.imp (ps_ret h) fun D σ H ⟨G, ρ, ok, q⟩ => by
    cases hi : ρ[i]? with
    | none => simp only [sRetV, hi] at q; exact q.elim
    | some s =>
      cases s with
      | own p =>
        simp only [sRetV, hi] at q
        obtain ⟨a, o, h1, h2, h3, h4, h5⟩ := ok.own i p hi
        refine ⟨_, h1, ?_⟩
        have ok' : EnvOk Γ G (σ.set i none) H (ρ.set i .no) := ok.setNo np
        refine q a o _ G H (Ex.refl G) ok' h2 h3 h4 h5 fun j r hj e => ?_
        have hlt : i < ρ.length := (List.getElem?_eq_some_iff.mp hi).1
        have z : j ≠ i := fun z => by
          subst z
          rw [List.getElem?_set_self hlt] at hj
          cases hj
        rw [List.getElem?_set_ne (Ne.symm z)] at hj e
        exact ok.dis j i r p a z hj hi e h1
      | _ => simp only [sRetV, hi] at q; exact q.elim
def sRetN : SF := fun ρ => .rt .non ρ
theorem s_retN : PS X (.Return none pos) (DS Γ sRetN) := PS.imp ps_retN fun D σ H ⟨G, ρ, ok, q⟩ => q .non σ G H (Ex.refl G) ok .non
def sPass : SF := fun ρ => .nx ρ
theorem s_pass : PS X (.Pass pos) (DS Γ sPass) := PS.imp ps_pass fun D σ H ⟨G, ρ, ok, q⟩ => q σ G H (Ex.refl G) ok
theorem s_doc {x : Str} {j : Nat} {pos' : Pos} : PS X (.Expr (.Constant (.str x) j pos) pos') (DS Γ sPass) := PS.imp ps_doc fun D σ H ⟨G, ρ, ok, q⟩ => q σ G H (Ex.refl G) ok
def sBk : SF := fun ρ => .bk ρ
theorem s_bk : PS X (.Break pos) (DS Γ sBk) := PS.imp ps_break fun D σ H ⟨G, ρ, ok, q⟩ => q σ G H (Ex.refl G) ok
def sCt : SF := fun ρ => .ct ρ
theorem s_ct : PS X (.Continue pos) (DS Γ sCt) := PS.imp ps_continue fun D σ H ⟨G, ρ, ok, q⟩ => q σ G H (Ex.refl G) ok
/-! blocks -/
def sSeq (f g : SF) : SF := fun ρ => match f ρ with
  | .nx ρ1 => g ρ1
  | r => r
theorem ss_one {st : Stmt} {f : SF} (h : PS X st (DS Γ f)) : PSs X [st] (DS Γ f) := pss_one h
theorem ss_cons {st : Stmt} {rest : List Stmt} {f g : SF} (h : PS X st (DS Γ f)) (hr : PSs X rest (DS Γ g)) : PSs X (st :: rest) (DS Γ (sSeq f g)) :=
  PSs.imp (pss_cons h hr) fun D σ H ⟨G, ρ, ok, q⟩ => by
    refine ⟨G, ρ, ok, ?_⟩
    cases hf : f ρ with
    | nx ρ1 =>
      simp only [sSeq, hf] at q
      exact fun σ' G' H' e' ok' => ⟨G', ρ1, ok', PostS.mono e' q⟩
    | _ => simp only [sSeq, hf] at q; exact q
theorem ss_nil : PSs X [] (DS Γ sPass) := PSs.imp pss_nil fun D σ H ⟨G, ρ, ok, q⟩ => q σ G H (Ex.refl G) ok
def sIf (t : TF) (f g : SF) : SF := fun ρ => (t ρ).bindS fun b ρ1 => if b = true then f ρ1 else g ρ1
theorem s_if {c : Expr} {a b : List Stmt} {t : TF} {f g : SF} (hc : PT X c (DT Γ t)) (ha : PSs X a (DS Γ f)) (hb : PSs X b (DS Γ g)) : PS X (.If c a b pos) (DS Γ (sIf t f g)) :=
  PS.imp (ps_if hc ha hb) fun D σ H ⟨G, ρ, ok, q⟩ => DX.bindS ok q fun x G1 H1 p ρ1 e1 ok1 r1 h1 => by
    have r1' : x = p := r1
    subst r1'
    cases x with
    | true => exact ⟨G1, ρ1, ok1, h1⟩
    | false => exact ⟨G1, ρ1, ok1, h1⟩
/-! an owned list is changed -/
def sApp (i : Nat) (f : EF) : SF := fun ρ => match ρ[i]? with
  | some (.own (.lst _)) => (f ρ).bindS fun p ρ1 => match ρ1[i]? with
    | some (.own (.lst xs)) => if decide (xs.length < 100000) = true then .nx (ρ1.set i (.own (.lst (xs ++ [p])))) else .bad
    | _ => .bad
  | _ => .bad
theorem s_app (hx : OkX X Γ) {i : Nat} {st : Stmt} {f : EF} (h : PS X st (tDrop (tBM X.K "list" rAppend (tVar i) (tCons (DE Γ f) tNil)))) : PS X st (DS Γ (sApp i f)) :=
  PS.imp h fun D σ H ⟨G, ρ, ok, q⟩ => by
    cases hi : ρ[i]? with
    | none => simp only [sApp, hi] at q; exact q.elim
    | some s =>
      cases s with
      | own p =>
        cases p with
        | lst xs0 =>
          simp only [sApp, hi] at q
          obtain ⟨a, o, h1, h2, h3, h4, h5⟩ := ok.own i _ hi
          cases h5 with
          | lst r5 =>
            refine ⟨_, h1, .inl ⟨rfl, _, .inl (.inl h4)⟩, ?_⟩
            refine DX.bindS ok q fun y G1 H1 p1 ρ1 e1 ok1 r1 k1 => ?_
            cases hj : ρ1[i]? with
            | none => simp only [hj] at k1; exact k1.elim
            | some s1 =>
              cases s1 with
              | own p1 =>
                cases p1 with
                | lst xs =>
                  simp only [hj] at k1
                  obtain ⟨a', o', g1, g2, g3, g4, g5⟩ := ok1.own i _ hj
                  rw [h1] at g1
                  cases g1
                  split at k1
                  · rename_i c
                    cases g5 with
                    | lst rr =>
                      rename_i vs
                      refine ⟨_, vs, y, rfl, rfl, g4, ?_, ?_⟩
                      · rw [rr.length]
                        exact Nat.lt_of_lt_of_le (of_decide_eq_true c) (szOk (Nat.le_refl _))
                      · exact k1 σ G1 _ (Ex.refl G1) (ok1.write hj h1 (.lst (rr.append (.cons r1 .nil))))
                  · exact k1.elim
                | _ => simp only [hj] at k1; exact k1.elim
              | _ => simp only [hj] at k1; exact k1.elim
        | _ => simp only [sApp, hi] at q; exact q.elim
      | _ => simp only [sApp, hi] at q; exact q.elim
def sSetI (i : Nat) (fe fi : EF) : SF := fun ρ => (fe ρ).bindS fun p ρ1 => match ρ1[i]? with
  | some (.own _) => (fi ρ1).bindS fun q ρ2 => match ρ2[i]?, q with
    | some (.own (.lst xs)), .int k => match ixN xs.length k with
      | some j => .nx (ρ2.set i (.own (.lst (xs.set j p))))
      | none => .bad
    | _, _ => .bad
  | _ => .bad
theorem s_setI {i : Nat} {st : Stmt} {fe fi : EF} (h : PS X st (tAsg (DE Γ fe) (gSub (tVar i) (DE Γ fi) rSetL))) : PS X st (DS Γ (sSetI i fe fi)) :=
  PS.imp h fun D σ H ⟨G, ρ, ok, q⟩ => DX.bindS ok q fun y G1 H1 p ρ1 e1 ok1 r1 k1 => by
    cases hi : ρ1[i]? with
    | none => simp only [hi] at k1; exact k1.elim
    | some s =>
      cases s with
      | own p0 =>
        simp only [hi] at k1
        obtain ⟨a, o, h1, h2, h3, h4, h5⟩ := ok1.own i _ hi
        refine ⟨_, h1, ?_⟩
        refine DX.bindS ok1 k1 fun z G2 H2 q2 ρ2 e2 ok2 r2 k2 => ?_
        split at k2
        · rename_i xs k hj
          obtain ⟨a', o', g1, g2, g3, g4, g5⟩ := ok2.own i _ hj
          rw [h1] at g1
          cases g1
          cases r2
          cases g5 with
          | lst rr =>
            rename_i vs
            cases hk : ixN xs.length k with
            | none => rw [hk] at k2; exact k2.elim
            | some j =>
              rw [hk] at k2
              exact ⟨_, vs, _, j, rfl, rfl, g4, by rw [rr.length]; exact hk, k2 σ G2 _ (Ex.refl G2) (ok2.write hj h1 (.lst (rr.set (r1.mono e2) j)))⟩
        · exact k2.elim
      | _ => simp only [hi] at k1; exact k1.elim
end
end PL
end

section
set_option Elab.async false
set_option linter.all false
set_option maxRecDepth 100000
set_option maxHeartbeats 4000000
set_option autoImplicit false
namespace PL
open PySem PySem.Spec PyProof.Rows L2

/-! ### what is walked -/
structure Walks (Γ : Gam) (J : It) (G : Hp) (ps : List PV) : Prop where
  goes : ∀ (i : Nat) (H : Hp), i < ps.length → Ex G H → J.go i H
  stops : ∀ H : Hp, Ex G H → J.stop ps.length H
  yields : ∀ (i : Nat) (H : Hp) (x : V) (H' : Hp), i < ps.length → Ex G H → J.yld i H x H' → ∃ p, ps[i]? = some p ∧ ∀ G1 : Hp, Ex G G1 → Ex G1 H → ∃ G2, Grow G1 H G2 H' ∧ Rep Γ.K Γ.mg G2 x p
abbrev IF := PEnv → ERes (List PV)
def DI (Γ : Gam) (f : IF) : TI := fun σ H R => ∃ G ρ, EnvOk Γ G σ H ρ ∧ match f ρ with
  | .ok ps ρ' => ∀ J G' H', Ex G G' → EnvOk Γ G' σ H' ρ' → Walks Γ J G' ps → R J H'
  | .exc c fs ρ' => ExcPost Γ c fs ρ' G σ
  | .bad => False
theorem PI.imp {X : Cx} {tg e : Expr} {t t' : TI} (h : PI X tg e t) (i : ∀ σ H R, t' σ H R → t σ H R) : PI X tg e t' := ⟨fun pins s σ H R I z => h.run pins s σ H R I (i σ H R z)⟩
theorem PI.or {X : Cx} {tg e : Expr} {t u t' : TI} (h : PI X tg e t) (h2 : PI X tg e u) (i : ∀ σ H R, t' σ H R → t σ H R ∨ u σ H R) : PI X tg e t' := ⟨fun pins s σ H R I z => by
  rcases i σ H R z with q | q
  · exact h.run pins s σ H R I q
  · exact h2.run pins s σ H R I q⟩
section
variable {X : Cx} {Γ : Gam} {pos : Pos}
theorem walks_list {G : Hp} {a : Addr} {vs : List V} {ps : List PV} (h : SqL Γ.K G a vs) (r : Reps Γ.K Γ.mg G vs ps) : Walks Γ (Itl Γ.K a) G ps where
  goes := fun i H hi e => walk_list.goes i H (by rw [r.length]; exact hi) (e.sqL h)
  stops := fun H e => by rw [← r.length]; exact walk_list.stops H (e.sqL h)
  yields := fun i H x H' hi e y => by
    obtain ⟨e1, e2⟩ := walk_list.yields i H x H' (by rw [r.length]; exact hi) (e.sqL h) y
    subst e1
    obtain ⟨p, h1, h2⟩ := r.getV e2
    exact ⟨p, h1, fun G1 g1 g2 => ⟨G1, Grow.refl g2, h2.mono g1⟩⟩
theorem walks_tup {G : Hp} {a : Addr} {vs : List V} {ps : List PV} (h : SqT Γ.K G a vs) (r : Reps Γ.K Γ.mg G vs ps) : Walks Γ (Itt Γ.K a) G ps where
  goes := fun i H hi e => walk_tup.goes i H (by rw [r.length]; exact hi) (e.sqT h)
  stops := fun H e => by rw [← r.length]; exact walk_tup.stops H (e.sqT h)
  yields := fun i H x H' hi e y => by
    obtain ⟨e1, e2⟩ := walk_tup.yields i H x H' (by rw [r.length]; exact hi) (e.sqT h) y
    subst e1
    obtain ⟨p, h1, h2⟩ := r.getV e2
    exact ⟨p, h1, fun G1 g1 g2 => ⟨G1, Grow.refl g2, h2.mono g1⟩⟩
/-- a list or a tuple -/
def iSeq (f : EF) : IF := fun ρ => (f ρ).bind fun p ρ1 => match p with
  | .lst xs => .ok xs ρ1
  | .tup xs => .ok xs ρ1
  | .scr xs => .ok xs ρ1
  | _ => .bad
theorem i_seq (hx : OkX X Γ) {tg e : Expr} {f : EF} (h : PE X e (DE Γ f)) : PI X tg e (DI Γ (iSeq f)) := by
  refine PI.or (pi_list (tg := tg) h) (pi_tup (tg := tg) h) fun σ H R ⟨G, ρ, ok, q⟩ => ?_
  cases hf : f ρ with
  | bad => simp only [iSeq, hf, ERes.bind] at q
  | exc c fs ρ1 =>
    simp only [iSeq, hf, ERes.bind] at q
    refine .inl ⟨G, ρ, ok, ?_⟩
    rw [hf]; exact q
  | ok p ρ1 =>
    cases p with
    | lst xs =>
      simp only [iSeq, hf, ERes.bind] at q
      refine .inl ⟨G, ρ, ok, ?_⟩
      rw [hf]
      intro v G' H' e1 ok1 r1
      cases r1 with
      | lst h1 rr => exact ⟨_, rfl, ⟨_, .inl (ok1.gH.rd h1)⟩, by rw [hx.k]; exact q _ G' H' e1 ok1 (walks_list (.inl h1) rr)⟩
    | scr xs =>
      simp only [iSeq, hf, ERes.bind] at q
      refine .inl ⟨G, ρ, ok, ?_⟩
      rw [hf]
      intro v G' H' e1 ok1 r1
      cases r1 with
      | scr h1 rr => exact ⟨_, rfl, ⟨_, by rw [hx.k]; exact ok1.gH.sqL h1⟩, by rw [hx.k]; exact q _ G' H' e1 ok1 (walks_list h1 rr)⟩
    | tup xs =>
      simp only [iSeq, hf, ERes.bind] at q
      refine .inr ⟨G, ρ, ok, ?_⟩
      rw [hf]
      intro v G' H' e1 ok1 r1
      cases r1 with
      | tup h1 rr => exact ⟨_, rfl, ⟨_, by rw [hx.k]; exact ok1.gH.sqT h1⟩, by rw [hx.k]; exact q _ G' H' e1 ok1 (walks_tup h1 rr)⟩
    | _ => simp only [iSeq, hf, ERes.bind] at q
/-! range -/
def intsP (lo : Int) (n : Nat) : List PV := (List.range n).map fun i => PV.int (lo + (i : Nat))
theorem intsP_len (lo : Int) (n : Nat) : (intsP lo n).length = n := by simp [intsP]
theorem intsP_get {lo : Int} {n i : Nat} (h : i < n) : (intsP lo n)[i]? = some (.int (lo + (i : Nat))) := by simp [intsP, h]
theorem walks_range {G : Hp} {lo : Int} {n : Nat} : Walks Γ (Itr lo n) G (intsP lo n) where
  goes := fun i H hi _ => by rw [intsP_len] at hi; exact hi
  stops := fun H _ => by rw [intsP_len]; exact Nat.le_refl _
  yields := fun i H x H' hi _ y => by
    rw [intsP_len] at hi
    obtain ⟨e1, e2⟩ := y
    subst e1 e2
    exact ⟨_, intsP_get hi, fun G1 _ g2 => ⟨G1, Grow.refl g2, .int _⟩⟩
def rng1 : List PV → Option (List PV)
  | [.int j] => if decide (-100000 ≤ j ∧ j ≤ 100000) = true then some (intsP 0 j.toNat) else none
  | _ => none
def rng2 : List PV → Option (List PV)
  | [.int i, .int j] => if decide ((-100000 ≤ i ∧ i ≤ 100000) ∧ (-100000 ≤ j ∧ j ≤ 100000)) = true then some (intsP i (j - i).toNat) else none
  | _ => none
def lRes (o : Option (List PV)) (ρ : PEnv) : ERes (List PV) := match o with
  | some z => .ok z ρ
  | none => .bad
def iArg (g : List PV → Option (List PV)) (fa : AF) : IF := fun ρ => (fa ρ).bind fun ps ρ1 => lRes (g ps) ρ1
theorem DX.bindI2 {α1 β1 : Type} {rel1 : Hp → β1 → α1 → Prop} {f : PEnv → ERes α1} {k : α1 → PEnv → ERes (List PV)} {G H : Hp} {σ : L2.St} {ρ : PEnv} {R : It → Hp → Prop} {Q1 : β1 → Hp → Prop}
    (ok : EnvOk Γ G σ H ρ) (h : match (f ρ).bind k with
      | .ok ps ρ' => ∀ J G' H', Ex G G' → EnvOk Γ G' σ H' ρ' → Walks Γ J G' ps → R J H'
      | .exc c fs ρ' => ExcPost Γ c fs ρ' G σ
      | .bad => False)
    (c : ∀ v G1 H1 p ρ1, Ex G G1 → EnvOk Γ G1 σ H1 ρ1 → rel1 G1 v p → (match k p ρ1 with
      | .ok ps ρ' => ∀ J G' H', Ex G1 G' → EnvOk Γ G' σ H' ρ' → Walks Γ J G' ps → R J H'
      | .exc c fs ρ' => ExcPost Γ c fs ρ' G1 σ
      | .bad => False) → Q1 v H1) : DX Γ rel1 f σ H Q1 := by
  refine ⟨G, ρ, ok, ?_⟩
  cases e : f ρ with
  | ok p ρ1 =>
    rw [e] at h
    refine fun v G1 H1 h1 h2 h3 => c v G1 H1 p ρ1 h1 h2 h3 ?_
    simp only [ERes.bind] at h
    cases hk : k p ρ1 with
    | ok ps ρ' => rw [hk] at h; exact fun J G' H' g => h J G' H' (h1.trans g)
    | exc c fs ρ' => rw [hk] at h; exact ExcPost.mono h1 h
    | bad => rw [hk] at h; exact h
  | exc a fs ρ1 =>
    rw [e] at h
    exact h
  | bad =>
    rw [e] at h
    exact h
theorem i_arg {tg e : Expr} {g : List PV → Option (List PV)} {fa : AF} {wi : TI} (h : PI X tg e wi)
    (hw : ∀ σ H R, DX Γ (Reps Γ.K Γ.mg) fa σ H (fun vs H1 => ∃ G1 ρ1 ps zs, EnvOk Γ G1 σ H1 ρ1 ∧ Reps Γ.K Γ.mg G1 vs ps ∧ g ps = some zs ∧ ∀ J G' H', Ex G1 G' → EnvOk Γ G' σ H' ρ1 → Walks Γ J G' zs → R J H') → wi σ H R) : PI X tg e (DI Γ (iArg g fa)) :=
  PI.imp h fun σ H R ⟨G, ρ, ok, q⟩ => by
    refine hw σ H R (DX.bindI2 ok q fun vs G1 H1 ps ρ1 e1 ok1 r1 h1 => ?_)
    cases hg : g ps with
    | none => rw [hg] at h1; exact h1.elim
    | some zs => rw [hg] at h1; exact ⟨G1, ρ1, ps, zs, ok1, r1, hg, h1⟩
theorem DX.monoQ {α β : Type} {rel : Hp → β → α → Prop} {f : PEnv → ERes α} {σ : L2.St} {H : Hp} {Q Q' : β → Hp → Prop} (h : DX Γ rel f σ H Q) (i : ∀ v H', Q v H' → Q' v H') : DX Γ rel f σ H Q' := by
  obtain ⟨G, ρ, ok, q⟩ := h
  refine ⟨G, ρ, ok, ?_⟩
  cases e : f ρ with
  | ok p ρ1 => rw [e] at q; exact fun v G' H' h1 h2 h3 => i v H' (q v G' H' h1 h2 h3)
  | exc c fs ρ1 => rw [e] at q; exact q
  | bad => rw [e] at q; exact q
theorem i_rng1 {tg e : Expr} {fa : AF} (h : PI X tg e (iRng1 (DA Γ fa))) : PI X tg e (DI Γ (iArg rng1 fa)) :=
  i_arg h fun σ H R q => DX.monoQ q fun vs H1 ⟨G1, ρ1, ps, zs, ok1, r1, hg, k⟩ => by
    unfold rng1 at hg
    split at hg
    · split at hg
      · rename_i j c
        cases hg
        have c' := of_decide_eq_true c
        obtain ⟨v, rfl, rv⟩ := reps1 r1
        cases rv
        refine ⟨j, rfl, ?_, ?_, k _ G1 H1 (Ex.refl G1) ok1 walks_range⟩
        · exact Int.le_trans (by decide) c'.1
        · exact Int.lt_of_le_of_lt c'.2 (by decide)
      · cases hg
    · cases hg
theorem i_rng2 {tg e : Expr} {fa : AF} (h : PI X tg e (iRng2 (DA Γ fa))) : PI X tg e (DI Γ (iArg rng2 fa)) :=
  i_arg h fun σ H R q => DX.monoQ q fun vs H1 ⟨G1, ρ1, ps, zs, ok1, r1, hg, k⟩ => by
    unfold rng2 at hg
    split at hg
    · split at hg
      · rename_i i j c
        cases hg
        have c' := of_decide_eq_true c
        obtain ⟨v, w, rfl, rv, rw'⟩ := reps2 r1
        cases rv; cases rw'
        refine ⟨i, j, rfl, ⟨?_, ?_, ?_, ?_⟩, k _ G1 H1 (Ex.refl G1) ok1 walks_range⟩
        · exact Int.le_trans (by decide) c'.1.1
        · exact Int.lt_of_le_of_lt c'.1.2 (by decide)
        · exact Int.le_trans (by decide) c'.2.1
        · exact Int.lt_of_le_of_lt c'.2.2 (by decide)
      · cases hg
    · cases hg
/-! pairs -/
theorem repPair {G H : Hp} {T : Addr} {x y : V} {p q : PV} (gh : Ex G H) (hT : H T = none) (rx : Rep Γ.K Γ.mg G x p) (ry : Rep Γ.K Γ.mg G y q) :
    ∃ G2, Grow G H G2 (upd H T (.tup [x, y])) ∧ Rep Γ.K Γ.mg G2 (.ref T) (.tup [p, q]) :=
  ⟨_, Grow.new gh hT, Rep.newT (gh.none hT) (.cons rx (.cons ry .nil))⟩
def enumP (ps : List PV) : List PV := (intsP 0 ps.length).zipWith (fun a b => PV.tup [a, b]) ps
theorem enumP_len (ps : List PV) : (enumP ps).length = ps.length := by simp [enumP, intsP_len]
theorem enumP_get {ps : List PV} {i : Nat} {p : PV} (h : ps[i]? = some p) : (enumP ps)[i]? = some (.tup [.int (i : Nat), p]) := by
  have hi := (List.getElem?_eq_some_iff.mp h).1
  simp [enumP, List.getElem?_zipWith, intsP_get hi, h]
theorem walks_enum {G : Hp} {a : Addr} {vs : List V} {ps : List PV} (h : SqL Γ.K G a vs) (r : Reps Γ.K Γ.mg G vs ps) : Walks Γ (Ite Γ.K a) G (enumP ps) where
  goes := fun i H hi e => by
    rw [enumP_len] at hi
    exact walk_enum.goes i H (by rw [r.length]; exact hi) (e.sqL h)
  stops := fun H e => by rw [enumP_len, ← r.length]; exact walk_enum.stops H (e.sqL h)
  yields := fun i H x H' hi e y => by
    rw [enumP_len] at hi
    obtain ⟨T, u, w, h1, h2, h3, h4, h5⟩ := walk_enum.yields i H x H' (by rw [r.length]; exact hi) (e.sqL h) y
    subst h1 h3
    obtain ⟨p, g1, g2⟩ := r.getV h5
    cases h4
    exact ⟨_, enumP_get g1, fun G1 e1 e2 => repPair e2 h2 (.int _) (g2.mono e1)⟩

/-! ### for -/
def forL (g : GF) (body : SF) : List PV → PEnv → SRes
  | [], ρ => .nx ρ
  | p :: ps, ρ => match g p ρ with
    | none => .bad
    | some ρ1 => match body ρ1 with
      | .nx ρ2 => forL g body ps ρ2
      | .ct ρ2 => forL g body ps ρ2
      | .bk ρ2 => .nx ρ2
      | r => r
def sFor (fi : IF) (g : GF) (body : SF) : SF := fun ρ => (fi ρ).bindS fun ps ρ1 => forL g body ps ρ1
theorem s_for {st : Stmt} {is : List Nat} {fi : IF} {g : GF} {body : SF} (h : PS X st (tFor (DI Γ fi) (DG Γ is g) (DS Γ body))) : PS X st (DS Γ (sFor fi g body)) :=
  PS.imp h fun D σ H ⟨G, ρ, ok, q⟩ => by
    refine ⟨G, ρ, ok, ?_⟩
    cases hf : fi ρ with
    | bad => simp only [sFor, hf, ERes.bindS] at q; exact q
    | exc c fs ρ1 =>
      simp only [sFor, hf, ERes.bindS] at q
      exact fun C d ws G' H' => q C d ws σ G' H'
    | ok ps ρ1 =>
      simp only [sFor, hf, ERes.bindS] at q
      intro J G0 H0 e0 ok0 wk
      have q0 := PostS.mono e0 q
      have w : Walk J ps.length (fun H => Ex G0 H) (fun i H x H' => ∃ p, ps[i]? = some p ∧ ∀ G1 : Hp, Ex G0 G1 → Ex G1 H → ∃ G2, Grow G1 H G2 H' ∧ Rep Γ.K Γ.mg G2 x p) :=
        ⟨wk.goes, fun H h => wk.stops H h, wk.yields⟩
      refine for_it w (fun i σ H => ∃ G' ρ', Ex G0 G' ∧ EnvOk Γ G' σ H ρ' ∧ PostS Γ (forL g body (ps.drop i) ρ') G' D) ⟨G0, ρ1, Ex.refl G0, ok0, q0⟩ (fun i σ H _ ⟨G', ρ', e', ok', _⟩ => e'.trans ok'.gH) ?_ ?_
      · rintro i x σ1 H1 H1' hi ⟨G1, ρ2, e1, ok1, k1⟩ ⟨p, hp, hy⟩
        obtain ⟨G2, gr, rx⟩ := hy G1 e1 ok1.gH
        have hd : ps.drop i = p :: ps.drop (i + 1) := by
          obtain ⟨hlt, hpe⟩ := List.getElem?_eq_some_iff.mp hp
          rw [List.drop_eq_getElem_cons hlt, hpe]
        rw [hd] at k1
        refine ⟨G2, ρ2, p, ok1.grow gr, rx, ?_⟩
        simp only [forL] at k1
        cases hg : g p ρ2 with
        | none => rw [hg] at k1; exact k1.elim
        | some ρ3 =>
          rw [hg] at k1
          intro σ2 ok2 _
          refine ⟨G2, ρ3, ok2, ?_⟩
          simp only at k1
          have k2 := PostS.mono gr.gG k1
          cases hb : body ρ3 with
          | nx ρ4 => rw [hb] at k2; exact fun σ' G' H' e' ok' => ⟨G', ρ4, (e1.trans gr.gG).trans e', ok', PostS.mono e' k2⟩
          | ct ρ4 => rw [hb] at k2; exact fun σ' G' H' e' ok' => ⟨G', ρ4, (e1.trans gr.gG).trans e', ok', PostS.mono e' k2⟩
          | bk ρ4 => rw [hb] at k2; exact k2
          | rt p ρ4 => rw [hb] at k2; exact k2
          | ro p ρ4 => rw [hb] at k2; exact k2
          | exc c fs ρ4 => rw [hb] at k2; exact k2
          | bad => rw [hb] at k2; exact k2
      · rintro σ1 H1 ⟨G1, ρ2, e1, ok1, k1⟩
        rw [List.drop_length] at k1
        exact k1 σ1 G1 H1 (Ex.refl G1) ok1
/-! ### while -/
def whileL (t : TF) (body : SF) : Nat → PEnv → SRes
  | 0, _ => .bad
  | n + 1, ρ => (t ρ).bindS fun b ρ1 => if b = true then (match body ρ1 with
      | .nx ρ2 => whileL t body n ρ2
      | .ct ρ2 => whileL t body n ρ2
      | .bk ρ2 => .nx ρ2
      | r => r) else .nx ρ1
def sWhile (fuel : PEnv → Nat) (t : TF) (body : SF) : SF := fun ρ => whileL t body (fuel ρ) ρ
theorem s_while {st : Stmt} {fuel : PEnv → Nat} {t : TF} {body : SF} (h : PS X st (tWhile (DT Γ t) (DS Γ body))) : PS X st (DS Γ (sWhile fuel t body)) :=
  PS.imp h fun D σ H ⟨G, ρ, ok, q⟩ => by
    refine ⟨fun m σ H => ∃ G ρ, EnvOk Γ G σ H ρ ∧ PostS Γ (whileL t body m ρ) G D, ⟨fuel ρ, G, ρ, ok, q⟩, ?_⟩
    rintro m σ1 H1 ⟨G1, ρ1, ok1, k1⟩
    cases m with
    | zero => exact k1.elim
    | succ n =>
      refine DX.bindS ok1 k1 fun b G2 H2 p ρ2 e2 ok2 r2 k2 => ?_
      have r2' : b = p := r2
      subst r2'
      cases b with
      | false => exact k2 σ1 G2 H2 (Ex.refl G2) ok2
      | true =>
        refine ⟨fun σ H => ∃ G ρ, EnvOk Γ G σ H ρ ∧ PostS Γ (whileL t body n ρ) G D, fun σ' H' h' => ⟨n, Nat.lt_succ_self n, h'⟩, G2, ρ2, ok2, ?_⟩
        have k3 : PostS Γ (match body ρ2 with
          | .nx ρ2 => whileL t body n ρ2
          | .ct ρ2 => whileL t body n ρ2
          | .bk ρ2 => .nx ρ2
          | r => r) G2 D := k2
        cases hb : body ρ2 with
        | nx ρ4 => rw [hb] at k3; exact fun σ' G' H' e' ok' => ⟨G', ρ4, ok', PostS.mono e' k3⟩
        | ct ρ4 => rw [hb] at k3; exact fun σ' G' H' e' ok' => ⟨G', ρ4, ok', PostS.mono e' k3⟩
        | bk ρ4 => rw [hb] at k3; exact k3
        | rt p ρ4 => rw [hb] at k3; exact k3
        | ro p ρ4 => rw [hb] at k3; exact k3
        | exc c fs ρ4 => rw [hb] at k3; exact k3
        | bad => rw [hb] at k3; exact k3
end
end PL
end

section
set_option Elab.async false
set_option linter.all false
set_option maxRecDepth 100000
set_option maxHeartbeats 4000000
set_option autoImplicit false
namespace PL
open PySem PySem.Spec PyProof.Rows L2

/-! ### comprehensions -/
theorem wipe_len (σ : L2.St) : ∀ vs : List Nat, (wipe σ vs).length = σ.length
  | [] => rfl
  | v :: vs => by
    show ((wipe σ vs).set v none).length = _
    rw [List.length_set, wipe_len σ vs]
theorem wipe_out {σ : L2.St} {j : Nat} : ∀ {vs : List Nat}, j ∉ vs → (wipe σ vs)[j]? = σ[j]?
  | [], _ => rfl
  | v :: vs, h => by
    show ((wipe σ vs).set v none)[j]? = _
    rw [List.getElem?_set_ne (fun z : v = j => h (by simp [z]))]
    exact wipe_out fun z => h (by simp [z])
theorem wipe_in {σ : L2.St} {j : Nat} : ∀ {vs : List Nat}, j ∈ vs → j < σ.length → (wipe σ vs)[j]? = some none
  | [], h, _ => by cases h
  | v :: vs, h, hl => by
    show ((wipe σ vs).set v none)[j]? = _
    by_cases z : v = j
    · subst z
      exact List.getElem?_set_self (by rw [wipe_len]; exact hl)
    · rw [List.getElem?_set_ne z]
      rcases List.mem_cons.mp h with e | e
      · exact absurd e.symm z
      · exact wipe_in e hl
theorem wipe_sbut {σ σ' : L2.St} {is vs : List Nat} (h : SBut is σ σ') (hs : ∀ j ∈ is, j ∈ vs) : wipe σ' vs = wipe σ vs := by
  apply List.ext_getElem?
  intro j
  by_cases hj : j ∈ vs
  · by_cases hl : j < σ.length
    · rw [wipe_in hj hl, wipe_in hj (by rw [h.1]; exact hl)]
    · rw [List.getElem?_eq_none (by rw [wipe_len, h.1]; omega), List.getElem?_eq_none (by rw [wipe_len]; omega)]
  · rw [wipe_out hj, wipe_out hj]
    exact h.2 j fun z => hj (hs j z)
theorem wipe_wipe {σ : L2.St} {vs : List Nat} : wipe (wipe σ vs) vs = wipe σ vs := by
  apply List.ext_getElem?
  intro j
  by_cases hj : j ∈ vs
  · by_cases hl : j < σ.length
    · rw [wipe_in hj hl, wipe_in hj (by rw [wipe_len]; exact hl)]
    · rw [List.getElem?_eq_none (by rw [wipe_len, wipe_len]; omega), List.getElem?_eq_none (by rw [wipe_len]; omega)]
  · rw [wipe_out hj]
def wipeE (ρ : PEnv) : List Nat → PEnv
  | [] => ρ
  | v :: vs => (wipeE ρ vs).set v .no
theorem wipeE_len (ρ : PEnv) : ∀ vs : List Nat, (wipeE ρ vs).length = ρ.length
  | [] => rfl
  | v :: vs => by
    show ((wipeE ρ vs).set v .no).length = _
    rw [List.length_set, wipeE_len ρ vs]
theorem wipeE_out {ρ : PEnv} {j : Nat} : ∀ {vs : List Nat}, j ∉ vs → (wipeE ρ vs)[j]? = ρ[j]?
  | [], _ => rfl
  | v :: vs, h => by
    show ((wipeE ρ vs).set v .no)[j]? = _
    rw [List.getElem?_set_ne (fun z : v = j => h (by simp [z]))]
    exact wipeE_out fun z => h (by simp [z])
theorem wipeE_in {ρ : PEnv} {j : Nat} {s : Slot} : ∀ {vs : List Nat}, j ∈ vs → (wipeE ρ vs)[j]? = some s → s = .no
  | [], h, _ => by cases h
  | v :: vs, h, e => by
    have e' : ((wipeE ρ vs).set v .no)[j]? = some s := e
    by_cases z : v = j
    · subst z
      have hl : v < (wipeE ρ vs).length := by
        rcases Nat.lt_or_ge v (wipeE ρ vs).length with h | h
        · exact h
        · rw [List.getElem?_eq_none (by simpa using h)] at e'; cases e'
      rw [List.getElem?_set_self hl] at e'
      cases e'; rfl
    · rw [List.getElem?_set_ne z] at e'
      rcases List.mem_cons.mp h with q | q
      · exact absurd q.symm z
      · exact wipeE_in q e'
theorem EnvOk.wipe {Γ : Gam} {G H : Hp} {σ : L2.St} {ρ : PEnv} (ok : EnvOk Γ G σ H ρ) : ∀ {vs : List Nat}, (∀ j ∈ vs, Γ.P j = none) → EnvOk Γ G (L2.wipe σ vs) H (wipeE ρ vs)
  | [], _ => ok
  | v :: vs, h => (ok.wipe (vs := vs) fun j hj => h j (by simp [hj])).setNo (h v (by simp))
def noOwn (ρ : PEnv) (vs : List Nat) : Bool := vs.all fun j => match ρ[j]? with
  | some (.own _) => false
  | _ => true
/-- behind the block the own names are what they were -/
def backE (ρ ρ0 : PEnv) : List Nat → PEnv
  | [] => ρ
  | v :: vs => match ρ0[v]? with
    | some s => (backE ρ ρ0 vs).set v s
    | none => backE ρ ρ0 vs
theorem backE_len (ρ ρ0 : PEnv) : ∀ vs : List Nat, (backE ρ ρ0 vs).length = ρ.length
  | [] => rfl
  | v :: vs => by
    unfold backE
    cases ρ0[v]? with
    | none => exact backE_len ρ ρ0 vs
    | some s => rw [List.length_set]; exact backE_len ρ ρ0 vs
theorem backE_out {ρ ρ0 : PEnv} {j : Nat} : ∀ {vs : List Nat}, j ∉ vs → (backE ρ ρ0 vs)[j]? = ρ[j]?
  | [], _ => rfl
  | v :: vs, h => by
    unfold backE
    have ih := backE_out (ρ := ρ) (ρ0 := ρ0) (j := j) (vs := vs) fun z => h (by simp [z])
    cases ρ0[v]? with
    | none => exact ih
    | some s =>
      show ((backE ρ ρ0 vs).set v s)[j]? = _
      rw [List.getElem?_set_ne (fun z : v = j => h (by simp [z]))]
      exact ih
theorem backE_in {ρ ρ0 : PEnv} {j : Nat} : ∀ {vs : List Nat}, j ∈ vs → ρ0.length = ρ.length → (backE ρ ρ0 vs)[j]? = ρ0[j]?
  | [], h, _ => by cases h
  | v :: vs, h, hl => by
    unfold backE
    by_cases z : v = j
    · subst z
      cases e : ρ0[v]? with
      | none =>
        show (backE ρ ρ0 vs)[v]? = none
        rw [List.getElem?_eq_none_iff] at e ⊢
        rw [backE_len]; omega
      | some s =>
        show ((backE ρ ρ0 vs).set v s)[v]? = some s
        have := (List.getElem?_eq_some_iff.mp e).1
        exact List.getElem?_set_self (by rw [backE_len]; omega)
    · have ih := backE_in (ρ := ρ) (ρ0 := ρ0) (j := j) (vs := vs) (by
        rcases List.mem_cons.mp h with q | q
        · exact absurd q.symm z
        · exact q) hl
      cases ρ0[v]? with
      | none => exact ih
      | some s =>
        show ((backE ρ ρ0 vs).set v s)[j]? = _
        rw [List.getElem?_set_ne z]
        exact ih
theorem EnvOk.back {Γ : Gam} {G0 G H0 H : Hp} {σ : L2.St} {ρ0 ρ : PEnv} {vs : List Nat} (ok0 : EnvOk Γ G0 σ H0 ρ0) (ok : EnvOk Γ G (L2.wipe σ vs) H ρ) (e : Ex G0 G) (hn : noOwn ρ0 vs = true) (hp : ∀ j ∈ vs, Γ.P j = none) : EnvOk Γ G σ H (backE ρ ρ0 vs) := by
  have hl : ρ0.length = ρ.length := by rw [← ok0.len, ← ok.len, wipe_len]
  have nown : ∀ (j : Nat) (p : PV), j ∈ vs → ρ0[j]? ≠ some (Slot.own p) := fun j p hj z => by
    have h1 := List.all_eq_true.mp hn j hj
    rw [z] at h1
    cases h1
  refine ⟨by rw [backE_len, ← ok.len, wipe_len], ok.cH, ok.gH, ok.g0, ok.gC, ok0.par, fun j p hj => ?_, fun j p hj => ?_, fun j k p q a hjk hj hk e1 e2 => ?_⟩
  · by_cases z : j ∈ vs
    · rw [backE_in z hl] at hj
      obtain ⟨x, h1, h2⟩ := ok0.val j p hj
      exact ⟨x, h1, h2.mono e⟩
    · rw [backE_out z] at hj
      obtain ⟨x, h1, h2⟩ := ok.val j p hj
      rw [wipe_out z] at h1
      exact ⟨x, h1, h2⟩
  · by_cases z : j ∈ vs
    · rw [backE_in z hl] at hj
      exact absurd hj (nown j p z)
    · rw [backE_out z] at hj
      obtain ⟨a, o, h1, h2⟩ := ok.own j p hj
      rw [wipe_out z] at h1
      exact ⟨a, o, h1, h2⟩
  · have zz : ∀ (j : Nat) (p : PV), (backE ρ ρ0 vs)[j]? = some (Slot.own p) → j ∉ vs := fun j p hj z => by
      rw [backE_in z hl] at hj
      exact nown j p z hj
    have z1 := zz j p hj
    have z2 := zz k q hk
    rw [backE_out z1] at hj
    rw [backE_out z2] at hk
    exact ok.dis j k p q a hjk hj hk (by rw [wipe_out z1]; exact e1) (by rw [wipe_out z2]; exact e2)
/-- one more thing is kept from change -/
def Gam.guard (Γ : Gam) (D : Addr) (o : HO) : Gam := { Γ with C := upd Γ.C D o, W := fun _ _ _ _ => False }
theorem EnvOk.guard {Γ : Gam} {G H : Hp} {σ : L2.St} {ρ : PEnv} {D : Addr} {o : HO} (ok : EnvOk Γ G σ H ρ) (hG : G D = none) (hH : H D = some o) (hn : ∀ (i : Nat) (q : PV), ρ[i]? = some (Slot.own q) → σ[i]? ≠ some (some (V.ref D))) : EnvOk (Γ.guard D o) G σ H ρ := by
  refine ⟨ok.len, ok.cH.putH hH, ok.gH, ok.g0, fun a ha => ?_, ok.par, ok.val, fun i p hi => ?_, ok.dis⟩
  · by_cases z : a = D
    · subst z
      rw [hG]
      exact (ok.g0.none hG).symm
    · exact ok.gC a (by rw [show (Γ.guard D o).C a = Γ.C a from upd_ne z] at ha; exact ha)
  · obtain ⟨a, u, h1, h2, h3⟩ := ok.own i p hi
    refine ⟨a, u, h1, ?_, h3⟩
    show upd Γ.C D o a = none
    rw [upd_ne (fun z : a = D => hn i p hi (by rw [← z]; exact h1))]
    exact h2
theorem EnvOk.unguard {Γ : Gam} {G H : Hp} {σ : L2.St} {ρ : PEnv} {D : Addr} {o : HO} (ok : EnvOk (Γ.guard D o) G σ H ρ) (hC : Γ.C D = none) (hG : Γ.G D = none) :
    EnvOk Γ G σ H ρ ∧ H D = some o ∧ G D = none ∧ ∀ (i : Nat) (q : PV), ρ[i]? = some (Slot.own q) → σ[i]? ≠ some (some (V.ref D)) := by
  have hD : H D = some o := ok.cH D o upd_same
  refine ⟨⟨ok.len, (Ex.new hC).trans ok.cH, ok.gH, ok.g0, fun a ha => ?_, ok.par, ok.val, fun i p hi => ?_, ok.dis⟩, hD, ?_, fun i q hi z => ?_⟩
  · by_cases z : a = D
    · subst z; exact absurd hC ha
    · exact ok.gC a (by rw [show (Γ.guard D o).C a = Γ.C a from upd_ne z]; exact ha)
  · obtain ⟨a, u, h1, h2, h3⟩ := ok.own i p hi
    refine ⟨a, u, h1, ?_, h3⟩
    by_cases z : a = D
    · subst z; exact hC
    · rw [show (Γ.guard D o).C a = Γ.C a from upd_ne z] at h2
      exact h2
  · have h1 := ok.gC D (by rw [show (Γ.guard D o).C D = some o from upd_same]; intro z; cases z)
    rw [h1]; exact hG
  · obtain ⟨a, u, h1, h2, _⟩ := ok.own i q hi
    rw [z] at h1
    cases h1
    rw [show (Γ.guard D o).C D = some o from upd_same] at h2
    cases h2
/-- the frame's thing is another one -/
theorem EnvOk.reguard {Γ : Gam} {G H : Hp} {σ : L2.St} {ρ : PEnv} {D : Addr} {o : HO} (ok : EnvOk Γ G σ H ρ) (hC : Γ.C D = none) (hG : G D = none) (hn : ∀ (i : Nat) (q : PV), ρ[i]? = some (Slot.own q) → σ[i]? ≠ some (some (V.ref D))) : EnvOk Γ G σ (upd H D o) ρ := by
  have exn : ∀ {F : Hp}, Ex F H → F D = none → Ex F (upd H D o) := fun {F} e n b w hb => by
    rw [upd_ne (fun z : b = D => by rw [z, n] at hb; cases hb)]
    exact e b w hb
  refine ⟨ok.len, exn ok.cH hC, exn ok.gH hG, ok.g0, ok.gC, ok.par, ok.val, fun i p hi => ?_, ok.dis⟩
  obtain ⟨a, u, h1, h2, h3, h4, h5⟩ := ok.own i p hi
  refine ⟨a, u, h1, h2, h3, ?_, h5⟩
  rw [upd_ne (fun z : a = D => hn i p hi (by rw [← z]; exact h1))]
  exact h4

def lcL (vs : List Nat) (g : GF) (t : TF) (e : EF) : List PV → PEnv → ERes (List PV)
  | [], ρ => .ok [] ρ
  | p :: ps, ρ => match g p ρ with
    | none => .bad
    | some ρ1 => match t ρ1 with
      | .ok true ρ2 => match e ρ2 with
        | .ok y ρ3 => match lcL vs g t e ps (wipeE ρ3 vs) with
          | .ok ys ρ4 => .ok (y :: ys) ρ4
          | _ => .bad
        | _ => .bad
      | .ok false ρ2 => lcL vs g t e ps (wipeE ρ2 vs)
      | _ => .bad
def eLc (vs : List Nat) (fi : IF) (g : GF) (t : TF) (e : EF) : EF := fun ρ => (fi ρ).bind fun ps ρ1 =>
  if (noOwn ρ1 vs && decide (ps.length ≤ 100000)) = true then (match lcL vs g t e ps (wipeE ρ1 vs) with
    | .ok ys ρ2 => .ok (.lst ys) (backE ρ2 ρ1 vs)
    | _ => .bad) else .bad
theorem lcL_len {vs : List Nat} {g : GF} {t : TF} {e : EF} : ∀ {ps : List PV} {ρ ρ' : PEnv} {ys : List PV}, lcL vs g t e ps ρ = .ok ys ρ' → ys.length ≤ ps.length
  | [], ρ, ρ', ys, h => by simp only [lcL] at h; cases h; exact Nat.le_refl _
  | p :: ps, ρ, ρ', ys, h => by
    simp only [lcL] at h
    split at h
    · cases h
    · split at h
      · split at h
        · split at h
          · rename_i hh
            cases h
            have := lcL_len hh
            simp only [List.length_cons]; omega
          · cases h
        · cases h
      · have := lcL_len h
        simp only [List.length_cons]; omega
      · cases h
def tYs : TF := fun ρ => .ok true ρ
section
variable {X : Cx} {Γ : Gam} {pos : Pos}
theorem t_yes {Γ : Gam} : ∀ σ H Q, DT Γ tYs σ H Q → tYes σ H Q := fun σ H Q ⟨G, ρ, ok, q⟩ => q true G H (Ex.refl G) ok rfl
/-- the comprehension's reading -/
theorem f_lcI {vs is : List Nat} {fi : IF} {g : GF} {t : TF} {e : EF} {wi : TI} {wg : TG} {wt : TT} {we : TE} (hi : ∀ σ H R, DI Γ fi σ H R → wi σ H R) (hp : ∀ j ∈ vs, Γ.P j = none) (his : ∀ j ∈ is, j ∈ vs)
    (hg : ∀ D o v σ H Q, DG (Γ.guard D o) is g v σ H Q → wg v σ H Q) (ht : ∀ D o σ H Q, DT (Γ.guard D o) t σ H Q → wt σ H Q) (he : ∀ D o σ H Q, DE (Γ.guard D o) e σ H Q → we σ H Q) :
    ∀ σ H Q, DF Γ (eLc vs fi g t e) σ H Q → tLc wi wg wt we vs σ H Q := by
  intro σ H Q ⟨G, ρ, ok, q⟩
  refine hi σ H _ ⟨G, ρ, ok, ?_⟩
  cases hf : fi ρ with
  | bad => simp only [eLc, hf, ERes.bind] at q; exact q
  | exc c fs ρ1 => simp only [eLc, hf, ERes.bind] at q; exact q
  | ok ps ρ1 =>
    simp only [eLc, hf, ERes.bind] at q
    intro J G0 H0 e0 ok0 wk D hD
    have q0 := PostF.mono e0 q
    split at q0
    case isFalse => exact q0.elim
    rename_i cc
    obtain ⟨c1, c2⟩ := Bool.and_eq_true_iff.mp cc
    have c2' := of_decide_eq_true c2
    have hCD : Γ.C D = none := ok0.cH.none hD
    have hG0D : G0 D = none := ok0.gH.none hD
    have hΓG : Γ.G D = none := ok0.g0.none hG0D
    cases hl : lcL vs g t e ps (wipeE ρ1 vs) with
    | bad => rw [hl] at q0; exact q0.elim
    | exc c fs ρ2 => rw [hl] at q0; exact q0.elim
    | ok ys ρ2 =>
      rw [hl] at q0
      have w : Walk J ps.length (fun H => Ex G0 H) (fun i H x H' => ∃ p, ps[i]? = some p ∧ ∀ G1 : Hp, Ex G0 G1 → Ex G1 H → ∃ G2, Grow G1 H G2 H' ∧ Rep Γ.K Γ.mg G2 x p) :=
        ⟨wk.goes, fun H h => wk.stops H h, wk.yields⟩
      refine lc_it w (fun i H => ∃ G' ρ' acc done rest, Ex G0 G' ∧ EnvOk (Γ.guard D (.lst acc)) G' (L2.wipe σ vs) H ρ' ∧ Reps Γ.K Γ.mg G' acc done ∧ done ++ rest = ys ∧ done.length ≤ i ∧ lcL vs g t e (ps.drop i) ρ' = .ok rest ρ2) ?_ ?_ ?_ ?_
      · refine ⟨G0, wipeE ρ1 vs, [], [], ys, Ex.refl G0, ?_, .nil, rfl, Nat.zero_le _, hl⟩
        have ok1 := (ok0.grow (Grow.newH (o := HO.lst []) ok0.gH hD)).wipe hp
        exact ok1.guard hG0D upd_same fun i q' hi' => (ok0.wipe hp).notOwn hD i q' hi'
      · rintro i H1 _ ⟨G', ρ', acc, dn, rest, e', ok', _⟩
        exact e'.trans ok'.gH
      · rintro i x H1 H1' hlt ⟨G1, ρ', acc, dn, rest, e1, ok1, ra, hys, hdl, hr⟩ ⟨p, hpi, hy⟩
        obtain ⟨G2, gr, rx⟩ := hy G1 e1 ok1.gH
        have hd : ps.drop i = p :: ps.drop (i + 1) := by
          obtain ⟨hlt, hpe⟩ := List.getElem?_eq_some_iff.mp hpi
          rw [List.drop_eq_getElem_cons hlt, hpe]
        rw [hd] at hr
        simp only [lcL] at hr
        cases hgp : g p ρ' with
        | none => rw [hgp] at hr; cases hr
        | some ρ3 =>
          rw [hgp] at hr
          simp only at hr
          refine hg D (.lst acc) x _ H1' _ ⟨G2, ρ', p, ok1.grow gr, rx, ?_⟩
          rw [hgp]
          intro σ2 ok2 sb
          have hw : L2.wipe σ2 vs = L2.wipe σ vs := by rw [wipe_sbut sb his, wipe_wipe]
          refine ⟨hw, ht D (.lst acc) σ2 H1' _ ⟨G2, ρ3, ok2, ?_⟩⟩
          cases htr : t ρ3 with
          | bad => rw [htr] at hr; cases hr
          | exc c fs ρ4 => rw [htr] at hr; cases hr
          | ok b ρ4 =>
            rw [htr] at hr
            intro v G3 H3 e3 ok3 rv
            have rv' : v = b := rv
            subst rv'
            cases v with
            | false =>
              simp only at hr
              show ∃ G' ρ' acc done rest, _
              refine ⟨G3, wipeE ρ4 vs, acc, dn, rest, (e1.trans gr.gG).trans e3, ?_, ra.mono (gr.gG.trans e3), hys, by omega, hr⟩
              have := ok3.wipe (vs := vs) hp
              rw [hw] at this
              exact this
            | true =>
              simp only at hr
              show we σ2 H3 _
              refine he D (.lst acc) σ2 H3 _ ⟨G3, ρ4, ok3, ?_⟩
              cases her : e ρ4 with
              | bad => rw [her] at hr; cases hr
              | exc c fs ρ5 => rw [her] at hr; cases hr
              | ok y ρ5 =>
                rw [her] at hr
                simp only at hr
                intro v G4 H4 e4 ok4 rv4
                have ok4w := ok4.wipe (vs := vs) hp
                rw [hw] at ok4w
                obtain ⟨ok5, hHD, hGD, hno⟩ := ok4w.unguard hCD hΓG
                have hlen : acc.length < sizeLine := by
                  rw [ra.length]
                  exact Nat.lt_of_lt_of_le (by omega : dn.length < 100000) (szOk (Nat.le_refl _))
                refine ⟨acc, hHD, hlen, ?_⟩
                split at hr
                · rename_i zs ρ6 hz
                  cases hr
                  refine ⟨G4, wipeE ρ5 vs, acc ++ [v], dn ++ [y], zs, ((e1.trans gr.gG).trans e3).trans e4, ?_, (ra.mono ((gr.gG.trans e3).trans e4)).append (.cons rv4 .nil), by rw [List.append_assoc]; exact hys, by simp; omega, hz⟩
                  exact (ok5.reguard hCD hGD hno).guard hGD upd_same hno
                · cases hr
      · rintro H1 ⟨G1, ρ', acc, dn, rest, e1, ok1, ra, hys, hdl, hr⟩
        rw [List.drop_length] at hr
        simp only [lcL] at hr
        cases hr
        rw [List.append_nil] at hys
        subst hys
        obtain ⟨ok2, hHD, hGD, hno⟩ := ok1.unguard hCD hΓG
        have ok3 := EnvOk.back ok0 ok2 e1 c1 hp
        refine q0 D (.lst acc) G1 H1 e1 ok3 hCD hGD hHD (.lst ra) fun j q' hj z => ?_
        have hn' : noOwn ρ1 vs = true := c1
        by_cases zj : j ∈ vs
        · rw [backE_in zj (by rw [← ok0.len, ← ok2.len, wipe_len])] at hj
          have h1 := List.all_eq_true.mp hn' j zj
          rw [hj] at h1
          cases h1
        · rw [backE_out zj] at hj
          exact hno j q' hj (by rw [wipe_out zj]; exact z)
end
end PL
end

section
set_option Elab.async false
set_option linter.all false
set_option maxRecDepth 100000
set_option maxHeartbeats 4000000
set_option autoImplicit false
namespace PL
open PySem PySem.Spec PyProof.Rows L2

/-! ### what a def is worth -/
inductive FRes where
  | ret (p : PV) (os : List PV) | reo (p : PV) (os : List PV) | exc (c : Str) (fs : List (Str × PV)) (os : List PV) | bad
abbrev FF := List PV → FRes
def parOf (ms : List Bool) (vs : List V) : Nat → Option Addr := fun i => match ms[i]?, vs[i]? with
  | some true, some (.ref a) => some a
  | _, _ => none
def slotOf (m : Bool) (p : PV) : Slot := if m = true then .own p else .v p
def slotsOf : List Bool → List PV → PEnv
  | m :: ms, p :: ps => slotOf m p :: slotsOf ms ps
  | _, _ => []
def ownsOf : List Bool → PEnv → Option (List PV)
  | [], _ => some []
  | true :: ms, .own p :: ρ => match ownsOf ms ρ with
    | some os => some (p :: os)
    | none => none
  | false :: ms, _ :: ρ => ownsOf ms ρ
  | _, _ => none
def runF (ms : List Bool) (n : Nat) (B : SF) : FF := fun ps => match B (slotsOf ms ps ++ List.replicate (n - ms.length) .no) with
  | .nx ρ => match ownsOf ms ρ with
    | some os => .ret .non os
    | none => .bad
  | .rt p ρ => match ownsOf ms ρ with
    | some os => .ret p os
    | none => .bad
  | .ro p ρ => match ownsOf ms ρ with
    | some os => .reo p os
    | none => .bad
  | .exc c fs ρ => match ownsOf ms ρ with
    | some os => .exc c fs os
    | none => .bad
  | _ => .bad
def gamOf (K : PySem.W.Frag) (mg : Str → Option Value) (C G : Hp) (ms : List Bool) (vs : List V) (E : XK) : Gam := ⟨K, mg, C, G, parOf ms vs, fun cls d _ H' => E cls d H'⟩
def PostR (Γ : Gam) (ms : List Bool) (r : FRes) (G : Hp) (Q : VK) : Prop := match r with
  | .ret p os => ∀ v σ' G' H' ρ', Ex G G' → EnvOk Γ G' σ' H' ρ' → ownsOf ms ρ' = some os → Rep Γ.K Γ.mg G' v p → Q v H'
  | .reo p os => ∀ a o σ' G' H' ρ', Ex G G' → EnvOk Γ G' σ' H' ρ' → ownsOf ms ρ' = some os → Γ.C a = none → G' a = none → H' a = some o → Top Γ.K Γ.mg G' o p →
      (∀ (i : Nat) (q : PV), ρ'[i]? = some (Slot.own q) → σ'[i]? ≠ some (some (V.ref a))) → Q (.ref a) H'
  | .exc c fs os => ∀ C d ws σ' G' H' ρ', Γ.mg c = some (.ref C) → Ex G G' → EnvOk Γ G' σ' H' ρ' → ownsOf ms ρ' = some os → G' d = some (.xd ws) → RepF Γ.K Γ.mg G' ws fs → Γ.W (.ref C) (some d) σ' H'
  | .bad => False
def spF (K : PySem.W.Frag) (mg : Str → Option Value) (ms : List Bool) (F : FF) : Sp := fun vs H Q E => ∃ (C G : Hp) (ps : List PV), vs.length = ms.length ∧ ps.length = ms.length ∧
  EnvOk (gamOf K mg C G ms vs E) G (vs.map some) H (slotsOf ms ps) ∧ PostR (gamOf K mg C G ms vs E) ms (F ps) G Q
theorem slotsOf_len : ∀ {ms : List Bool} {ps : List PV}, ps.length = ms.length → (slotsOf ms ps).length = ms.length
  | [], [], _ => rfl
  | _ :: ms, _ :: ps, h => congrArg (· + 1) (slotsOf_len (ms := ms) (ps := ps) (Nat.succ.inj h))
  | [], _ :: _, h => by cases h
  | _ :: _, [], h => by cases h
theorem slotsOf_get : ∀ {ms : List Bool} {ps : List PV} {i : Nat} {s : Slot}, (slotsOf ms ps)[i]? = some s → ∃ m p, ms[i]? = some m ∧ ps[i]? = some p ∧ s = slotOf m p
  | [], _, _, _, h => by simp [slotsOf] at h
  | _ :: _, [], _, _, h => by simp [slotsOf] at h
  | m :: ms, p :: ps, 0, s, h => by simp [slotsOf] at h; exact ⟨m, p, rfl, rfl, h.symm⟩
  | m :: ms, p :: ps, i + 1, s, h => by
    have h' : (slotsOf ms ps)[i]? = some s := by simpa [slotsOf] using h
    obtain ⟨m', p', h1, h2, h3⟩ := slotsOf_get h'
    exact ⟨m', p', by simpa using h1, by simpa using h2, h3⟩
theorem EnvOk.pad {Γ : Gam} {G H : Hp} {σ : L2.St} {ρ : PEnv} (n : Nat) (ok : EnvOk Γ G σ H ρ) : EnvOk Γ G (σ ++ List.replicate n none) H (ρ ++ List.replicate n .no) := by
  have gs : ∀ (j : Nat) (s : Slot), s ≠ .no → (ρ ++ List.replicate n .no)[j]? = some s → ρ[j]? = some s ∧ j < ρ.length := fun j s hs hj => by
    by_cases hl : j < ρ.length
    · rw [List.getElem?_append_left hl] at hj
      exact ⟨hj, hl⟩
    · rw [List.getElem?_append_right (by omega), List.getElem?_replicate] at hj
      split at hj
      · cases hj; exact absurd rfl hs
      · cases hj
  have gl : ∀ j : Nat, j < ρ.length → (σ ++ List.replicate n none)[j]? = σ[j]? := fun j hl => List.getElem?_append_left (by rw [ok.len]; exact hl)
  refine ⟨by simp [ok.len], ok.cH, ok.gH, ok.g0, ok.gC, fun i a hi => ?_, fun i p hi => ?_, fun i p hi => ?_, fun i j p q a hij hi hj e1 e2 => ?_⟩
  · have h := ok.par i a hi
    have hl := (List.getElem?_eq_some_iff.mp h).1
    rw [List.getElem?_append_left hl]
    exact h
  · obtain ⟨h, hl⟩ := gs i _ (by intro z; cases z) hi
    rw [gl i hl]
    exact ok.val i p h
  · obtain ⟨h, hl⟩ := gs i _ (by intro z; cases z) hi
    rw [gl i hl]
    exact ok.own i p h
  · obtain ⟨h1, hl1⟩ := gs i _ (by intro z; cases z) hi
    obtain ⟨h2, hl2⟩ := gs j _ (by intro z; cases z) hj
    rw [gl i hl1] at e1
    rw [gl j hl2] at e2
    exact ok.dis i j p q a hij h1 h2 e1 e2
section
variable {P : Program} {w : World} {K : PySem.W.Frag} {mg : Str → Option Value} {base : Heap} {x qual : Str} {params : Arguments} {body : List Stmt} {scope : Scope} {dvs : List V} {kws : List (Str × V)} {f : Addr} {fd : FuncData}
/-- a def, by its body -/
theorem fn_ok {N ps : List Str} {k : Nat} {ms : List Bool} {B : SF} (F : FunD K x qual params body scope dvs kws f fd) (S : FnScope N ps scope) (hms : ps.length = ms.length)
    (hb : ∀ (cdv : Value) (A : Around) (outer : List Env) (s : Shared) (H : Hp) (E : XK) (Γ : Gam), Room k (A.deeper (envOfC qual scope s.heap.objs.size f cdv)) → OkX (cxOf (L2.CX P w) P w K mg base N qual scope f cdv A outer s H E) Γ →
      (∀ i : Nat, ms[i]? ≠ some true → Γ.P i = none) → Takes (cxOf (L2.CX P w) P w K mg base N qual scope f cdv A outer s H E) Γ.W → PassesOwn (model P w) (cxOf (L2.CX P w) P w K mg base N qual scope f cdv A outer s H E).A (cxOf (L2.CX P w) P w K mg base N qual scope f cdv A outer s H E).env (cxOf (L2.CX P w) P w K mg base N qual scope f cdv A outer s H E).xe → PSs (cxOf (L2.CX P w) P w K mg base N qual scope f cdv A outer s H E) body (DS Γ B)) :
    FnOk P w K mg base (L2.CX P w) (k + 1) f fd ps (spF K mg ms (runF ms N.length B)) := by
  refine F.ok S (fun vs H Q E h => ?_) (fun cdv A outer s H vs Q E hr h => ?_)
  · obtain ⟨C, G, qs, h1, _⟩ := h
    rw [h1, hms]
  · obtain ⟨C, G, qs, h1, h2, ok, q⟩ := h
    refine ⟨DS (gamOf K mg C G ms vs E) B, hb cdv A outer s H E (gamOf K mg C G ms vs E) hr ⟨rfl, rfl⟩ (fun i hi => ?_) (takes_of rfl rfl rfl rfl) (passes_of rfl), ?_⟩
    · show parOf ms vs i = none
      unfold parOf
      split
      · rename_i e _; exact absurd e hi
      · rfl
    · have okp := ok.pad (N.length - vs.length)
      refine ⟨G, _, okp, ?_⟩
      have e0 : N.length - vs.length = N.length - ms.length := by rw [h1]
      rw [e0]
      unfold runF at q
      cases hB : B (slotsOf ms qs ++ List.replicate (N.length - ms.length) .no) with
      | nx ρ' =>
        rw [hB] at q
        simp only at q
        cases ho : ownsOf ms ρ' with
        | none => rw [ho] at q; exact q.elim
        | some os => rw [ho] at q; exact fun σ' G' H' e ok' => q .non σ' G' H' ρ' e ok' ho .non
      | rt p ρ' =>
        rw [hB] at q
        simp only at q
        cases ho : ownsOf ms ρ' with
        | none => rw [ho] at q; exact q.elim
        | some os => rw [ho] at q; exact fun v σ' G' H' e ok' r => q v σ' G' H' ρ' e ok' ho r
      | ro p ρ' =>
        rw [hB] at q
        simp only at q
        cases ho : ownsOf ms ρ' with
        | none => rw [ho] at q; exact q.elim
        | some os => rw [ho] at q; exact fun a o σ' G' H' e ok' c1 c2 c3 c4 c5 => q a o σ' G' H' ρ' e ok' ho c1 c2 c3 c4 c5
      | exc c fs ρ' =>
        rw [hB] at q
        simp only at q
        cases ho : ownsOf ms ρ' with
        | none => rw [ho] at q; exact q.elim
        | some os => rw [ho] at q; exact fun C' d ws σ' G' H' hm e ok' c1 c2 => q C' d ws σ' G' H' ρ' hm e ok' ho c1 c2
      | bk ρ' => rw [hB] at q; exact q.elim
      | ct ρ' => rw [hB] at q; exact q.elim
      | bad => rw [hB] at q; exact q.elim
end

/-! ### a call -/
inductive AV where
  | val (p : PV) | own (i : Nat)
def AV.isOwn : AV → Bool
  | .val _ => false
  | .own _ => true
def idx : List AV → List Nat
  | [] => []
  | .val _ :: as => idx as
  | .own i :: as => i :: idx as
def collect : List AV → PEnv → Option (List PV)
  | [], _ => some []
  | .val p :: as, ρ => match collect as ρ with
    | some ps => some (p :: ps)
    | none => none
  | .own i :: as, ρ => match ρ[i]? with
    | some (.own p) => match collect as ρ with
      | some ps => some (p :: ps)
      | none => none
    | _ => none
def putO : List AV → List PV → PEnv → Option PEnv
  | [], [], ρ => some ρ
  | .val _ :: as, os, ρ => putO as os ρ
  | .own i :: as, o :: os, ρ => putO as os (ρ.set i (.own o))
  | _, _, _ => none
theorem mem_idx : ∀ {as : List AV} {i : Nat}, i ∈ idx as ↔ ∃ m : Nat, as[m]? = some (.own i)
  | [], i => by simp [idx]
  | .val p :: as, i => by
    rw [show idx (.val p :: as) = idx as from rfl, mem_idx]
    constructor
    · rintro ⟨m, h⟩; exact ⟨m + 1, by simpa using h⟩
    · rintro ⟨m, h⟩
      cases m with
      | zero => simp at h
      | succ m => exact ⟨m, by simpa using h⟩
  | .own j :: as, i => by
    rw [show idx (.own j :: as) = j :: idx as from rfl, List.mem_cons, mem_idx]
    constructor
    · rintro (rfl | ⟨m, h⟩)
      · exact ⟨0, rfl⟩
      · exact ⟨m + 1, by simpa using h⟩
    · rintro ⟨m, h⟩
      cases m with
      | zero => simp at h; exact .inl h.symm
      | succ m => exact .inr ⟨m, by simpa using h⟩
theorem collect_spec : ∀ {as : List AV} {ρ : PEnv} {ps : List PV}, collect as ρ = some ps → ps.length = as.length ∧
    ∀ (m : Nat), (∀ p, as[m]? = some (AV.val p) → ps[m]? = some p) ∧ ∀ i, as[m]? = some (AV.own i) → ∃ q, ps[m]? = some q ∧ ρ[i]? = some (Slot.own q)
  | [], ρ, ps, h => by simp only [collect] at h; cases h; exact ⟨rfl, fun m => ⟨fun p z => by simp at z, fun i z => by simp at z⟩⟩
  | .val p :: as, ρ, ps, h => by
    simp only [collect] at h
    cases hc : collect as ρ with
    | none => rw [hc] at h; cases h
    | some qs =>
      rw [hc] at h
      cases h
      obtain ⟨h1, h2⟩ := collect_spec hc
      refine ⟨by simp [h1], fun m => ?_⟩
      cases m with
      | zero => exact ⟨fun p z => by simp at z; subst z; rfl, fun i z => by simp at z⟩
      | succ m => simpa using h2 m
  | .own j :: as, ρ, ps, h => by
    simp only [collect] at h
    cases hj : ρ[j]? with
    | none => rw [hj] at h; cases h
    | some s =>
      cases s with
      | own p =>
        rw [hj] at h
        simp only at h
        cases hc : collect as ρ with
        | none => rw [hc] at h; cases h
        | some qs =>
          rw [hc] at h
          cases h
          obtain ⟨h1, h2⟩ := collect_spec hc
          refine ⟨by simp [h1], fun m => ?_⟩
          cases m with
          | zero => exact ⟨fun p z => by simp at z, fun i z => by simp at z; subst z; exact ⟨p, rfl, hj⟩⟩
          | succ m => simpa using h2 m
      | _ => rw [hj] at h; cases h
theorem putO_spec : ∀ {as : List AV} {ρ' : PEnv} {os : List PV} {ρ ρn : PEnv}, ownsOf (as.map AV.isOwn) ρ' = some os → putO as os ρ = some ρn → (idx as).Nodup → (∀ i ∈ idx as, i < ρ.length) →
    ρn.length = ρ.length ∧ (∀ j : Nat, j ∉ idx as → ρn[j]? = ρ[j]?) ∧ ∀ (m i : Nat), as[m]? = some (AV.own i) → ∃ q, ρ'[m]? = some (Slot.own q) ∧ ρn[i]? = some (Slot.own q)
  | [], ρ', os, ρ, ρn, h1, h2, _, _ => by
    simp only [List.map_nil, ownsOf] at h1
    cases h1
    simp only [putO] at h2
    cases h2
    exact ⟨rfl, fun _ _ => rfl, fun m i z => by simp at z⟩
  | .val p :: as, ρ', os, ρ, ρn, h1, h2, h3, h4 => by
    cases ρ' with
    | nil => simp [ownsOf, AV.isOwn] at h1
    | cons s ρ' =>
      have h1' : ownsOf (as.map AV.isOwn) ρ' = some os := by simpa [ownsOf, AV.isOwn] using h1
      have h2' : putO as os ρ = some ρn := by simpa [putO] using h2
      obtain ⟨a, b, c⟩ := putO_spec h1' h2' h3 h4
      refine ⟨a, b, fun m i hm => ?_⟩
      cases m with
      | zero => simp at hm
      | succ m => simpa using c m i (by simpa using hm)
  | .own j :: as, ρ', os, ρ, ρn, h1, h2, h3, h4 => by
    cases ρ' with
    | nil => simp [ownsOf, AV.isOwn] at h1
    | cons s ρ' =>
      cases s with
      | own p =>
        simp only [List.map_cons, AV.isOwn, ownsOf] at h1
        cases ho : ownsOf (as.map AV.isOwn) ρ' with
        | none => rw [ho] at h1; cases h1
        | some os' =>
          rw [ho] at h1
          cases h1
          have h2' : putO as os' (ρ.set j (.own p)) = some ρn := by simpa [putO] using h2
          have h3' : j ∉ idx as ∧ (idx as).Nodup := List.nodup_cons.mp h3
          obtain ⟨a, b, c⟩ := putO_spec ho h2' h3'.2 (fun i hi => by rw [List.length_set]; exact h4 i (List.mem_cons_of_mem _ hi))
          refine ⟨by rw [a, List.length_set], fun k hk => ?_, fun m i hm => ?_⟩
          · have k1 : k ≠ j := fun z => hk (by rw [z]; exact List.mem_cons_self)
            have k2 : k ∉ idx as := fun z => hk (List.mem_cons_of_mem _ z)
            rw [b k k2, List.getElem?_set_ne (Ne.symm k1)]
          · cases m with
            | zero =>
              simp at hm
              subst hm
              refine ⟨p, rfl, ?_⟩
              rw [b j h3'.1]
              exact List.getElem?_set_self (h4 j List.mem_cons_self)
            | succ m => simpa using c m i (by simpa using hm)
      | _ => simp [ownsOf, AV.isOwn] at h1
inductive RelA (Γ : Gam) (σ : L2.St) (G : Hp) : V → AV → Prop
  | val {v : V} {p : PV} : Rep Γ.K Γ.mg G v p → RelA Γ σ G v (.val p)
  | own {a : Addr} {i : Nat} : σ[i]? = some (some (V.ref a)) → RelA Γ σ G (.ref a) (.own i)
abbrev RelAs (Γ : Gam) (σ : L2.St) (G : Hp) : List V → List AV → Prop := Paired (RelA Γ σ G)
theorem RelAs.get {Γ : Gam} {σ : L2.St} {G : Hp} : ∀ {vs : List V} {as : List AV} {m : Nat} {a : AV}, RelAs Γ σ G vs as → as[m]? = some a → ∃ v, vs[m]? = some v ∧ RelA Γ σ G v a
  | _, _, _, _, .nil, h => by simp at h
  | _, _, 0, _, .cons r _, h => by simp at h; subst h; exact ⟨_, rfl, r⟩
  | _, _, m + 1, a, .cons _ t, h => by
    obtain ⟨v, h1, h2⟩ := RelAs.get (m := m) (a := a) t (by simpa using h)
    exact ⟨v, by simpa using h1, h2⟩
theorem nodup_at {l : List AV} (h : (idx l).Nodup) : ∀ {m n : Nat} {i : Nat}, l[m]? = some (AV.own i) → l[n]? = some (AV.own i) → m = n := by
  induction l with
  | nil => intro m n i z; simp at z
  | cons a as ih =>
    intro m n i h1 h2
    cases a with
    | val p =>
      cases m with
      | zero => simp at h1
      | succ m =>
        cases n with
        | zero => simp at h2
        | succ n => exact congrArg (· + 1) (ih h (by simpa using h1) (by simpa using h2))
    | own j =>
      have h' : j ∉ idx as ∧ (idx as).Nodup := List.nodup_cons.mp h
      cases m with
      | zero =>
        simp at h1
        subst h1
        cases n with
        | zero => rfl
        | succ n => exact absurd (mem_idx.mpr ⟨n, by simpa using h2⟩) h'.1
      | succ m =>
        cases n with
        | zero =>
          simp at h2
          subst h2
          exact absurd (mem_idx.mpr ⟨m, by simpa using h1⟩) h'.1
        | succ n => exact congrArg (· + 1) (ih h'.2 (by simpa using h1) (by simpa using h2))
open Classical in
/-- what the callee must leave as it is -/
noncomputable def frameOf (σ : L2.St) (as : List AV) (H : Hp) : Hp := fun a => if ∃ i ∈ idx as, σ[i]? = some (some (V.ref a)) then none else H a
section
variable {Γ : Gam} {G H : Hp} {σ : L2.St} {ρ : PEnv} {as : List AV} {vs : List V} {ps : List PV}
theorem frame_in {a : Addr} (h : ∃ i ∈ idx as, σ[i]? = some (some (V.ref a))) : frameOf σ as H a = none := if_pos h
theorem frame_out {a : Addr} (h : ¬ ∃ i ∈ idx as, σ[i]? = some (some (V.ref a))) : frameOf σ as H a = H a := if_neg h
theorem frame_sub : Ex (frameOf σ as H) H := fun a o e => by
  by_cases h : ∃ i ∈ idx as, σ[i]? = some (some (V.ref a))
  · rw [frame_in h] at e; cases e
  · rw [frame_out h] at e; exact e
theorem call_in (ok : EnvOk Γ G σ H ρ) (r : RelAs Γ σ G vs as) (hc : collect as ρ = some ps) (nd : (idx as).Nodup) (E : XK) :
    EnvOk (gamOf Γ.K Γ.mg (frameOf σ as H) G (as.map AV.isOwn) vs E) G (vs.map some) H (slotsOf (as.map AV.isOwn) ps) := by
  obtain ⟨hl, hs⟩ := collect_spec hc
  have hvl : vs.length = as.length := Paired.length r
  have slot : ∀ (m : Nat) (s : Slot), (slotsOf (as.map AV.isOwn) ps)[m]? = some s → ∃ a p, as[m]? = some a ∧ ps[m]? = some p ∧ s = slotOf a.isOwn p := fun m s h => by
    obtain ⟨b, p, h1, h2, h3⟩ := slotsOf_get h
    rw [List.getElem?_map] at h1
    cases ha : as[m]? with
    | none => rw [ha] at h1; cases h1
    | some a => rw [ha] at h1; cases h1; exact ⟨a, p, rfl, h2, h3⟩
  refine ⟨?_, frame_sub, ok.gH, Ex.refl G, fun _ _ => rfl, fun i a hi => ?_, fun m p hm => ?_, fun m p hm => ?_, fun m n p q a hmn hm hn e1 e2 => ?_⟩
  · rw [List.length_map, slotsOf_len (by simp [hl]), List.length_map, hvl]
  · have hi' : parOf (as.map AV.isOwn) vs i = some a := hi
    unfold parOf at hi'
    split at hi'
    · rename_i b _ hv
      cases hi'
      rw [List.getElem?_map, hv]; rfl
    · cases hi'
  · obtain ⟨a, q, h1, h2, h3⟩ := slot m _ hm
    cases a with
    | own i => cases h3
    | val p' =>
      have e := (hs m).1 p' h1
      rw [h2] at e
      cases e
      cases h3
      obtain ⟨v, hv, rv⟩ := r.get h1
      cases rv with
      | val rr => exact ⟨v, by rw [List.getElem?_map, hv]; rfl, rr⟩
  · obtain ⟨a, q, h1, h2, h3⟩ := slot m _ hm
    cases a with
    | val p' => cases h3
    | own i =>
      obtain ⟨q', e1, e2⟩ := (hs m).2 i h1
      rw [h2] at e1
      cases e1
      cases h3
      obtain ⟨v, hv, rv⟩ := r.get h1
      cases rv with
      | own hσ =>
        obtain ⟨c, o, g1, g2, g3, g4, g5⟩ := ok.own i _ e2
        rw [hσ] at g1
        cases g1
        exact ⟨_, o, by rw [List.getElem?_map, hv]; rfl, frame_in ⟨i, mem_idx.mpr ⟨m, h1⟩, hσ⟩, g3, g4, g5⟩
  · obtain ⟨a1, q1, h1, h2, h3⟩ := slot m _ hm
    obtain ⟨a2, q2, k1, k2, k3⟩ := slot n _ hn
    cases a1 with
    | val p' => cases h3
    | own i =>
      cases a2 with
      | val p' => cases k3
      | own j =>
        obtain ⟨q1', x1, x2⟩ := (hs m).2 i h1
        obtain ⟨q2', y1, y2⟩ := (hs n).2 j k1
        obtain ⟨v, hv, rv⟩ := r.get h1
        obtain ⟨u, hu, ru⟩ := r.get k1
        rw [List.getElem?_map, hv] at e1
        rw [List.getElem?_map, hu] at e2
        cases rv with
        | own hσ =>
          cases ru with
          | own hσ2 =>
            cases e1
            cases e2
            have hij : i ≠ j := fun z => hmn (by subst z; exact nodup_at nd h1 k1)
            exact ok.dis i j _ _ _ hij x2 y2 hσ hσ2
theorem call_out (ok : EnvOk Γ G σ H ρ) (r : RelAs Γ σ G vs as) (hc : collect as ρ = some ps) (nd : (idx as).Nodup) {E : XK} {G' H' : Hp} {σ' : L2.St} {ρ' ρn : PEnv} {os : List PV} (e : Ex G G')
    (ok' : EnvOk (gamOf Γ.K Γ.mg (frameOf σ as H) G (as.map AV.isOwn) vs E) G' σ' H' ρ') (ho : ownsOf (as.map AV.isOwn) ρ' = some os) (hp : putO as os ρ = some ρn) : EnvOk Γ G' σ H' ρn := by
  obtain ⟨hl, hs⟩ := collect_spec hc
  have own_of : ∀ i ∈ idx as, ∃ q, ρ[i]? = some (Slot.own q) := fun i hi => by
    obtain ⟨m, hm⟩ := mem_idx.mp hi
    obtain ⟨q, _, h2⟩ := (hs m).2 i hm
    exact ⟨q, h2⟩
  obtain ⟨b1, b2, b3⟩ := putO_spec ho hp nd (fun i hi => by
    obtain ⟨q, h⟩ := own_of i hi
    exact (List.getElem?_eq_some_iff.mp h).1)
  have outC : ∀ a, Γ.C a ≠ none → ¬ ∃ i ∈ idx as, σ[i]? = some (some (V.ref a)) := fun a ha ⟨i, hi, hσ⟩ => by
    obtain ⟨q, h⟩ := own_of i hi
    obtain ⟨c, o, g1, g2, _⟩ := ok.own i q h
    rw [hσ] at g1
    cases g1
    exact ha g2
  have was : ∀ (i : Nat) (q : PV), ρn[i]? = some (Slot.own q) → ∃ q', ρ[i]? = some (Slot.own q') := fun i q hi => by
    by_cases z : i ∈ idx as
    · exact own_of i z
    · rw [b2 i z] at hi; exact ⟨q, hi⟩
  refine ⟨by rw [b1]; exact ok.len, fun a o ha => ?_, ok'.gH, ok.g0.trans e, fun a ha => ?_, ok.par, fun i p hi => ?_, fun i p hi => ?_, fun i j p q a hij hi hj e1 e2 => ?_⟩
  · have h1 := ok.cH a o ha
    refine ok'.cH a o ?_
    show frameOf σ as H a = some o
    rw [frame_out (outC a (by rw [ha]; intro z; cases z))]
    exact h1
  · have hn : frameOf σ as H a ≠ none := by
      rw [frame_out (outC a ha)]
      intro z
      exact ha (ok.cH.none z)
    exact (ok'.gC a hn).trans (ok.gC a ha)
  · by_cases z : i ∈ idx as
    · obtain ⟨m, hm⟩ := mem_idx.mp z
      obtain ⟨q, _, h2⟩ := b3 m i hm
      rw [hi] at h2
      cases h2
    · rw [b2 i z] at hi
      obtain ⟨x, h1, h2⟩ := ok.val i p hi
      exact ⟨x, h1, h2.mono e⟩
  · by_cases z : i ∈ idx as
    · obtain ⟨m, hm⟩ := mem_idx.mp z
      obtain ⟨q, h1, h2⟩ := b3 m i hm
      rw [hi] at h2
      cases h2
      obtain ⟨q0, h0⟩ := own_of i z
      obtain ⟨a, o, g1, g2, g3, g4, g5⟩ := ok.own i q0 h0
      obtain ⟨a', o', k1, k2, k3, k4, k5⟩ := ok'.own m _ h1
      have hpar : (gamOf Γ.K Γ.mg (frameOf σ as H) G (as.map AV.isOwn) vs E).P m = some a := by
        obtain ⟨v, hv, rv⟩ := r.get hm
        cases rv with
        | own hσ =>
          rw [hσ] at g1
          cases g1
          show parOf (as.map AV.isOwn) vs m = some _
          unfold parOf
          rw [List.getElem?_map, hm, hv]
          rfl
      have k0 := ok'.par m a hpar
      rw [k0] at k1
      cases k1
      exact ⟨a, o', g1, g2, k3, k4, k5⟩
    · rw [b2 i z] at hi
      obtain ⟨a, o, g1, g2, g3, g4, g5⟩ := ok.own i p hi
      have hno : ¬ ∃ j ∈ idx as, σ[j]? = some (some (V.ref a)) := fun ⟨j, hj, hσ⟩ => by
        obtain ⟨q, h⟩ := own_of j hj
        exact ok.dis i j p q a (fun zz => z (by rw [zz]; exact hj)) hi h g1 hσ
      have hf : frameOf σ as H a = some o := by rw [frame_out hno]; exact g4
      refine ⟨a, o, g1, g2, ?_, ok'.cH a o hf, g5.mono e⟩
      refine (ok'.gC a ?_).trans g3
      show frameOf σ as H a ≠ none
      rw [hf]; intro zz; cases zz
  · obtain ⟨p', h1⟩ := was i p hi
    obtain ⟨q', h2⟩ := was j q hj
    exact ok.dis i j p' q' a hij h1 h2 e1 e2
end
def callE (ms : List Bool) (F : FF) (as : List AV) (ρ : PEnv) : ERes PV := match collect as ρ with
  | none => .bad
  | some ps => if (decide (as.map AV.isOwn = ms) && decide ((idx as).Nodup)) = true then (match F ps with
    | .ret p os => match putO as os ρ with
      | some ρ' => .ok p ρ'
      | none => .bad
    | .exc c fs os => match putO as os ρ with
      | some ρ' => .exc c fs ρ'
      | none => .bad
    | _ => .bad) else .bad
def callO (ms : List Bool) (F : FF) (as : List AV) (ρ : PEnv) : ERes PV := match collect as ρ with
  | none => .bad
  | some ps => if (decide (as.map AV.isOwn = ms) && decide ((idx as).Nodup)) = true then (match F ps with
    | .reo p os => match putO as os ρ with
      | some ρ' => .ok p ρ'
      | none => .bad
    | .exc c fs os => match putO as os ρ with
      | some ρ' => .exc c fs ρ'
      | none => .bad
    | _ => .bad) else .bad
abbrev AF2 := PEnv → ERes (List AV)
abbrev DA2 (Γ : Gam) (f : AF2) : TA := fun σ => DX Γ (RelAs Γ σ) f σ
def bNil : AF2 := fun ρ => .ok [] ρ
def bVal (fa : EF) (fr : AF2) : AF2 := fun ρ => (fa ρ).bind fun p ρ1 => (fr ρ1).bind fun as ρ2 => .ok (AV.val p :: as) ρ2
def bOwn (i : Nat) (fr : AF2) : AF2 := fun ρ => match ρ[i]? with
  | some (.own _) => (fr ρ).bind fun as ρ2 => .ok (AV.own i :: as) ρ2
  | _ => .bad
theorem RelAs.mono {Γ : Gam} {σ : L2.St} {G G' : Hp} (e : Ex G G') : ∀ {vs : List V} {as : List AV}, RelAs Γ σ G vs as → RelAs Γ σ G' vs as
  | _, _, .nil => .nil
  | _, _, .cons (.val r) t => .cons (.val (r.mono e)) (RelAs.mono e t)
  | _, _, .cons (.own r) t => .cons (.own r) (RelAs.mono e t)
section
variable {X : Cx} {Γ : Gam} {pos : Pos}
theorem b_nil : PA X [] (DA2 Γ bNil) := PA.imp pa_nil fun σ H Q ⟨G, ρ, ok, h⟩ => h [] G H (Ex.refl G) ok .nil
theorem b_val {e : Expr} {es : List Expr} {fa : EF} {fr : AF2} (ha : PE X e (DE Γ fa)) (hr : PA X es (DA2 Γ fr)) (hs : starEach (e :: es) X.env = (false, eval e X.env) :: starEach es X.env := by rfl) : PA X (e :: es) (DA2 Γ (bVal fa fr)) :=
  PA.imp (pa_cons ha hr hs) fun σ H Q ⟨G, ρ, ok, h⟩ => by
    refine DX.bindI ok h fun x G1 H1 p ρ1 e1 ok1 r1 h1 => ?_
    refine DX.bindI ok1 h1 fun xs G2 H2 ps ρ2 e2 ok2 r2 h2 => ?_
    exact h2 (x :: xs) G2 H2 (Ex.refl G2) ok2 (.cons (.val (r1.mono e2)) r2)
theorem b_own {e : Expr} {i : Nat} {es : List Expr} {fr : AF2} (ha : PE X e (tVar i)) (hr : PA X es (DA2 Γ fr)) (hs : starEach (e :: es) X.env = (false, eval e X.env) :: starEach es X.env := by rfl) : PA X (e :: es) (DA2 Γ (bOwn i fr)) :=
  PA.imp (pa_cons ha hr hs) fun σ H Q ⟨G, ρ, ok, h⟩ => by
    cases hi : ρ[i]? with
    | none => simp only [bOwn, hi] at h; exact h.elim
    | some s =>
      cases s with
      | own p =>
        simp only [bOwn, hi] at h
        obtain ⟨a, o, g1, _⟩ := ok.own i p hi
        refine ⟨_, g1, ?_⟩
        refine DX.bindI ok h fun xs G2 H2 ps ρ2 e2 ok2 r2 h2 => ?_
        exact h2 _ G2 H2 (Ex.refl G2) ok2 (.cons (.own g1) r2)
      | _ => simp only [bOwn, hi] at h; exact h.elim
def eCallF (ms : List Bool) (F : FF) (fa : AF2) : EF := fun ρ => (fa ρ).bind fun as ρ1 => callE ms F as ρ1
def eCallO (ms : List Bool) (F : FF) (fa : AF2) : EF := fun ρ => (fa ρ).bind fun as ρ1 => callO ms F as ρ1
theorem callE_sp {F : FF} {ms : List Bool} {G H : Hp} {σ : L2.St} {ρ : PEnv} {as : List AV} {vs : List V} {Q : VK} (ok : EnvOk Γ G σ H ρ) (r : RelAs Γ σ G vs as) (h : Post Γ (Rep Γ.K Γ.mg) (callE ms F as ρ) G σ Q) :
    spF Γ.K Γ.mg ms F vs H Q (WE Γ.W σ) := by
  unfold callE at h
  cases hc : collect as ρ with
  | none => rw [hc] at h; exact h.elim
  | some ps =>
    rw [hc] at h
    simp only at h
    split at h
    · rename_i c
      obtain ⟨hms', nd'⟩ := Bool.and_eq_true_iff.mp c
      have hms := of_decide_eq_true hms'
      have nd := of_decide_eq_true nd'
      subst hms
      refine ⟨frameOf σ as H, G, ps, by rw [List.length_map]; exact Paired.length r, by rw [List.length_map]; exact (collect_spec hc).1, call_in ok r hc nd _, ?_⟩
      cases hF : F ps with
      | ret p os =>
        rw [hF] at h
        simp only at h
        intro v σ' G' H' ρ' e ok' ho rv
        cases hp : putO as os ρ with
        | none => rw [hp] at h; exact h.elim
        | some ρn => rw [hp] at h; exact h v G' H' e (call_out ok r hc nd e ok' ho hp) rv
      | exc c fs os =>
        rw [hF] at h
        simp only at h
        intro C d ws σ' G' H' ρ' hm e ok' ho hd rf
        cases hp : putO as os ρ with
        | none => rw [hp] at h; exact h.elim
        | some ρn => rw [hp] at h; exact h C d ws G' H' hm e (call_out ok r hc nd e ok' ho hp) hd rf
      | reo p os => rw [hF] at h; exact h.elim
      | bad => rw [hF] at h; exact h.elim
    · exact h.elim
theorem callO_sp {F : FF} {ms : List Bool} {G H : Hp} {σ : L2.St} {ρ : PEnv} {as : List AV} {vs : List V} {Q : VK} (ok : EnvOk Γ G σ H ρ) (r : RelAs Γ σ G vs as) (h : PostF Γ (callO ms F as ρ) G σ Q) :
    spF Γ.K Γ.mg ms F vs H Q (WE Γ.W σ) := by
  unfold callO at h
  cases hc : collect as ρ with
  | none => rw [hc] at h; exact h.elim
  | some ps =>
    rw [hc] at h
    simp only at h
    split at h
    · rename_i c
      obtain ⟨hms', nd'⟩ := Bool.and_eq_true_iff.mp c
      have hms := of_decide_eq_true hms'
      have nd := of_decide_eq_true nd'
      subst hms
      refine ⟨frameOf σ as H, G, ps, by rw [List.length_map]; exact Paired.length r, by rw [List.length_map]; exact (collect_spec hc).1, call_in ok r hc nd _, ?_⟩
      cases hF : F ps with
      | reo p os =>
        rw [hF] at h
        simp only at h
        intro a o σ' G' H' ρ' e ok' ho c1 c2 c3 c4 c5
        cases hp : putO as os ρ with
        | none => rw [hp] at h; exact h.elim
        | some ρn =>
          rw [hp] at h
          have okn := call_out ok r hc nd e ok' ho hp
          have c1' : frameOf σ as H a = none := c1
          -- the new thing is none of the caller's
          have hCa : Γ.C a = none := by
            cases q : Γ.C a with
            | none => rfl
            | some u =>
              have h1 := ok.cH a u q
              by_cases z : ∃ i ∈ idx as, σ[i]? = some (some (V.ref a))
              · obtain ⟨i, hi, hσ⟩ := z
                obtain ⟨m, hm⟩ := mem_idx.mp hi
                obtain ⟨q', _, hq⟩ := ((collect_spec hc).2 m).2 i hm
                obtain ⟨c', o', g1, g2, _⟩ := ok.own i q' hq
                rw [hσ] at g1
                cases g1
                rw [g2] at q; cases q
              · rw [frame_out z, h1] at c1'
                cases c1'
          refine h a o G' H' e okn hCa c2 c3 c4 fun i q hi hσ => ?_
          -- an owned slot of the caller's holds another thing
          obtain ⟨b1, b2, b3⟩ := putO_spec ho hp nd (fun i hi => by
            obtain ⟨m, hm⟩ := mem_idx.mp hi
            obtain ⟨q', _, hq⟩ := ((collect_spec hc).2 m).2 i hm
            exact (List.getElem?_eq_some_iff.mp hq).1)
          by_cases z : i ∈ idx as
          · obtain ⟨m, hm⟩ := mem_idx.mp z
            obtain ⟨q', h1, h2⟩ := b3 m i hm
            obtain ⟨v, hv, rv⟩ := r.get hm
            cases rv with
            | own hσ' =>
              rename_i b
              rw [hσ] at hσ'
              cases hσ'
              have hpar : (gamOf Γ.K Γ.mg (frameOf σ as H) G (as.map AV.isOwn) vs (WE Γ.W σ)).P m = some a := by
                show parOf (as.map AV.isOwn) vs m = some a
                unfold parOf
                rw [List.getElem?_map, hm, hv]
                rfl
              exact c5 m q' h1 (ok'.par m a hpar)
          · rw [b2 i z] at hi
            obtain ⟨b, u, g1, g2, g3, g4, g5⟩ := ok.own i q hi
            rw [hσ] at g1
            cases g1
            by_cases zz : ∃ j ∈ idx as, σ[j]? = some (some (V.ref a))
            · obtain ⟨j, hj, hσj⟩ := zz
              obtain ⟨m, hm⟩ := mem_idx.mp hj
              obtain ⟨q', _, hq⟩ := ((collect_spec hc).2 m).2 j hm
              exact ok.dis i j q q' a (fun w => z (by rw [w]; exact hj)) hi hq hσ hσj
            · rw [frame_out zz, g4] at c1'
              cases c1'
      | exc c fs os =>
        rw [hF] at h
        simp only at h
        intro C d ws σ' G' H' ρ' hm e ok' ho hd rf
        cases hp : putO as os ρ with
        | none => rw [hp] at h; exact h.elim
        | some ρn => rw [hp] at h; exact h C d ws G' H' hm e (call_out ok r hc nd e ok' ho hp) hd rf
      | ret p os => rw [hF] at h; exact h.elim
      | bad => rw [hF] at h; exact h.elim
    · exact h.elim
/-- a def that is called, with room, by its name -/
structure Def (P : Program) (w : World) (K : PySem.W.Frag) (mg : Str → Option Value) (base : Heap) (k : Nat) (x : Str) (ps : List Str) (ms : List Bool) (F : FF) where
  f : Addr
  fd : FuncData
  ok : FnOk P w K mg base (L2.CX P w) k f fd ps (spF K mg ms F)
  gm : mg x = some (.ref f)
  kp : PySem.W.keepIn K (.ref f) = true
  bi : Binds K fd ps []
theorem v_call {k : Nat} {x : Str} {nps : List Str} {ms : List Bool} {F : FF} {p : Pos} {e : Expr} {es : List Expr} {fa : AF2} (hx : OkX X Γ) (tk : Takes X Γ.W) (d : Def X.prog X.w X.K X.mg X.base k x nps ms F) (hr : Room k X.A) (hg : Gl X x) (ha : PA X (e :: es) (DA2 Γ fa))
    (hdb : (x == ("__debug__" : Str)) = false := by decide) (he : starEach (e :: es) X.env = (false, eval e X.env) :: starEach es X.env := by rfl) (hpl : (backTo pos (starEach es X.env)).any (·.1) = false := by rfl) :
    PE X (.Call (.Name x p) (e :: es) [] pos) (DE Γ (eCallF ms F fa)) := by
  refine PE.imp (pe_callS d.ok hr hg d.gm d.kp d.bi (E := WE Γ.W) (fun σ => passAt tk σ) ha hdb he hpl) fun σ H Q ⟨G, ρ, ok, q⟩ => ?_
  refine DX.bindI (rel1 := RelAs Γ σ) ok q fun vs G1 H1 as ρ1 e1 ok1 r1 h1 => ?_
  rw [hx.k, hx.m]
  exact callE_sp ok1 r1 h1
theorem DX.bindF2 {α1 β1 : Type} {rel1 : Hp → β1 → α1 → Prop} {f : PEnv → ERes α1} {k : α1 → PEnv → ERes PV} {G H : Hp} {σ : L2.St} {ρ : PEnv} {Q : VK} {Q1 : β1 → Hp → Prop}
    (ok : EnvOk Γ G σ H ρ) (h : PostF Γ ((f ρ).bind k) G σ Q)
    (c : ∀ v G1 H1 p ρ1, Ex G G1 → EnvOk Γ G1 σ H1 ρ1 → rel1 G1 v p → PostF Γ (k p ρ1) G1 σ Q → Q1 v H1) : DX Γ rel1 f σ H Q1 := DX.bindF ok h c
theorem f_call {k : Nat} {x : Str} {nps : List Str} {ms : List Bool} {F : FF} {p : Pos} {e : Expr} {es : List Expr} {fa : AF2} (hx : OkX X Γ) (tk : Takes X Γ.W) (d : Def X.prog X.w X.K X.mg X.base k x nps ms F) (hr : Room k X.A) (hg : Gl X x) (ha : PA X (e :: es) (DA2 Γ fa))
    (hdb : (x == ("__debug__" : Str)) = false := by decide) (he : starEach (e :: es) X.env = (false, eval e X.env) :: starEach es X.env := by rfl) (hpl : (backTo pos (starEach es X.env)).any (·.1) = false := by rfl) :
    PE X (.Call (.Name x p) (e :: es) [] pos) (DF Γ (eCallO ms F fa)) := by
  refine PE.imp (pe_callS d.ok hr hg d.gm d.kp d.bi (E := WE Γ.W) (fun σ => passAt tk σ) ha hdb he hpl) fun σ H Q ⟨G, ρ, ok, q⟩ => ?_
  refine DX.bindF (rel1 := RelAs Γ σ) ok q fun vs G1 H1 as ρ1 e1 ok1 r1 h1 => ?_
  rw [hx.k, hx.m]
  exact callO_sp ok1 r1 h1
end
end PL
end

section
set_option Elab.async false
set_option linter.all false
set_option maxRecDepth 100000
set_option maxHeartbeats 4000000
set_option autoImplicit false
namespace PL
open PySem PySem.Spec PyProof.Rows L2

/-! ### errors -/
/-- an error's __init__ that keeps its arguments under these names -/
def spI (C : Addr) (ns : List Str) : Sp := fun vs H Q _ => ∃ (a : Addr) (ws : List V), vs = .ref a :: ws ∧ ws.length = ns.length ∧ H a = some (exo a C none) ∧
  ∀ (dx : Addr) (H' : Hp), H dx = none → dx ≠ a → (∀ b, b ≠ a → b ≠ dx → H' b = H b) → H' a = some (exo a C (some dx)) → H' dx = some (exd dx ((ns.zip ws).reverse)) → Q .non H'
theorem init1 {K : PySem.W.Frag} {C : Addr} {f x s : Str} {vs : List V} {H : Hp} {Q : VK} {E : XK} (T : OexC K C) (hf : PySem.W.findIn K (.ref C) f = some none) (h : spI C [f] vs H Q E) :
    tOst K f (tVar 0) (tVar 1) { nx := fun _ H' => Q .non H', rt := Q } (start [s, x] vs) H := by
  obtain ⟨a, ws, rfl, hl, ha, k⟩ := h
  match ws, hl with
  | [y], _ =>
    refine ⟨y, rfl, .ref a, rfl, a, C, rfl, T, hf, .inl ⟨ha, fun dx hd hne => ?_⟩⟩
    exact k dx _ hd hne (fun b h1 h2 => by rw [upd_ne h1, upd_ne h2]) upd_same (by rw [upd_ne hne]; exact upd_same)
theorem init2 {K : PySem.W.Frag} {C : Addr} {f g x y s : Str} {vs : List V} {H : Hp} {Q : VK} {E : XK} (T : OexC K C) (hf : PySem.W.findIn K (.ref C) f = some none) (hg : PySem.W.findIn K (.ref C) g = some none) (h : spI C [f, g] vs H Q E) :
    tSeq (tOst K f (tVar 0) (tVar 1)) (tOst K g (tVar 0) (tVar 2)) { nx := fun _ H' => Q .non H', rt := Q } (start [s, x, y] vs) H := by
  obtain ⟨a, ws, rfl, hl, ha, k⟩ := h
  match ws, hl with
  | [u, v], _ =>
    refine ⟨u, rfl, .ref a, rfl, a, C, rfl, T, hf, .inl ⟨ha, fun dx hd hne => ?_⟩⟩
    refine ⟨v, rfl, .ref a, rfl, a, C, rfl, T, hg, .inr ⟨dx, [(f, u)], upd_same, by rw [upd_ne hne]; exact upd_same, by simp, ?_⟩⟩
    exact k dx _ hd hne (fun b h1 h2 => by rw [upd_ne h2, upd_ne h1, upd_ne h2]) (by rw [upd_ne (Ne.symm hne)]; exact upd_same) upd_same
/-- a class of errors with such an __init__ -/
structure ExcCl (P : Program) (w : World) (K : PySem.W.Frag) (mg : Str → Option Value) (base : Heap) (c : Str) (ns : List Str) where
  C : Addr
  fI : Addr
  fd : FuncData
  nps : List Str
  T : OexC K C
  iC : PySem.W.findIn K (.ref C) "__init__" = some (some (.ref fI))
  tI : PySem.W.typeIn K (.ref fI) = some (.type "function")
  ok : FnOk P w K mg base CX0 1 fI fd nps (spI C ns)
  bi : Binds K fd nps []
  gm : mg c = some (.ref C)
  xf : XfC K C
  no : ∀ f ∈ ns, PySem.W.findIn K (.ref C) f = some none
theorem RepF.snoc {K : PySem.W.Frag} {mg : Str → Option Value} {G : Hp} {f : Str} {v : V} {p : PV} (r : Rep K mg G v p) : ∀ {vs : List (Str × V)} {ps : List (Str × PV)}, RepF K mg G vs ps → RepF K mg G (vs ++ [(f, v)]) (ps ++ [(f, p)])
  | _, _, .nil => .cons r .nil
  | _, _, .cons h t => .cons h (RepF.snoc r t)
theorem RepF.zipR {K : PySem.W.Frag} {mg : Str → Option Value} {G : Hp} : ∀ {ns : List Str} {vs : List V} {ps : List PV}, Reps K mg G vs ps → RepF K mg G ((ns.zip vs).reverse) ((ns.zip ps).reverse)
  | [], _, _, _ => by simp; exact .nil
  | _ :: _, _, _, .nil => by simp; exact .nil
  | n :: ns, _, _, .cons h t => by
    simp only [List.zip_cons_cons, List.reverse_cons]
    exact RepF.snoc h (RepF.zipR t)
section
variable {X : Cx} {Γ : Gam} {pos : Pos}
def sRaise (c : Str) (ns : List Str) (fa : AF) : SF := fun ρ => (fa ρ).bindS fun ps ρ1 => if decide (ps.length = ns.length ∧ ns.length ≤ 100) = true then .exc c ((ns.zip ps).reverse) ρ1 else .bad
theorem s_raise {c : Str} {ns : List Str} {fa : AF} {p pos' : Pos} {e : Expr} {es : List Expr} (hx : OkX X Γ) (hc : X.calm = true) (tk : Takes X Γ.W) (cl : ExcCl X.prog X.w X.K X.mg X.base c ns) (hr : Room 2 X.A) (hg : Gl X c) (ha : PA X (e :: es) (DA Γ fa))
    (hdb : (c == ("__debug__" : Str)) = false := by decide) (he : starEach (e :: es) X.env = (false, eval e X.env) :: starEach es X.env := by rfl) (hpl : (backTo pos (starEach es X.env)).any (·.1) = false := by rfl) :
    PS X (.Raise (some (.Call (.Name c p) (e :: es) [] pos)) none pos') (DS Γ (sRaise c ns fa)) := by
  have hmk := pmk_oex (pos := pos) (p := p) cl.T cl.iC cl.tI cl.ok hr cl.bi .nil (fun _ _ _ _ _ _ _ h => h.elim) hg cl.gm ha hdb he hpl
  refine PS.imp (ps_raise hc tk hmk) fun D σ H ⟨G, ρ, ok, q⟩ => ?_
  refine DX.bindS ok q fun vs G1 H1 ps ρ1 e1 ok1 r1 h1 => ?_
  split at h1
  · rename_i cc
    obtain ⟨c1, c2⟩ := of_decide_eq_true cc
    have hlen := r1.length
    refine ⟨by omega, fun a hna => ⟨a, vs ++ [], rfl, by rw [List.append_nil]; omega, upd_same, fun dx H' hd hne h3 h4 h5 => ⟨rfl, dx, _, h4, h5, ?_, ?_⟩⟩⟩
    · rw [upd_ne hne] at hd; exact hd
    · rw [upd_ne hne] at hd
      rw [List.append_nil]
      have eH : upd (del H' a) dx (.xd ((ns.zip vs).reverse)) = upd H1 dx (.xd ((ns.zip vs).reverse)) := by
        funext b
        by_cases z : b = dx
        · subst z; rw [upd_same, upd_same]
        · rw [upd_ne z, upd_ne z]
          by_cases z2 : b = a
          · subst z2; rw [del_same]; exact hna.symm
          · rw [del_ne z2, h3 b z2 z, upd_ne z2]
      rw [eH]
      refine h1 cl.C dx _ σ (upd G1 dx (.xd ((ns.zip vs).reverse))) _ (by rw [← hx.m]; exact cl.gm) (Ex.new (ok1.gH.none hd)) (ok1.grow (Grow.new ok1.gH hd)) upd_same ?_
      exact RepF.zipR (r1.mono (Ex.new (ok1.gH.none hd)))
  · exact h1.elim
/-! try .. except X as n -/
def noSlot (i : Nat) (r : SRes) : SRes := match r with
  | .nx ρ => .nx (ρ.set i .no)
  | .bk ρ => .bk (ρ.set i .no)
  | .ct ρ => .ct (ρ.set i .no)
  | .rt p ρ => .rt p ρ
  | _ => .bad
def sTry (i : Nat) (m : Str → Option Bool) (body : SF) (suite : List (Str × PV) → SF) : SF := fun ρ => match body ρ with
  | .exc c fs ρ1 => match m c with
    | some true => if decide (i < ρ1.length) = true then noSlot i (suite fs (ρ1.set i .no)) else .bad
    | some false => .exc c fs ρ1
    | none => .bad
  | r => r
theorem EnvOk.withW {Γ : Gam} {G H : Hp} {σ : L2.St} {ρ : PEnv} {W : WX} (ok : EnvOk Γ G σ H ρ) : EnvOk { Γ with W := W } G σ H ρ := ⟨ok.len, ok.cH, ok.gH, ok.g0, ok.gC, ok.par, ok.val, ok.own, ok.dis⟩
theorem EnvOk.ofW {Γ : Gam} {G H : Hp} {σ : L2.St} {ρ : PEnv} {W : WX} (ok : EnvOk { Γ with W := W } G σ H ρ) : EnvOk Γ G σ H ρ := ⟨ok.len, ok.cH, ok.gH, ok.g0, ok.gC, ok.par, ok.val, ok.own, ok.dis⟩
def Gam.inSuite (Γ : Gam) (G : Hp) (i : Nat) (a : Addr) : Gam := { Γ with G := G, P := fun j => if j = i then some a else Γ.P j, W := fun _ _ _ _ => False }
theorem EnvOk.toSuite {Γ : Gam} {G H : Hp} {σ : L2.St} {ρ : PEnv} {i : Nat} {a : Addr} (ok : EnvOk Γ G σ H ρ) (hi : i < ρ.length) (np : Γ.P i = none) : EnvOk (Γ.inSuite G i a) G (σ.set i (some (V.ref a))) H (ρ.set i .no) := by
  have o := ok.setNo (i := i) (v := some (V.ref a)) np
  refine ⟨o.len, o.cH, o.gH, Ex.refl G, fun _ _ => rfl, fun j b hj => ?_, o.val, o.own, o.dis⟩
  have hj' : (if j = i then some a else Γ.P j) = some b := hj
  by_cases z : j = i
  · subst z
    rw [if_pos rfl] at hj'
    cases hj'
    exact List.getElem?_set_self (by rw [ok.len]; exact hi)
  · rw [if_neg z] at hj'
    exact o.par j b hj'
theorem EnvOk.ofSuite {Γ : Gam} {G0 G H0 H : Hp} {σ0 σ : L2.St} {ρ0 ρ : PEnv} {i : Nat} {a : Addr} (ok0 : EnvOk Γ G0 σ0 H0 ρ0) (ok : EnvOk (Γ.inSuite G0 i a) G σ H ρ) (np : Γ.P i = none) : EnvOk Γ G σ H ρ := by
  refine ⟨ok.len, ok.cH, ok.gH, ok0.g0.trans ok.g0, fun b hb => (ok.gC b hb).trans (ok0.gC b hb), fun j b hj => ?_, ok.val, ok.own, ok.dis⟩
  have z : j ≠ i := fun z => by rw [z, np] at hj; cases hj
  refine ok.par j b ?_
  show (if j = i then some a else Γ.P j) = some b
  rw [if_neg z]; exact hj
theorem PSs.any {X : Cx} {st : List Stmt} {ι : Type} {t : ι → TS} {p : ι → Prop} (h : ∀ j, p j → PSs X st (t j)) : PSs X st (fun D σ H => ∃ j, p j ∧ t j D σ H) := ⟨fun pins s σ H D I ⟨j, hp, z⟩ => (h j hp).run pins s σ H D I z⟩
theorem s_try {i : Nat} {m : Str → Option Bool} {bf : SF} {sf : List (Str × PV) → SF} {x n : Str} {hv : Value} {body suite : List Stmt} {b₀ : Stmt} {np pos' : Pos} (hx : OkX X Γ) (nP : Γ.P i = none) (hs : X.stack = X.env :: X.outer) (hf : X.env.frame = some X.env.locals) (hN : X.N.Nodup) (hi : X.N[i]? = some n) (hln : X.env.kindOf n = some .local) (hc : Names X x hv) (tk : Takes X Γ.W)
    (hm : ∀ c C b, m c = some b → X.mg c = some (.ref C) → PySem.W.exmOne X.K (.ref C) hv = some b)
    (hb : ∀ (pn : List (Addr × Obj)) (xe : Value → Shared → Prop) (Γ' : Gam), OkX (X.tr pn xe) Γ' → Γ'.P = Γ.P → Takes (X.tr pn xe) Γ'.W → PassesOwn (model X.prog X.w) X.A X.env xe → PSs (X.tr pn xe) body (DS Γ' bf))
    (hsu : ∀ (a : Addr) (oe : Obj) (pn : List (Addr × Obj)) (c : Str) (C dd : Addr) (ws : List (Str × V)) (fs : List (Str × PV)) (Γ' : Gam), Zc (.ref C) (some dd) oe → (∃ vs, oe.data = .fields vs) → m c = some true → X.mg c = some (.ref C) → OkX (X.suite a ((a, oe) :: pn)) Γ' → Γ'.P i = some a →
      (∀ j, j ≠ i → Γ'.P j = Γ.P j) → Γ'.G dd = some (.xd ws) → RepF Γ'.K Γ'.mg Γ'.G ws fs → PSs (X.suite a ((a, oe) :: pn)) (b₀ :: suite) (DS Γ' (sf fs))) :
    PS X (.Try body [.ExceptHandler (some (.Name x np)) (some n) (b₀ :: suite) pos'] [] [] pos) (DS Γ (sTry i m bf sf)) := by
  refine PS.imp (ps_try_as (pos := pos) (pos' := pos') (np := np) (Wout := Γ.W) (tb := fun W => DS { Γ with W := W } bf) (ts := fun a cls d D σ H => ∃ j : Str × Addr × Addr × List (Str × V) × List (Str × PV) × Gam, (cls = .ref j.2.1 ∧ d = some j.2.2.1 ∧ m j.1 = some true ∧ X.mg j.1 = some (.ref j.2.1) ∧ X.K = j.2.2.2.2.2.K ∧ X.mg = j.2.2.2.2.2.mg ∧ j.2.2.2.2.2.P i = some a ∧
      (∀ k, k ≠ i → j.2.2.2.2.2.P k = Γ.P k) ∧ j.2.2.2.2.2.G j.2.2.1 = some (.xd j.2.2.2.1) ∧ RepF j.2.2.2.2.2.K j.2.2.2.2.2.mg j.2.2.2.2.2.G j.2.2.2.1 j.2.2.2.2.1) ∧ DS j.2.2.2.2.2 (sf j.2.2.2.2.1) D σ H)
    hs hf hN hi hln hc tk (fun W pn xe tkW po => hb pn xe { Γ with W := W } ⟨hx.k, hx.m⟩ rfl tkW po) (fun a oe cls d pn hz hfi => PSs.any fun j hj => ?_)) fun D σ H ⟨G, ρ, ok, q⟩ => ?_
  · obtain ⟨h1, h2, h3, h4, h5, h6, h7, h8, h9, h10⟩ := hj
    subst h1 h2
    exact hsu a oe pn j.1 j.2.1 j.2.2.1 j.2.2.2.1 j.2.2.2.2.1 j.2.2.2.2.2 hz hfi h3 h4 ⟨h5, h6⟩ h7 h8 h9 h10
  · refine ⟨G, ρ, ok.withW, ?_⟩
    unfold sTry at q
    cases hbf : bf ρ with
    | nx ρ1 => rw [hbf] at q; exact fun σ' G' H' e ok' => q σ' G' H' e ok'.ofW
    | bk ρ1 => rw [hbf] at q; exact fun σ' G' H' e ok' => q σ' G' H' e ok'.ofW
    | ct ρ1 => rw [hbf] at q; exact fun σ' G' H' e ok' => q σ' G' H' e ok'.ofW
    | rt p ρ1 => rw [hbf] at q; exact fun v σ' G' H' e ok' => q v σ' G' H' e ok'.ofW
    | ro p ρ1 => rw [hbf] at q; exact fun a o σ' G' H' e ok' => q a o σ' G' H' e ok'.ofW
    | bad => rw [hbf] at q; exact q
    | exc c fs ρ1 =>
      rw [hbf] at q
      simp only at q
      intro C d ws σ' G' H' hmg e ok' hd rf
      have ok1 := ok'.ofW
      cases hmc : m c with
      | none => rw [hmc] at q; exact q.elim
      | some b =>
        rw [hmc] at q
        refine ⟨b, hm c C b hmc (by rw [hx.m]; exact hmg), fun hb' a hna => ?_, fun hb' => ?_⟩
        · subst hb'
          simp only at q
          split at q
          · rename_i hlt
            have hlt' := of_decide_eq_true hlt
            refine ⟨(c, C, d, ws, fs, Γ.inSuite G' i a), ⟨rfl, rfl, hmc, by rw [hx.m]; exact hmg, hx.k, hx.m, ?_, fun k hk => ?_, hd, rf⟩, G', ρ1.set i .no, ok1.toSuite hlt' nP, ?_⟩
            · show (if i = i then some a else Γ.P i) = some a
              rw [if_pos rfl]
            · show (if k = i then some a else Γ.P k) = Γ.P k
              rw [if_neg hk]
            · have q' := PostS.mono e q
              show PostS (Γ.inSuite G' i a) (sf fs (ρ1.set i .no)) G' _
              cases hsf : sf fs (ρ1.set i .no) with
              | nx ρ2 => rw [hsf] at q'; exact fun σ2 G2 H2 e2 ok2 => q' _ G2 H2 e2 ((ok1.ofSuite ok2 nP).setNo nP)
              | bk ρ2 => rw [hsf] at q'; exact fun σ2 G2 H2 e2 ok2 => q' _ G2 H2 e2 ((ok1.ofSuite ok2 nP).setNo nP)
              | ct ρ2 => rw [hsf] at q'; exact fun σ2 G2 H2 e2 ok2 => q' _ G2 H2 e2 ((ok1.ofSuite ok2 nP).setNo nP)
              | rt p ρ2 => rw [hsf] at q'; exact fun v σ2 G2 H2 e2 ok2 r2 => q' v σ2 G2 H2 e2 (ok1.ofSuite ok2 nP) r2
              | ro p ρ2 => rw [hsf] at q'; exact q'.elim
              | exc _ _ _ => rw [hsf] at q'; exact q'.elim
              | bad => rw [hsf] at q'; exact q'.elim
          · exact q.elim
        · subst hb'
          simp only at q
          exact q C d ws σ' G' H' hmg e ok1 hd rf
/-- n.f in the suite -/
def eXf (fs : List (Str × PV)) (f : Str) : EF := fun ρ => oRes (fs.lookup f) ρ
theorem v_xf {a C dd : Addr} {oe : Obj} {pn : List (Addr × Obj)} {e : Expr} {i : Nat} {ws : List (Str × V)} {fs : List (Str × PV)} {f : Str} {Γ' : Gam} (T : XfC X.K C) (hno : PySem.W.findIn X.K (.ref C) f = some none) (hz : Zc (.ref C) (some dd) oe) (hf : ∃ vs, oe.data = .fields vs) (he : PE (X.suite a ((a, oe) :: pn)) e (tVar i))
    (hP : Γ'.P i = some a) (hd : Γ'.G dd = some (.xd ws)) (rf : RepF Γ'.K Γ'.mg Γ'.G ws fs) (hb : attributeBase e f X.env (eval e X.env) = eval e X.env := by rfl) : PE (X.suite a ((a, oe) :: pn)) (.Attribute e f pos) (DE Γ' (eXf fs f)) :=
  PE.imp (pe_xf (pos := pos) T hno hz hf he hb) fun σ H Q ⟨G, ρ, ok, q⟩ => by
    unfold eXf at q
    cases hl : fs.lookup f with
    | none => rw [hl] at q; exact q.elim
    | some p =>
      rw [hl] at q
      obtain ⟨v, h1, h2⟩ := rf.look hl
      exact ⟨_, ok.par i a hP, rfl, rfl, dd, ws, v, rfl, ok.gH _ _ (ok.g0 _ _ hd), h1, q v G H (Ex.refl G) ok (h2.mono ok.g0)⟩
/-! f-strings of two parts and more -/
def eJs : List EF → Str → EF
  | [], acc => fun ρ => .ok (.str acc) ρ
  | f :: fs, acc => fun ρ => (f ρ).bind fun p ρ1 => match p with
    | .str y => if decide ((acc ++ y).length ≤ 100000) = true then eJs fs (acc ++ y) ρ1 else .bad
    | _ => .bad
inductive PJv (X : Cx) (Γ : Gam) : List Expr → List EF → Prop where
  | nil : PJv X Γ [] []
  | cons {e : Expr} {t : EF} {es : List Expr} {ts : List EF} (h : PE X e (DE Γ t)) (r : PJv X Γ es ts) : PJv X Γ (e :: es) (t :: ts)
theorem PJv.pj : ∀ {es : List Expr} {fs : List EF}, PJv X Γ es fs → PJ X es (fs.map (DE Γ))
  | _, _, .nil => .nil
  | _, _, .cons h r => .cons h r.pj
theorem js_read : ∀ {fs : List EF} {acc : Str} {G H : Hp} {σ : L2.St} {ρ : PEnv} {Q : VK}, EnvOk Γ G σ H ρ → Post Γ (Rep Γ.K Γ.mg) (eJs fs acc ρ) G σ Q → tJs (fs.map (DE Γ)) acc σ H (fun out H1 => Q (.str out) H1)
  | [], acc, G, H, σ, ρ, Q, ok, q => q (.str acc) G H (Ex.refl G) ok (.str acc)
  | f :: fs, acc, G, H, σ, ρ, Q, ok, q => by
    refine DX.bindI ok q fun x G1 H1 p ρ1 e1 ok1 r1 h1 => ?_
    cases p with
    | str y =>
      cases r1
      simp only at h1
      split at h1
      · rename_i c
        exact ⟨y, rfl, szOk (of_decide_eq_true c), js_read ok1 h1⟩
      · exact h1.elim
    | _ => exact h1.elim
theorem v_joined {v1 v2 : Expr} {rest : List Expr} {fs : List EF} (h : PJv X Γ (v1 :: v2 :: rest) fs) : PE X (.JoinedStr (v1 :: v2 :: rest) pos) (DE Γ (eJs fs Str.empty)) :=
  PE.imp (pe_joined h.pj) fun σ H Q ⟨G, ρ, ok, q⟩ => js_read ok q
/-! calls: missing arguments filled up; by keywords; of nothing -/
theorem RelAs.app {σ : L2.St} {G : Hp} : ∀ {vs : List V} {as : List AV}, RelAs Γ σ G vs as → ∀ {ws : List V} {ps : List PV}, Reps Γ.K Γ.mg G ws ps → RelAs Γ σ G (vs ++ ws) (as ++ ps.map AV.val)
  | _, _, .nil, _, _, .nil => .nil
  | _, _, .nil, _, _, .cons h t => .cons (.val h) (RelAs.app (vs := []) (as := []) .nil t)
  | _, _, .cons h t, _, _, r => .cons h (RelAs.app t r)
def eCallD (ms : List Bool) (F : FF) (dps : List PV) (fa : AF2) : EF := fun ρ => (fa ρ).bind fun as ρ1 => callE ms F (as ++ dps.map AV.val) ρ1
theorem v_callD {k : Nat} {x : Str} {nps : List Str} {ms : List Bool} {F : FF} {p : Pos} {e : Expr} {es : List Expr} {fa : AF2} {f : Addr} {fd : FuncData} {dvs : List V} {dps : List PV} (hx : OkX X Γ) (tk : Takes X Γ.W)
    (ok : FnOk X.prog X.w X.K X.mg X.base (L2.CX X.prog X.w) k f fd nps (spF X.K X.mg ms F)) (gm : X.mg x = some (.ref f)) (kp : PySem.W.keepIn X.K (.ref f) = true) (hb : ∃ ds, Vals dvs ds ∧ Binds X.K fd nps ds) (hd : ∀ G, Reps Γ.K Γ.mg G dvs dps)
    (hr : Room k X.A) (hg : Gl X x) (ha : PA X (e :: es) (DA2 Γ fa))
    (hdb : (x == ("__debug__" : Str)) = false := by decide) (he : starEach (e :: es) X.env = (false, eval e X.env) :: starEach es X.env := by rfl) (hpl : (backTo pos (starEach es X.env)).any (·.1) = false := by rfl) :
    PE X (.Call (.Name x p) (e :: es) [] pos) (DE Γ (eCallD ms F dps fa)) := by
  obtain ⟨ds, hv, hb⟩ := hb
  refine PE.imp (pe_callSD ok hr hg gm kp hb hv (E := WE Γ.W) (fun σ => passAt tk σ) ha hdb he hpl) fun σ H Q ⟨G, ρ, ok, q⟩ => ?_
  refine DX.bindI (rel1 := RelAs Γ σ) ok q fun vs G1 H1 as ρ1 e1 ok1 r1 h1 => ?_
  rw [hx.k, hx.m]
  exact callE_sp ok1 (RelAs.app r1 (hd G1)) h1
def noExc {α : Type} (r : ERes α) : ERes α := match r with
  | .ok a ρ => .ok a ρ
  | _ => .bad
/-- keywords; what is raised is not told -/
def eCallK (ms : List Bool) (n m : Nat) (F : FF) (gP : List PV → List PV → List PV) (fa fk : AF) : EF := fun ρ => (fa ρ).bind fun ps ρ1 => (fk ρ1).bind fun qs ρ2 =>
  if decide (ps.length = n ∧ qs.length = m) = true then noExc (callE ms F ((gP ps qs).map AV.val) ρ2) else .bad
theorem RelAs.vals {σ : L2.St} {G : Hp} {ws : List V} {ps : List PV} (r : Reps Γ.K Γ.mg G ws ps) : RelAs Γ σ G ws (ps.map AV.val) := RelAs.app (vs := []) (as := []) .nil r
theorem pk_imp {kws : List Keyword} {t t' : TA} (h : PK X kws t) (i : ∀ σ H Q, t' σ H Q → t σ H Q) : PK X kws t' := ⟨fun a pins s σ H Q I z => h.run a pins s σ H Q I (i σ H Q z)⟩
theorem k_nil : PK X [] (DA Γ aNil) := pk_imp pk_nil fun σ H Q ⟨G, ρ, ok, h⟩ => h [] G H (Ex.refl G) ok .nil
theorem k_cons {e : Expr} {kws : List Keyword} {nm : Option Str} {kpos : Pos} {fa : EF} {fr : AF} (ha : PE X e (DE Γ fa)) (hr : PK X kws (DA Γ fr)) : PK X (⟨nm, e, kpos⟩ :: kws) (DA Γ (aCons fa fr)) :=
  pk_imp (pk_cons ha hr) fun σ H Q ⟨G, ρ, ok, h⟩ => by
    refine DX.bindI ok h fun x G1 H1 p ρ1 e1 ok1 r1 h1 => ?_
    refine DX.bindI ok1 h1 fun xs G2 H2 ps ρ2 e2 ok2 r2 h2 => ?_
    exact h2 (x :: xs) G2 H2 (Ex.refl G2) ok2 (.cons (r1.mono e2) r2)
theorem v_callK {k n m : Nat} {x : Str} {nps ks : List Str} {ms : List Bool} {F : FF} {p : Pos} {e : Expr} {es : List Expr} {kws : List Keyword} {fa fk : AF} {f : Addr} {fd : FuncData} (gP : List PV → List PV → List PV) (gV : List V → List V → List V) (hx : OkX X Γ)
    (ok : FnOk X.prog X.w X.K X.mg X.base (L2.CX X.prog X.w) k f fd nps (spF X.K X.mg ms F)) (gm : X.mg x = some (.ref f)) (kp : PySem.W.keepIn X.K (.ref f) = true) (hb : ∃ g, KBn X.K fd nps n ks g gV) (hd : ∀ G vs ps ws qs, Reps Γ.K Γ.mg G vs ps → Reps Γ.K Γ.mg G ws qs → Reps Γ.K Γ.mg G (gV vs ws) (gP ps qs))
    (hkl : ks.length = m) (hr : Room k X.A) (hg : Gl X x) (ha : PA X (e :: es) (DA Γ fa)) (hkw : PK X kws (DA Γ fk)) (hall : (backToKw pos (keywordEach kws X.env)).all (·.1.isSome) = true := by rfl) (hks : (backToKw pos (keywordEach kws X.env)).filterMap (·.1) = ks := by rfl)
    (hdb : (x == ("__debug__" : Str)) = false := by decide) (he : starEach (e :: es) X.env = (false, eval e X.env) :: starEach es X.env := by rfl)
    (hpl : ((backTo pos (starEach (e :: es) X.env)).any (·.1) || (backToKw pos (keywordEach kws X.env)).any (·.1.isNone)) = false := by rfl) :
    PE X (.Call (.Name x p) (e :: es) kws pos) (DE Γ (eCallK ms n m F gP fa fk)) := by
  obtain ⟨g, hb⟩ := hb
  refine PE.imp (pe_callN ok hr hg gm kp hb passL ha hkw hall hks hdb he hpl) fun σ H Q ⟨G, ρ, ok, q⟩ => ?_
  refine DX.bindI ok q fun vs G1 H1 ps ρ1 e1 ok1 r1 q1 => ?_
  refine DX.bindI ok1 q1 fun ws G2 H2 qs ρ2 e2 ok2 r2 q2 => ?_
  split at q2
  · rename_i c
    obtain ⟨c1, c2⟩ := of_decide_eq_true c
    refine ⟨by rw [r1.length]; exact c1, by rw [r2.length, hkl]; exact c2, ?_⟩
    have rr := hd G2 vs ps ws qs (r1.mono e2) r2
    rw [hx.k, hx.m]
    have q3 : Post { Γ with W := fun _ _ _ _ => False } (Rep Γ.K Γ.mg) (callE ms F ((gP ps qs).map AV.val) ρ2) G2 σ Q := by
      cases hc : callE ms F ((gP ps qs).map AV.val) ρ2 with
      | ok p ρ3 =>
        simp only [hc, noExc] at q2
        exact fun v G' H' e ok' r => q2 v G' H' e ok'.ofW r
      | exc _ _ _ => simp only [hc, noExc] at q2; exact q2.elim
      | bad => simp only [hc, noExc] at q2; exact q2
    exact callE_sp (Γ := { Γ with W := fun _ _ _ _ => False }) ok2.withW (RelAs.vals (Γ := { Γ with W := fun _ _ _ _ => False }) rr) q3
  · exact q2.elim
def eCall0 (ms : List Bool) (F : FF) (dps : List PV) : EF := fun ρ => callE ms F (dps.map AV.val) ρ
theorem v_call0 {k : Nat} {x : Str} {nps : List Str} {ms : List Bool} {F : FF} {p : Pos} {f : Addr} {fd : FuncData} {dvs : List V} {dps : List PV} (hx : OkX X Γ) (tk : Takes X Γ.W)
    (ok : FnOk X.prog X.w X.K X.mg X.base (L2.CX X.prog X.w) k f fd nps (spF X.K X.mg ms F)) (gm : X.mg x = some (.ref f)) (kp : PySem.W.keepIn X.K (.ref f) = true) (hb : ∃ ds, Vals dvs ds ∧ Binds X.K fd nps ds) (hd : ∀ G, Reps Γ.K Γ.mg G dvs dps)
    (hr : Room k X.A) (hg : Gl X x) (hdb : (x == ("__debug__" : Str)) = false := by decide) : PE X (.Call (.Name x p) [] [] pos) (DE Γ (eCall0 ms F dps)) := by
  obtain ⟨ds, hv, hb⟩ := hb
  refine ⟨fun pins s σ H Q I ⟨G, ρ, ok', q⟩ => ?_⟩
  refine wpAny_Call_Name_kw (ld_glob I hg gm ?_ hdb)
  refine PySem.W.callWith_K0 I.kIn kp (run_fnSD (us := []) (vs := []) ok hr hb hv (E := WE Γ.W) (passAt tk σ) I .nil ?_)
  rw [hx.k, hx.m]
  exact callE_sp ok' (RelAs.vals (hd G)) q
end
end PL
end

section
set_option Elab.async false
set_option linter.all false
set_option maxRecDepth 100000
set_option maxHeartbeats 4000000
set_option autoImplicit false
namespace PL
open PySem PySem.Spec PyProof.Rows L2
section
variable {X : Cx} {Γ : Gam} {pos : Pos}
/-! + of numbers, texts, lists, tuples -/
def rCatR : R2 := fun x y H Q => ∃ l b xs zs, x = .ref l ∧ y = .ref b ∧ Rd H l (.lst xs) ∧ Rd H b (.lst zs) ∧ xs.length + zs.length ≤ sizeLine ∧ ∀ p, H p = none → Q (.ref p) (upd H p (.lst (xs ++ zs)))
theorem op_catR : OpR X (binaryOp .Add) rCatR := by
  intro pins s σ H x y v u Q I rx ry h
  obtain ⟨l, b, xs, zs, rfl, rfl, hH, hB, hz, q⟩ := h
  cases rx
  cases ry
  obtain ⟨z, its, n, r, e⟩ := hH.ok I.hok
  obtain ⟨z2, its2, n2, r2, e2⟩ := hB.ok I.hok
  refine PySem.P.add_list e e2 ?_ (by rw [List.size_toArray, List.size_toArray]; have := r.length; have := r2.length; omega)
  have ea : its.toArray ++ its2.toArray = (its ++ its2).toArray := by simp
  rw [ea]
  exact ⟨.ref _, _, I.lnew (t' := s.toks) (r.append r2) (by rw [List.length_append]; omega), rfl, q _ I.fresh⟩
def rAddA (K : PySem.W.Frag) : R2 := fun x y H Q => ((rI0 (fun i j => .int (i + j)) x y H Q ∨ (∃ i j, x = .str i ∧ y = .str j ∧ i.length + j.length ≤ sizeLine ∧ Q (.str (i ++ j)) H)) ∨ rCatR x y H Q) ∨ rCatA K x y H Q
theorem op_addA : OpR X (binaryOp .Add) (rAddA X.K) := ((op_add.or op_add_str).or op_catR).or op_catA
def pAddA : PV → PV → Option PV
  | .int i, .int j => some (.int (i + j))
  | .str i, .str j => if decide (i.length + j.length ≤ 100000) = true then some (.str (i ++ j)) else none
  | .lst xs, .lst ys => if decide (xs.length + ys.length ≤ 100000) = true then some (.lst (xs ++ ys)) else none
  | .tup xs, .tup ys => if decide (xs.length + ys.length ≤ 100000) = true then some (.tup (xs ++ ys)) else none
  | _, _ => none
theorem s_addA : OpS Γ (rAddA Γ.K) pAddA := by
  intro G H x y p q z Q gh rx ry hg k
  unfold pAddA at hg
  split at hg
  · cases rx; cases ry; cases hg
    exact .inl (.inl (.inl ⟨_, _, rfl, rfl, k _ G H (Grow.refl gh) (.int _)⟩))
  · split at hg
    · rename_i c
      cases rx; cases ry; cases hg
      exact .inl (.inl (.inr ⟨_, _, rfl, rfl, szOk (of_decide_eq_true c), k _ G H (Grow.refl gh) (.str _)⟩))
    · cases hg
  · split at hg
    · rename_i c
      cases hg
      cases rx with
      | lst h1 r1 =>
        cases ry with
        | lst h2 r2 =>
          refine .inl (.inr ⟨_, _, _, _, rfl, rfl, gh.rd h1, gh.rd h2, ?_, fun p hp => k _ _ _ (Grow.new gh hp) (Rep.newL (gh.none hp) (r1.append r2))⟩)
          rw [r1.length, r2.length]
          exact szOk (of_decide_eq_true c)
    · cases hg
  · split at hg
    · rename_i c
      cases hg
      cases rx with
      | tup h1 r1 =>
        cases ry with
        | tup h2 r2 =>
          refine .inr ⟨_, _, _, _, rfl, rfl, gh.sqT h1, gh.sqT h2, ?_, fun e => ?_, fun e1 e2 => ?_, fun e1 e2 p hp => ?_⟩
          · rw [r1.length, r2.length]
            exact szOk (of_decide_eq_true c)
          · subst e
            cases r1
            exact k _ G H (Grow.refl gh) (.tup h2 r2)
          · subst e2
            cases r2
            exact k _ G H (Grow.refl gh) (by rw [List.append_nil]; exact .tup h1 r1)
          · exact k _ _ _ (Grow.new gh hp) (Rep.newT (gh.none hp) (r1.append r2))
    · cases hg
  · cases hg
theorem v_add (hx : OkX X Γ) {a b : Expr} {fa fb : EF} (ha : PE X a (DE Γ fa)) (hb : PE X b (DE Γ fb)) : PE X (.BinOp a .Add b pos) (DE Γ (eOp pAddA fa fb)) := by
  have h := pe_op (pos := pos) (op_addA (X := X)) ha hb
  rw [hx.k] at h
  exact PE.imp h (opImp s_addA)
/-! not, as a value -/
theorem v_not (hx : OkX X Γ) {e : Expr} {f : EF} (h : PE X e (DE Γ f)) : PE X (.UnaryOp .Not e pos) (DE Γ (eNot f)) :=
  PE.imp (pe_notT h) fun σ H Q ⟨G, ρ, ok, q⟩ => by
    refine DX.bindI ok q fun x G1 H1 p ρ1 e1 ok1 r1 h1 => ?_
    cases hp : pTru p with
    | none => simp only [hp] at h1; exact h1.elim
    | some k =>
      simp only [hp] at h1
      exact ⟨k, by rw [hx.k]; exact truV ok1.gH r1 hp, h1 _ G1 H1 (Ex.refl G1) ok1 (.bl _)⟩
/-! an item of a name, owned or not -/
def eIxS (i : Nat) (fb : EF) : EF := fun ρ => match ρ[i]? with
  | some (.own _) => eIxO i fb ρ
  | some (.v p) => (fb ρ).bind fun q ρ1 => oRes (pIx p q) ρ1
  | _ => .bad
theorem v_ixS (hx : OkX X Γ) {a b : Expr} {i : Nat} {fb : EF} (ha : PE X a (tVar i)) (hb : PE X b (DE Γ fb)) (hs : PlainIx b := by exact fun _ _ => rfl) : PE X (.Subscript a b pos) (DE Γ (eIxS i fb)) := by
  have ho := v_ixO (pos := pos) hx ha hb hs
  have h := pe_ix (pos := pos) (ix_any (X := X)) ha hb hs
  rw [hx.k] at h
  refine ⟨fun pins s σ H Q I ⟨G, ρ, ok, q⟩ => ?_⟩
  cases hi : ρ[i]? with
  | none => simp only [eIxS, hi] at q; exact q.elim
  | some s' =>
    cases s' with
    | no => simp only [eIxS, hi] at q; exact q.elim
    | own p => simp only [eIxS, hi] at q; exact ho.run pins s σ H Q I ⟨G, ρ, ok, q⟩
    | v p =>
      simp only [eIxS, hi] at q
      refine h.run pins s σ H Q I ?_
      obtain ⟨x, h1, h2⟩ := ok.val i p hi
      refine ⟨x, h1, ?_⟩
      refine DX.bindI ok q fun y G1 H1 q' ρ1 e1 ok1 r1 k1 => ?_
      cases hg : pIx p q' with
      | none => rw [hg] at k1; exact k1.elim
      | some z =>
        rw [hg] at k1
        exact s_ix G1 H1 x y p q' z Q ok1.gH (h2.mono e1) r1 hg fun v G' H' gr rv => k1 v G' H' gr.gG (ok1.grow gr) rv
/-! a name that the module keeps -/
structure Const (K : PySem.W.Frag) (mg : Str → Option Value) (x : Str) (p : PV) : Prop where
  ex : ∃ u v, mg x = some u ∧ RelV v u ∧ ∀ G, Rep K mg G v p
theorem v_const {x : Str} {p : PV} (c : Const X.K X.mg x p) (hx : OkX X Γ) (hg : Gl X x) (hd : (x == ("__debug__" : Str)) = false := by decide) : PE X (.Name x pos) (DE Γ (eC p)) := by
  obtain ⟨u, v, h1, h2, h3⟩ := c.ex
  rw [hx.k, hx.m] at h3
  exact v_c (pe_glob hg h1 h2 hd) h3
theorem v_ty {x : Str} {T : String} (hg : Gl X x) (hm : X.mg x = none) (hv : bootBuiltins x = some (.type T)) (hn : x ≠ "__name__" := by decide) (hd : (x == ("__debug__" : Str)) = false := by decide) : PE X (.Name x pos) (DE Γ (eC (.atm (.ty T)))) :=
  v_c (pe_bltn (v := .ty T) hg hm hv rfl hn hd) fun _ => .atm _
/-! a comprehension -/
theorem PE.any {X : Cx} {e : Expr} {ι : Type} {t : ι → TE} (h : ∀ j, PE X e (t j)) : PE X e (fun σ H Q => ∃ j, t j σ H Q) := ⟨fun pins s σ H Q I ⟨j, z⟩ => (h j).run pins s σ H Q I z⟩
theorem PT.any {X : Cx} {e : Expr} {ι : Type} {t : ι → TT} (h : ∀ j, PT X e (t j)) : PT X e (fun σ H Q => ∃ j, t j σ H Q) := ⟨fun pins s σ H Q I ⟨j, z⟩ => (h j).run pins s σ H Q I z⟩
theorem PTs.any {X : Cx} {e : List Expr} {ι : Type} {t : ι → TT} (h : ∀ j, PTs X e (t j)) : PTs X e (fun σ H Q => ∃ j, t j σ H Q) := ⟨fun pins s σ H Q I ⟨j, z⟩ => (h j).run pins s σ H Q I z⟩
theorem PG.any {X : Cx} {e : Expr} {ι : Type} {t : ι → TG} (h : ∀ j, PG X e (t j)) : PG X e (fun v σ H Q => ∃ j, t j v σ H Q) := ⟨fun pins s σ H v u Q I r ⟨j, z⟩ => (h j).run pins s σ H v u Q I r z⟩
theorem PTs.imp {X : Cx} {e : List Expr} {t t' : TT} (h : PTs X e t) (i : ∀ σ H Q, t' σ H Q → t σ H Q) : PTs X e t' := ⟨fun pins s σ H Q I z => h.run pins s σ H Q I (i σ H Q z)⟩
theorem ts_nil : PTs X [] (DT Γ tYs) := PTs.imp pts_nil t_yes
theorem ts_one {c : Expr} {t : TF} (h : PT X c (DT Γ t)) : PTs X [c] (DT Γ t) := pts_one h
abbrev blkX (X : Cx) (s : Shared) (H : Hp) (scope : Scope) (C : Addr) (cl : List (Str × Addr)) (fp : List Addr) : Cx := X.blk s H scope (compEnvC scope cl C X.env) fp
section
variable {elt tg iter : Expr} {ifs : List Expr} {scope : Scope} {own : List (Str × Nat)} {is : List Nat} {fi : IF} {g : GF} {t : TF} {e : EF}
theorem f_lc (hc : X.calm = true) (hN : X.N.Nodup) (hx : OkX X Γ) (hi : PI X tg iter (DI Γ fi)) (ok : BlkOk X.N X.env.scope scope own) (hp : ∀ j ∈ own.map (·.2), Γ.P j = none) (his : ∀ j ∈ is, j ∈ own.map (·.2))
    (hb : ∀ (s : Shared) (H : Hp) (C : Addr) (cl : List (Str × Addr)) (fp : List Addr) (Γ2 : Gam), OkX (blkX X s H scope C cl fp) Γ2 → Γ2.P = Γ.P → Takes (blkX X s H scope C cl fp) Γ2.W →
      PG (blkX X s H scope C cl fp) tg (DG Γ2 is g) ∧ PTs (blkX X s H scope C cl fp) ifs (DT Γ2 t) ∧ PE (blkX X s H scope C cl fp) elt (DE Γ2 e)) (hs : ∀ x, foldedSetIterable iter X.env x = pure x := by intro _; rfl) :
    PE X (.ListComp elt [⟨tg, iter, ifs, 0⟩] scope pos) (DF Γ (eLc (own.map (·.2)) fi g t e)) := by
  have hb' := fun s H C cl fp (j : Addr × HO) => hb s H C cl fp (Γ.guard j.1 j.2) ⟨hx.k, hx.m⟩ rfl takes0
  refine PE.imp (pe_lc (pos := pos) hc hN hi ok (fun s H C cl fp => PG.any fun j => (hb' s H C cl fp j).1) (fun s H C cl fp => PTs.any fun j => (hb' s H C cl fp j).2.1) (fun s H C cl fp => PE.any fun j => (hb' s H C cl fp j).2.2) hs) ?_
  exact f_lcI (fun _ _ _ h => h) hp his (fun D o v σ H Q h => ⟨(D, o), h⟩) (fun D o σ H Q h => ⟨(D, o), h⟩) (fun D o σ H Q h => ⟨(D, o), h⟩)
/-- y = [..] -/
theorem p_setLc {i : Nat} {y : Str} {py spos : Pos} (hc : X.calm = true) (hN : X.N.Nodup) (hy : X.N[i]? = some y) (hyl : X.env.scope.names.lookup y = some .local)
    (hsw : swapsWith (.ListComp elt [⟨tg, iter, ifs, 0⟩] scope pos) (some (.Name y py)) spos.line X.env = pure true) (hx : OkX X Γ) (hi : PI X tg iter (DI Γ fi)) (ok : BlkOk X.N X.env.scope scope own) (hp : ∀ j ∈ own.map (·.2), Γ.P j = none) (his : ∀ j ∈ is, j ∈ own.map (·.2))
    (hb : ∀ (s : Shared) (H : Hp) (C : Addr) (cl : List (Str × Addr)) (fp : List Addr) (Γ2 : Gam), OkX (blkX X s H scope C cl fp) Γ2 → Γ2.P = Γ.P → Takes (blkX X s H scope C cl fp) Γ2.W →
      PG (blkX X s H scope C cl fp) tg (DG Γ2 is g) ∧ PTs (blkX X s H scope C cl fp) ifs (DT Γ2 t) ∧ PE (blkX X s H scope C cl fp) elt (DE Γ2 e)) (hs : ∀ x, foldedSetIterable iter X.env x = pure x := by intro _; rfl) :
    PS X (.Assign [.Name y py] (.ListComp elt [⟨tg, iter, ifs, 0⟩] scope pos) spos) (tAsg (DF Γ (eLc (own.map (·.2)) fi g t e)) (gName i)) := by
  have hb' := fun s H C cl fp (j : Addr × HO) => hb s H C cl fp (Γ.guard j.1 j.2) ⟨hx.k, hx.m⟩ rfl takes0
  refine PS.imp (ps_setLc (pos := pos) hc hN hy hyl hsw hi ok (fun s H C cl fp => PG.any fun j => (hb' s H C cl fp j).1) (fun s H C cl fp => PTs.any fun j => (hb' s H C cl fp j).2.1) (fun s H C cl fp => PE.any fun j => (hb' s H C cl fp j).2.2) hs) ?_
  intro D σ H h
  exact f_lcI (fun _ _ _ h => h) hp his (fun D o v σ H Q h => ⟨(D, o), h⟩) (fun D o σ H Q h => ⟨(D, o), h⟩) (fun D o σ H Q h => ⟨(D, o), h⟩) σ H _ h
end
theorem asgF {i : Nat} {st : Stmt} {f : EF} (h : PS X st (tAsg (DF Γ f) (gName i))) : PS X st (tAsg (DE Γ f) (gName i)) := PS.imp h fun D σ H ⟨G, ρ, ok, q⟩ => by
  refine ⟨G, ρ, ok, ?_⟩
  cases hf : f ρ with
  | ok p ρ' =>
    rw [hf] at q
    exact fun a o G' H' h1 h2 h3 h4 h5 h6 h7 => q _ (upd G' a o) H' (h1.trans (Ex.new h4)) (h2.addG h3 h4 h5 h7) (h6.frz h4)
  | exc c fs ρ' => rw [hf] at q; exact q
  | bad => rw [hf] at q; exact q
end
/-! the law's end -/
theorem noexc {P : Program} {w : World} {K : PySem.W.Frag} {mg : Str → Option Value} {base : Heap} {k : Nat} {f : Addr} {fd : FuncData} {ps : List Str} {sp : Sp} (F : FnOk P w K mg base (L2.CX P w) k f fd ps sp) :
    FnOk P w K mg base CX0 k f fd ps (fun vs H Q _ => sp vs H Q fun _ _ _ => False) := by
  refine ⟨fun vs H Q E h => F.len vs H Q _ h, fun A outer s H args us vs Q E hr e0 hb hv h => ?_⟩
  refine codeAny_mono (F.run A outer s H args us vs Q _ hr e0 hb hv h) fun r s' hq => ?_
  cases r with
  | error e =>
    obtain ⟨_, _, _, _, _, _, _, _, _, _, _, _, z⟩ := hq
    exact z.elim
  | ok fl => cases fl <;> exact hq
theorem scriptRep {K : PySem.W.Frag} {mg : Str → Option Value} {H : Hp} {a : Addr} {ns : List Int} (h : SqL K H a (ns.map V.int)) : Rep K mg H (.ref a) (.scr (ns.map PV.int)) := by
  refine .scr h ?_
  clear h
  induction ns with
  | nil => exact .nil
  | cons n ns ih => exact .cons (.int n) ih
theorem law_sp {K : PySem.W.Frag} {mg : Str → Option Value} {F : FF} {H : Hp} {a : Addr} {ns : List Int} (h : SqL K H a (ns.map V.int)) (hF : F [.scr (ns.map PV.int)] = .ret (.bl true) []) :
    spF K mg [false] F [.ref a] H (fun v _ => v = .bl true) (fun _ _ _ => False) := by
  refine ⟨H, H, [.scr (ns.map PV.int)], rfl, rfl, ⟨rfl, Ex.refl H, Ex.refl H, Ex.refl H, fun _ _ => rfl, fun i b hi => ?_, fun i p hi => ?_, fun i p hi => ?_, fun i j p q b _ hi => ?_⟩, ?_⟩
  · have hi' : parOf [false] [.ref a] i = some b := hi
    unfold parOf at hi'
    split at hi'
    · rename_i h1 _
      cases i <;> simp at h1
    · cases hi'
  · obtain ⟨m, p', h1, h2, h3⟩ := slotsOf_get hi
    cases i with
    | zero =>
      simp at h1 h2
      subst h1 h2
      cases h3
      exact ⟨.ref a, rfl, scriptRep h⟩
    | succ i => simp at h1
  · obtain ⟨m, p', h1, h2, h3⟩ := slotsOf_get hi
    cases i with
    | zero => simp at h1; subst h1; cases h3
    | succ i => simp at h1
  · obtain ⟨m, p', h1, h2, h3⟩ := slotsOf_get hi
    cases i with
    | zero => simp at h1; subst h1; cases h3
    | succ i => simp at h1
  · rw [hF]
    intro v σ' G' H' ρ' _ _ _ r
    cases r; rfl
end PL
end

section
set_option Elab.async false
set_option linter.all false
set_option maxRecDepth 100000
set_option maxHeartbeats 4000000
set_option autoImplicit false
namespace PL
open PySem PySem.Spec PyProof.Rows L2
/-! ### the head's facts -/
def SaysX (fa : List He.Fa) (fn : List He.DefD) (ex : PySem.W.Frag → Bool) (K : PySem.W.Frag) : Prop := He.SaysD fa fn K ∧ ex K = true
def obsX (n : Nat) (fa : List He.Fa) (fn : List He.DefD) (ex : PySem.W.Frag → Bool) (g : Addr → Option Obj) : He.AlD × Bool := (fun K => (He.obsD fa fn K, ex K)) (He.frG g (He.asD g n))
def hookX (n : Nat) (fa : List He.Fa) (fn : List He.DefD) (ex : PySem.W.Frag → Bool) : PySem.W.Hook where
  α := He.AlD × Bool
  obs := fun s => obsX n fa fn ex s.heap.get?
  val := fun _ => (He.valD fn, true)
  says := fun _ h => ∃ K : PySem.W.Frag, K.In h ∧ SaysX fa fn ex K
  of := fun _ s e => ⟨He.frG s.heap.get? (He.asD s.heap.get? n), He.frG_in, congrArg (fun z : He.AlD × Bool => z.1) e, congrArg (fun z : He.AlD × Bool => z.2) e⟩
  keeps := fun _ _ _ ⟨K, hK, c⟩ k => ⟨K, PySem.W.Frag.In.keeps hK k, c⟩
theorem obsX_eq {n : Nat} {fa : List He.Fa} {fn : List He.DefD} {ex : PySem.W.Frag → Bool} {g : Addr → Option Obj} {s : Shared} (h : ∀ a, g a = s.heap.get? a) : obsX n fa fn ex g = (hookX n fa fn ex).obs s := by
  have e : g = s.heap.get? := funext h
  rw [e] <;> rfl
/-! a class of errors -/
def oexB (K : PySem.W.Frag) (C : Addr) : Bool := match K.lookup C with
  | some ⟨.type "type", _, .cls cd, sl⟩ => (match cd.mro, sl.toList with
    | .ref C' :: bm, [_, _, _, _, some (.builtin n), _] => decide (C' = C) && (decide (n = "ValueError.__new__") && (!cd.hasDel && (cd.hasDict && PySem.HandSPX.refsVE bm)))
    | _, _ => false)
  | _ => false
theorem oexB_ok {K : PySem.W.Frag} {C : Addr} (q : oexB K C = true) : ∃ nm q N bs bm sn sub ab col dd k0 k1 k2 k3 k5, K.lookup C = some (excClassObj nm q C N bs bm true sn sub ab col dd k0 k1 k2 k3 k5 "ValueError.__new__") ∧ PySem.HandSPX.refsVE bm = true := by
  unfold oexB at q
  split at q
  · rename_i dd cd sl ho
    split at q
    · rename_i C' bm k0 k1 k2 k3 n k5 hm hs
      obtain ⟨q1, q⟩ := Bool.and_eq_true_iff.mp q
      obtain ⟨q2, q⟩ := Bool.and_eq_true_iff.mp q
      obtain ⟨q3, q⟩ := Bool.and_eq_true_iff.mp q
      obtain ⟨q4, q5⟩ := Bool.and_eq_true_iff.mp q
      have e1 := of_decide_eq_true q1
      have e2 := of_decide_eq_true q2
      subst e1 e2
      obtain ⟨nm, bs, mro, ns, qn, hd, sn, sub, ab, col, del⟩ := cd
      dsimp only at hm q3 q4
      have q3' : del = false := by simpa using q3
      subst hm q3' q4
      have hsl : sl = #[k0, k1, k2, k3, some (.builtin "ValueError.__new__"), k5] := by
        obtain ⟨l⟩ := sl
        simp only at hs
        rw [hs]
      subst hsl
      exact ⟨nm, qn, ns, bs, bm, sn, sub, ab, col, dd, k0, k1, k2, k3, k5, ho, q5⟩
    · cases q
  · cases q
def exB (c : Str) (ns : List Str) (K : PySem.W.Frag) : Bool :=
  oexB K (He.ga K c) && (He.eqO (PySem.W.nsIn K mainGlobals c) (some (some (.ref (He.ga K c)))) && (He.eqO (PySem.W.findIn K (.ref (He.ga K c)) "__setattr__") (some (some (.builtin "object.__setattr__"))) &&
  (decide (PySem.W.subIn K (.ref (He.ga K c)) (.type "BaseException") = some true) && (decide (PySem.W.typeIn K (.ref (He.ga K c)) = some (.type "type")) && (PySem.W.keepIn K (.ref (He.ga K c)) &&
  (He.eqO (PySem.W.findIn K (.ref (He.ga K c)) "__init__") (some (some (.ref (He.ma K (He.ga K c) "__init__")))) && (decide (PySem.W.typeIn K (.ref (He.ma K (He.ga K c) "__init__")) = some (.type "function")) &&
  (xfB K (He.ga K c) && ns.all fun f => He.eqO (PySem.W.findIn K (.ref (He.ga K c)) f) (some none)))))))))
structure ExF (K : PySem.W.Frag) (c : Str) (ns : List Str) : Prop where
  T : OexC K (He.ga K c)
  gC : PySem.W.nsIn K mainGlobals c = some (some (.ref (He.ga K c)))
  iC : PySem.W.findIn K (.ref (He.ga K c)) "__init__" = some (some (.ref (He.ma K (He.ga K c) "__init__")))
  tI : PySem.W.typeIn K (.ref (He.ma K (He.ga K c) "__init__")) = some (.type "function")
  xf : XfC K (He.ga K c)
  no : ∀ f ∈ ns, PySem.W.findIn K (.ref (He.ga K c)) f = some none
theorem exB_ok {c : Str} {ns : List Str} {K : PySem.W.Frag} (h : exB c ns K = true) : ExF K c ns := by
  unfold exB at h
  obtain ⟨h1, h⟩ := Bool.and_eq_true_iff.mp h
  obtain ⟨h2, h⟩ := Bool.and_eq_true_iff.mp h
  obtain ⟨h3, h⟩ := Bool.and_eq_true_iff.mp h
  obtain ⟨h4, h⟩ := Bool.and_eq_true_iff.mp h
  obtain ⟨h5, h⟩ := Bool.and_eq_true_iff.mp h
  obtain ⟨h6, h⟩ := Bool.and_eq_true_iff.mp h
  obtain ⟨h7, h⟩ := Bool.and_eq_true_iff.mp h
  obtain ⟨h8, h⟩ := Bool.and_eq_true_iff.mp h
  obtain ⟨h9, h10⟩ := Bool.and_eq_true_iff.mp h
  exact ⟨⟨oexB_ok h1, He.eqO_ok h3, of_decide_eq_true h4, of_decide_eq_true h5, h6⟩, He.eqO_ok h2, He.eqO_ok h7, of_decide_eq_true h8, xfB_ok h9, fun f hf => He.eqO_ok (List.all_eq_true.mp h10 f hf)⟩
/-! a name for a built-in function -/
def bltB (x : Str) (id : String) (K : PySem.W.Frag) : Bool := He.eqO (PySem.W.nsIn K mainGlobals x) (some (some (.builtin id)))
theorem bltB_ok {x : Str} {id : String} {K : PySem.W.Frag} {h : Heap} {mg : Str → Option Value} (X : K.In h) (G : h.Ns mainGlobals mg) (c : bltB x id K = true) : mg x = some (.builtin id) := PySem.W.mg_of X G (He.eqO_ok c)
/-! constants -/
theorem constI {x : Str} {i : Int} {K : PySem.W.Frag} {h : Heap} {mg : Str → Option Value} (X : K.In h) (G : h.Ns mainGlobals mg) (c : (He.Fa.int x i).ok K = true) : Const K mg x (.int i) := by
  obtain ⟨t, e⟩ := He.int_ok X G c
  exact ⟨_, .int i, e, ⟨t, rfl⟩, fun _ => .int i⟩
theorem constT2 {x : Str} {i j : Int} {K : PySem.W.Frag} {h : Heap} {mg : Str → Option Value} (X : K.In h) (G : h.Ns mainGlobals mg) (g : (He.Fa.glo x).ok K = true) (c : He.tupB K x [.int i, .int j] = true) : Const K mg x (.tup [.int i, .int j]) :=
  ⟨_, .ref (He.ga K x), He.glo_ok X G g, rfl, fun G' => .tup (He.tupB_ok c G') (.cons (.int i) (.cons (.int j) .nil))⟩
/-! a def of which nothing is told -/
theorem fn_bad {P : Program} {w : World} {K : PySem.W.Frag} {mg : Str → Option Value} {base : Heap} {k : Nat} {f : Addr} {fd : FuncData} {ps : List Str} {ms : List Bool} (hl : ps.length = ms.length) : FnOk P w K mg base (L2.CX P w) k f fd ps (spF K mg ms fun _ => .bad) :=
  ⟨fun vs H Q E ⟨_, _, _, h1, _⟩ => by rw [h1, hl], fun A outer s H args us vs Q E hr e0 hb hv ⟨_, _, _, _, _, _, q⟩ => q.elim⟩
/-! binding with keywords over defaults -/
section
variable {K : PySem.W.Frag} {x qual : Str} {params : Arguments} {body : List Stmt} {scope : Scope} {dvs : List V} {kws : List (Str × V)} {f : Addr} {fd : FuncData} {ps : List Str}
theorem bindsAll (F : FunD K x qual params body scope dvs kws f fd) (hd : dvs ≠ []) (h : ∀ (T : Addr) (kV doc pm : Value) (an : Option Addr) (cdv ct : Value) (us its : List Value), us.length = ps.length → its.length = dvs.length →
      ∃ k, bindArgs (PySem.W.fnOf x qual params body scope (.ref T) kV doc pm an cdv ct) ⟨us, []⟩ = seqItems? (.ref T) >>= k ∧ k (some its.toArray) = pure (ps.zip us)) : Binds K fd ps [] := by
  obtain ⟨ds, h1, h2⟩ := FunD.binds1 (ps := ps) F ps.length dvs.length hd (by omega) (fun T kV doc pm an cdv ct us its l1 l2 => by
    obtain ⟨k, e1, e2⟩ := h T kV doc pm an cdv ct us its l1 l2
    refine ⟨k, e1, ?_⟩
    rw [e2, ← l2, List.drop_length, List.append_nil])
  rw [List.drop_length] at h1
  cases h1
  exact h2
/-- n values, then the defaults from a on, b of them, then the keyword's -/
theorem kb1 (F : FunD K x qual params body scope dvs kws f fd) (n a b : Nat) (ks : List Str) (hd : dvs ≠ [])
    (h : ∀ (T : Addr) (kV doc pm : Value) (an : Option Addr) (cdv ct : Value) (us its ws : List Value), us.length = n → its.length = dvs.length → ws.length = ks.length →
      ∃ k, bindArgs (PySem.W.fnOf x qual params body scope (.ref T) kV doc pm an cdv ct) ⟨us, ks.zip ws⟩ = seqItems? (.ref T) >>= k ∧ k (some its.toArray) = pure (ps.zip (us ++ ((its.drop a).take b ++ ws)))) :
    ∃ g, KBn K fd ps n ks g (fun vs zs => vs ++ ((dvs.drop a).take b ++ zs)) := by
  obtain ⟨oc, od, dV, kV, doc, pm, an, cdv, ct, osl, rfl, lk, hcd, hD, hK⟩ := F.ex
  rcases hD with ⟨e, _⟩ | ⟨_, T, o, its, m, rfl, lT, oT, rT⟩
  · exact absurd e hd
  · refine ⟨fun us ws => us ++ ((its.drop a).take b ++ ws), fun s us ws X l1 l2 => ?_, fun r1 r2 => r1.append (((rT.drop a).take b).append r2)⟩
    obtain ⟨k, e1, e2⟩ := h T kV doc pm an cdv ct us its ws l1 rT.length.symm l2
    refine BindsTo.of_looks fun M => ?_
    rw [e1]
    exact looks_items X lT oT (.of_pure e2)
end
end PL
end

section
set_option Elab.async false
set_option linter.all false
set_option maxRecDepth 100000
set_option maxHeartbeats 4000000
set_option autoImplicit false
namespace PL
open PySem PySem.Spec PyProof.Rows L2
section
variable {env : Env} {es : List Expr}
theorem star_Name {x : Str} {p : Pos} : starEach (.Name x p :: es) env = (false, eval (.Name x p) env) :: starEach es env := rfl
theorem star_Constant {c : PySem.Const} {k : Nat} {p : Pos} : starEach (.Constant c k p :: es) env = (false, eval (.Constant c k p) env) :: starEach es env := rfl
theorem star_BinOp {a b : Expr} {o : Operator} {p : Pos} : starEach (.BinOp a o b p :: es) env = (false, eval (.BinOp a o b p) env) :: starEach es env := rfl
theorem star_UnaryOp {a : Expr} {o : UnaryOp} {p : Pos} : starEach (.UnaryOp o a p :: es) env = (false, eval (.UnaryOp o a p) env) :: starEach es env := rfl
theorem star_BoolOp {a : List Expr} {o : BoolOp} {p : Pos} : starEach (.BoolOp o a p :: es) env = (false, eval (.BoolOp o a p) env) :: starEach es env := rfl
theorem star_Compare {a : Expr} {o : List CmpOp} {b : List Expr} {p : Pos} : starEach (.Compare a o b p :: es) env = (false, eval (.Compare a o b p) env) :: starEach es env := rfl
theorem star_Call {a : Expr} {o : List Expr} {b : List Keyword} {p : Pos} : starEach (.Call a o b p :: es) env = (false, eval (.Call a o b p) env) :: starEach es env := rfl
theorem star_IfExp {a b c : Expr} {p : Pos} : starEach (.IfExp a b c p :: es) env = (false, eval (.IfExp a b c p) env) :: starEach es env := rfl
theorem star_Attribute {a : Expr} {x : Str} {p : Pos} : starEach (.Attribute a x p :: es) env = (false, eval (.Attribute a x p) env) :: starEach es env := rfl
theorem star_Subscript {a b : Expr} {p : Pos} : starEach (.Subscript a b p :: es) env = (false, eval (.Subscript a b p) env) :: starEach es env := rfl
theorem star_List {a : List Expr} {p : Pos} : starEach (.List a p :: es) env = (false, eval (.List a p) env) :: starEach es env := rfl
theorem star_Tuple {a : List Expr} {k : Nat} {p : Pos} : starEach (.Tuple a k p :: es) env = (false, eval (.Tuple a k p) env) :: starEach es env := rfl
theorem star_JoinedStr {a : List Expr} {p : Pos} : starEach (.JoinedStr a p :: es) env = (false, eval (.JoinedStr a p) env) :: starEach es env := rfl
theorem star_ListComp {a : Expr} {g : List Comprehension} {sc : Scope} {p : Pos} : starEach (.ListComp a g sc p :: es) env = (false, eval (.ListComp a g sc p) env) :: starEach es env := rfl
end
theorem units65 {k : Nat} {A : Around} (hr : Room k A) : A.units + 65 < cLine := by have := hr.un; omega
theorem ownNot (vs : List Nat) (ms : List Bool) {j : Nat} (hj : j ∈ vs) (h : ∀ v ∈ vs, ms[v]? ≠ some true) : ms[j]? ≠ some true := h j hj
theorem blkP {Γ Γ2 : Gam} {p : Nat → Prop} {α : Prop} (hΓ : Γ2.P = Γ.P) (hP : ∀ i : Nat, p i → Γ.P i = none) (k : (∀ i : Nat, p i → Γ2.P i = none) → α) : α := k (by rw [hΓ]; exact hP)
theorem tryP {Γ Γ2 : Gam} {p : Nat → Prop} {α : Prop} (hΓ : Γ2.P = Γ.P) (hP : ∀ i : Nat, p i → Γ.P i = none) (k : (∀ i : Nat, p i → Γ2.P i = none) → α) : α := k (by rw [hΓ]; exact hP)
theorem suiteP {Γ Γ2 : Gam} {i : Nat} {p : Nat → Prop} {α : Prop} (hPo : ∀ j, j ≠ i → Γ2.P j = Γ.P j) (hP : ∀ i : Nat, p i → Γ.P i = none) (k : (∀ j : Nat, (j ≠ i ∧ p j) → Γ2.P j = none) → α) : α := k fun j hj => (hPo j hj.1).trans (hP j hj.2)
def onlyC (c : Str) : Str → Option Bool := fun d => if d = c then some true else none
theorem onlyM {K : PySem.W.Frag} {mg : Str → Option Value} {c : Str} {C0 : Addr} (gm : mg c = some (.ref C0)) (m : PySem.W.exmOne K (.ref C0) (.ref C0) = some true) : ∀ c' C b, onlyC c c' = some b → mg c' = some (.ref C) → PySem.W.exmOne K (.ref C) (.ref C0) = some b := by
  intro c' C b h1 h2
  unfold onlyC at h1
  split at h1
  · rename_i e
    subst e
    cases h1
    rw [gm] at h2
    cases h2
    exact m
  · cases h1
theorem onlyD {mg : Str → Option Value} {c c' : Str} {C C0 : Addr} {α : Prop} (h1 : onlyC c c' = some true) (h2 : mg c' = some (.ref C)) (gm : mg c = some (.ref C0)) (k : C = C0 → α) : α := by
  unfold onlyC at h1
  split at h1
  · rename_i e
    subst e
    rw [gm] at h2
    cases h2
    exact k rfl
  · cases h1
section
variable {X : Cx} {Γ : Gam} {pos : Pos}
theorem v_eq {a b : Expr} {fa fb : EF} (hx : OkX X Γ) (hu : X.A.units + 64 < cLine) (ha : PE X a (DE Γ fa)) (hb : PE X b (DE Γ fb)) (hm : behindInMarks .Eq b = false) : PE X (.Compare a [.Eq] [b] pos) (DE Γ (eOp pEq fa fb)) := by
  have h := pe_cmpR (pos := pos) (op_eqD (X := X) hu) ha hb hm
  rw [hx.k] at h
  exact PE.imp h (opImp s_eqD)
theorem v_ne {a b : Expr} {fa fb : EF} (hx : OkX X Γ) (hu : X.A.units + 64 < cLine) (ha : PE X a (DE Γ fa)) (hb : PE X b (DE Γ fb)) (hm : behindInMarks .NotEq b = false) : PE X (.Compare a [.NotEq] [b] pos) (DE Γ (eOp pNe fa fb)) := by
  have h := pe_cmpR (pos := pos) (op_neD (X := X) hu) ha hb hm
  rw [hx.k] at h
  exact PE.imp h (opImp s_neD)
theorem v_in {a b : Expr} {fa fb : EF} (hx : OkX X Γ) (hu : X.A.units + 65 < cLine) (ha : PE X a (DE Γ fa)) (hb : PE X b (DE Γ fb)) (hm : behindInMarks .In b = false) : PE X (.Compare a [.In] [b] pos) (DE Γ (eOp pIn fa fb)) := by
  have h := pe_cmpR (pos := pos) (op_inD (X := X) hu) ha hb hm
  rw [hx.k] at h
  exact PE.imp h (opImp s_in)
theorem v_notin {a b : Expr} {fa fb : EF} (hx : OkX X Γ) (hu : X.A.units + 65 < cLine) (ha : PE X a (DE Γ fa)) (hb : PE X b (DE Γ fb)) (hm : behindInMarks .NotIn b = false) : PE X (.Compare a [.NotIn] [b] pos) (DE Γ (eOp pNotIn fa fb)) := by
  have h := pe_cmpR (pos := pos) (op_notInD (X := X) hu) ha hb hm
  rw [hx.k] at h
  exact PE.imp h (opImp s_notIn)
/-! comparisons as tests -/
def tBl (f : EF) : TF := fun ρ => (f ρ).bind fun p ρ1 => match p with
  | .bl b => .ok b ρ1
  | _ => .bad
theorem t_bl {e : Expr} {t : TE} {f : EF} (h : PT X e (tTest t)) (i : ∀ σ H Q, DE Γ f σ H Q → t σ H Q) : PT X e (DT Γ (tBl f)) :=
  PT.imp h fun σ H Q ⟨G, ρ, ok, q⟩ => i σ H _ (DX.bindI ok q fun x G1 H1 p ρ1 e1 ok1 r1 h1 => by
    cases r1 with
    | bl b => exact ⟨b, rfl, h1 b G1 H1 (Ex.refl G1) ok1 rfl⟩
    | _ => exact h1.elim)
theorem t_cmp {a b : Expr} {fa fb : EF} {op : CmpOp} {r : R2} {g : PV → PV → Option PV} (ho : OpR X (compareOp op) r) (os : OpS Γ r g) (ha : PE X a (DE Γ fa)) (hb : PE X b (DE Γ fb)) (hm : behindInMarks op b = false) : PT X (.Compare a [op] [b] pos) (DT Γ (tBl (eOp g fa fb))) :=
  t_bl (pt_cmpR ho ha hb hm) (opImp os)
theorem t_eq {a b : Expr} {fa fb : EF} (hx : OkX X Γ) (hu : X.A.units + 64 < cLine) (ha : PE X a (DE Γ fa)) (hb : PE X b (DE Γ fb)) (hm : behindInMarks .Eq b = false) : PT X (.Compare a [.Eq] [b] pos) (DT Γ (tBl (eOp pEq fa fb))) := by
  have h := pt_cmpR (pos := pos) (op_eqD (X := X) hu) ha hb hm
  rw [hx.k] at h
  exact t_bl h (opImp s_eqD)
theorem t_ne {a b : Expr} {fa fb : EF} (hx : OkX X Γ) (hu : X.A.units + 64 < cLine) (ha : PE X a (DE Γ fa)) (hb : PE X b (DE Γ fb)) (hm : behindInMarks .NotEq b = false) : PT X (.Compare a [.NotEq] [b] pos) (DT Γ (tBl (eOp pNe fa fb))) := by
  have h := pt_cmpR (pos := pos) (op_neD (X := X) hu) ha hb hm
  rw [hx.k] at h
  exact t_bl h (opImp s_neD)
theorem t_in {a b : Expr} {fa fb : EF} (hx : OkX X Γ) (hu : X.A.units + 65 < cLine) (ha : PE X a (DE Γ fa)) (hb : PE X b (DE Γ fb)) (hm : behindInMarks .In b = false) : PT X (.Compare a [.In] [b] pos) (DT Γ (tBl (eOp pIn fa fb))) := by
  have h := pt_cmpR (pos := pos) (op_inD (X := X) hu) ha hb hm
  rw [hx.k] at h
  exact t_bl h (opImp s_in)
theorem t_notin {a b : Expr} {fa fb : EF} (hx : OkX X Γ) (hu : X.A.units + 65 < cLine) (ha : PE X a (DE Γ fa)) (hb : PE X b (DE Γ fb)) (hm : behindInMarks .NotIn b = false) : PT X (.Compare a [.NotIn] [b] pos) (DT Γ (tBl (eOp pNotIn fa fb))) := by
  have h := pt_cmpR (pos := pos) (op_notInD (X := X) hu) ha hb hm
  rw [hx.k] at h
  exact t_bl h (opImp s_notIn)
theorem chainImp {fa fb fc : EF} {r r' : R2} {g g' : PV → PV → Option PV} (os : OpB Γ r g) (os' : OpS Γ r' g') : ∀ σ H Q, DE Γ (eChain g g' fa fb fc) σ H Q → tChain r r' (DE Γ fa) (DE Γ fb) (DE Γ fc) σ H Q := fun σ H Q ⟨G, ρ, ok, h⟩ => by
    refine DX.bindI ok h fun x G1 H1 p ρ1 e1 ok1 r1 h1 => ?_
    refine DX.bindI ok1 h1 fun y G2 H2 q ρ2 e2 ok2 r2 h2 => ?_
    cases hg : g p q with
    | none => rw [hg] at h2; exact h2.elim
    | some z =>
      rw [hg] at h2
      cases z with
      | bl k =>
        refine os G2 H2 x y p q k _ ok2.gH (r1.mono e2) r2 hg ⟨k, rfl, ?_⟩
        cases k with
        | true =>
          show DE Γ fc σ H2 _
          refine DX.bindI ok2 h2 fun w G3 H3 s ρ3 e3 ok3 r3 h3 => ?_
          cases hg' : g' q s with
          | none => rw [hg'] at h3; exact h3.elim
          | some z' =>
            rw [hg'] at h3
            exact os' G3 H3 y w q s z' Q ok3.gH (r2.mono e3) r3 hg' fun v G' H' gr rv => h3 v G' H' gr.gG (ok3.grow gr) rv
        | false =>
          show Q (.bl false) H2
          exact h2 _ G2 H2 (Ex.refl G2) ok2 (.bl false)
      | _ => exact h2.elim
theorem t_chain {e : Expr} {fa fb fc : EF} {r r' : R2} {g g' : PV → PV → Option PV} (os : OpB Γ r g) (os' : OpS Γ r' g') (h : PT X e (tTest (tChain r r' (DE Γ fa) (DE Γ fb) (DE Γ fc)))) : PT X e (DT Γ (tBl (eChain g g' fa fb fc))) := t_bl h (chainImp os os')
section
variable {x : Str} {p : Pos} {e : Expr} {es : List Expr} {fa : AF}
theorem v_len (hx : OkX X Γ) (hg : Gl X x) (hm : X.mg x = none) (hv : bootBuiltins x = some (.builtin "len")) (ha : PA X (e :: es) (DA Γ fa))
    (hn : x ≠ "__name__" := by decide) (hdb : (x == ("__debug__" : Str)) = false := by decide)
    (he : starEach (e :: es) X.env = (false, eval e X.env) :: starEach es X.env := by rfl) (hpl : (backTo pos (starEach es X.env)).any (·.1) = false := by rfl) : PE X (.Call (.Name x p) (e :: es) [] pos) (DE Γ (eCall pLen fa)) := by
  have h := call_len (X := X)
  rw [hx.k] at h
  exact v_callB h c_len hg hm hv ha hn hdb he hpl
theorem v_isi (hx : OkX X Γ) (hg : Gl X x) (hm : X.mg x = none) (hv : bootBuiltins x = some (.builtin "isinstance")) (ha : PA X (e :: es) (DA Γ fa))
    (hn : x ≠ "__name__" := by decide) (hdb : (x == ("__debug__" : Str)) = false := by decide)
    (he : starEach (e :: es) X.env = (false, eval e X.env) :: starEach es X.env := by rfl) (hpl : (backTo pos (starEach es X.env)).any (·.1) = false := by rfl) : PE X (.Call (.Name x p) (e :: es) [] pos) (DE Γ (eCall pIsi fa)) := by
  have h := call_isi (X := X)
  rw [hx.k] at h
  exact v_callB h c_isi hg hm hv ha hn hdb he hpl
theorem v_tupleC (hx : OkX X Γ) (hg : Gl X x) (hm : X.mg x = none) (hv : bootBuiltins x = some (.type "tuple")) (ha : PA X (e :: es) (DA Γ fa))
    (hn : x ≠ "__name__" := by decide) (hdb : (x == ("__debug__" : Str)) = false := by decide)
    (he : starEach (e :: es) X.env = (false, eval e X.env) :: starEach es X.env := by rfl) (hpl : (backTo pos (starEach es X.env)).any (·.1) = false := by rfl) : PE X (.Call (.Name x p) (e :: es) [] pos) (DE Γ (eCall pTuple fa)) := by
  have h := call_tuple_of (X := X)
  rw [hx.k] at h
  exact v_callTy h c_tuple hg hm hv ha hn hdb he hpl
end
end
section
variable {X : Cx} {Γ : Gam} {pos : Pos}
/-- f(e, k = v) -/
theorem v_callK1 {k : Nat} {x kw : Str} {nps : List Str} {ms : List Bool} {F : FF} {p kpos : Pos} {e ek : Expr} {fa fk : EF} {f : Addr} {fd : FuncData} (gP : List PV → List PV → List PV) (gV : List V → List V → List V) (hx : OkX X Γ)
    (ok : FnOk X.prog X.w X.K X.mg X.base (L2.CX X.prog X.w) k f fd nps (spF X.K X.mg ms F)) (gm : X.mg x = some (.ref f)) (kp : PySem.W.keepIn X.K (.ref f) = true) (hb : ∃ g, KBn X.K fd nps 1 [kw] g gV) (hd : ∀ G vs ps ws qs, Reps Γ.K Γ.mg G vs ps → Reps Γ.K Γ.mg G ws qs → Reps Γ.K Γ.mg G (gV vs ws) (gP ps qs))
    (hr : Room k X.A) (hg : Gl X x) (ha : PE X e (DE Γ fa)) (hk : PE X ek (DE Γ fk)) (hdb : (x == ("__debug__" : Str)) = false) (he : starEach [e] X.env = (false, eval e X.env) :: starEach [] X.env) :
    PE X (.Call (.Name x p) [e] [⟨some kw, ek, kpos⟩] pos) (DE Γ (eCallK ms 1 1 F gP (aCons fa aNil) (aCons fk aNil))) :=
  v_callK gP gV hx ok gm kp hb hd rfl hr hg (v_cons ha v_nil he) (k_cons hk k_nil) rfl rfl hdb he (by rw [he]; rfl)
end
end PL
end

section
set_option Elab.async false
set_option linter.all false
set_option maxRecDepth 100000
set_option maxHeartbeats 4000000
set_option autoImplicit false
namespace K01
open PySem PySem.Spec PyProof.Rows L2 PL
def B_is_whole : SF := sSeq (sIf (tOo (tNo (tTru (eCall pIsi (aCons (eVar 0) (aCons (eC (.atm (.ty "int"))) (aNil)))))) (tTru (eCall pIsi (aCons (eVar 0) (aCons (eC (.atm (.ty "bool"))) (aNil)))))) (sRet (eC (.bl false))) (sPass)) (sRet (eAnd (eOr (eOp pIs (eVar 1) (eC .non)) (eOp (pCmp fun i j => decide (j ≤ i)) (eVar 0) (eVar 1))) (eOr (eOp pIs (eVar 2) (eC .non)) (eOp (pCmp fun i j => decide (i ≤ j)) (eVar 0) (eVar 2)))))
def F_is_whole : FF := runF [false, false, false] 3 B_is_whole
def B_is_ratio : SF := sSeq (sIf (tOo (tNo (tTru (eCall pIsi (aCons (eVar 0) (aCons (eC (.atm (.ty "tuple"))) (aNil)))))) (tBl (eOp pNe (eCall pLen (aCons (eVar 0) (aNil))) (eC (.int 2))))) (sRet (eC (.bl false))) (sPass)) (sSeq (sAsgG (gTp 2 (gsC (gN 1) (gsC (gN 2) (gsN)))) (eVar 0)) (sRet (eAnd (eCallD [false, false, false] F_is_whole [PV.non, PV.non] (bVal (eVar 1) (bNil))) (eAnd (eCallD [false, false, false] F_is_whole [PV.non] (bVal (eVar 2) (bVal (eC (.int 1)) (bNil)))) (eOp pEq (eCall pGcd (aCons (eVar 1) (aCons (eVar 2) (aNil)))) (eC (.int 1)))))))
def F_is_ratio : FF := runF [false] 3 B_is_ratio
def B_is_within_bound : SF := sRet (eAnd (eCallF [false] F_is_ratio (bVal (eVar 0) (bNil))) (eAnd (eOp (pCmp fun i j => decide (i ≤ j)) (eCall pAbs (aCons (eOp pIx (eVar 0) (eC (.int 0))) (aNil))) (eVar 1)) (eOp (pCmp fun i j => decide (i ≤ j)) (eOp pIx (eVar 0) (eC (.int 1))) (eVar 1))))
def F_is_within_bound : FF := runF [false, false] 2 B_is_within_bound
def B_is_coordinate : SF := sRet (eCallF [false, false] F_is_within_bound (bVal (eVar 0) (bVal (eC (.int 1000000000000)) (bNil))))
def F_is_coordinate : FF := runF [false] 1 B_is_coordinate
def B_is_arm_size : SF := sRet (eAnd (eCallF [false] F_is_coordinate (bVal (eVar 0) (bNil))) (eOp (pCmp fun i j => decide (j < i)) (eOp pIx (eVar 0) (eC (.int 0))) (eC (.int 0))))
def F_is_arm_size : FF := runF [false] 1 B_is_arm_size
def B_is_weight : SF := sRet (eAnd (eCallF [false] F_is_coordinate (bVal (eVar 0) (bNil))) (eOp (pCmp fun i j => decide (j ≤ i)) (eOp pIx (eVar 0) (eC (.int 0))) (eC (.int 0))))
def F_is_weight : FF := runF [false] 1 B_is_weight
def B_is_factor : SF := sRet (eAnd (eCallF [false, false] F_is_within_bound (bVal (eVar 0) (bVal (eC (.int 1000000000000000000000000000000000000000000000000000000000000000000000000000000000000000000000000000000000000000000000000000000000000000000000000000000)) (bNil)))) (eOp (pCmp fun i j => decide (j < i)) (eOp pIx (eVar 0) (eC (.int 0))) (eC (.int 0))))
def F_is_factor : FF := runF [false] 1 B_is_factor
def B__in_lowest_terms : SF := sSeq (sAsg 2 (eCall pGcd (aCons (eVar 0) (aCons (eVar 1) (aNil))))) (sSeq (sIf (tBl (eOp (pCmp fun i j => decide (i < j)) (eVar 1) (eC (.int 0)))) (sAsg 2 (eUn pNeg (eVar 2))) (sPass)) (sRet (eTup (aCons (eOp pDiv (eVar 0) (eVar 2)) (aCons (eOp pDiv (eVar 1) (eVar 2)) (aNil))))))
def F__in_lowest_terms : FF := runF [false, false] 3 B__in_lowest_terms
def B_make_ratio : SF := sSeq (sIf (tNo (tTru (eCallD [false, false, false] F_is_whole [PV.non, PV.non] (bVal (eVar 0) (bNil))))) (sRaise "BadRatio" ["what"] (aCons (eC (.str "top")) (aNil))) (sPass)) (sSeq (sIf (tOo (tNo (tTru (eCallD [false, false, false] F_is_whole [PV.non, PV.non] (bVal (eVar 1) (bNil))))) (tBl (eOp pEq (eVar 1) (eC (.int 0))))) (sRaise "BadRatio" ["what"] (aCons (eC (.str "bottom")) (aNil))) (sPass)) (sRet (eCallF [false, false] F__in_lowest_terms (bVal (eVar 0) (bVal (eVar 1) (bNil))))))
def F_make_ratio : FF := runF [false, false] 2 B_make_ratio
def B_plus : SF := sRet (eCallF [false, false] F__in_lowest_terms (bVal (eOp pAddA (eOp pMul (eOp pIx (eVar 0) (eC (.int 0))) (eOp pIx (eVar 1) (eC (.int 1)))) (eOp pMul (eOp pIx (eVar 1) (eC (.int 0))) (eOp pIx (eVar 0) (eC (.int 1))))) (bVal (eOp pMul (eOp pIx (eVar 0) (eC (.int 1))) (eOp pIx (eVar 1) (eC (.int 1)))) (bNil))))
def F_plus : FF := runF [false, false] 2 B_plus
def B_minus : SF := sRet (eCallF [false, false] F__in_lowest_terms (bVal (eOp pSub (eOp pMul (eOp pIx (eVar 0) (eC (.int 0))) (eOp pIx (eVar 1) (eC (.int 1)))) (eOp pMul (eOp pIx (eVar 1) (eC (.int 0))) (eOp pIx (eVar 0) (eC (.int 1))))) (bVal (eOp pMul (eOp pIx (eVar 0) (eC (.int 1))) (eOp pIx (eVar 1) (eC (.int 1)))) (bNil))))
def F_minus : FF := runF [false, false] 2 B_minus
def B_times : SF := sRet (eCallF [false, false] F__in_lowest_terms (bVal (eOp pMul (eOp pIx (eVar 0) (eC (.int 0))) (eOp pIx (eVar 1) (eC (.int 0)))) (bVal (eOp pMul (eOp pIx (eVar 0) (eC (.int 1))) (eOp pIx (eVar 1) (eC (.int 1)))) (bNil))))
def F_times : FF := runF [false, false] 2 B_times
def B_over : SF := sSeq (sIf (tBl (eOp pEq (eOp pIx (eVar 1) (eC (.int 0))) (eC (.int 0)))) (sRaise "BadRatio" ["what"] (aCons (eC (.str "zero")) (aNil))) (sPass)) (sRet (eCallF [false, false] F__in_lowest_terms (bVal (eOp pMul (eOp pIx (eVar 0) (eC (.int 0))) (eOp pIx (eVar 1) (eC (.int 1)))) (bVal (eOp pMul (eOp pIx (eVar 0) (eC (.int 1))) (eOp pIx (eVar 1) (eC (.int 0)))) (bNil)))))
def F_over : FF := runF [false, false] 2 B_over
def B_negative : SF := sRet (eTup (aCons (eUn pNeg (eOp pIx (eVar 0) (eC (.int 0)))) (aCons (eOp pIx (eVar 0) (eC (.int 1))) (aNil))))
def F_negative : FF := runF [false] 1 B_negative
def B_compare : SF := sSeq (sAsg 2 (eOp pMul (eOp pIx (eVar 0) (eC (.int 0))) (eOp pIx (eVar 1) (eC (.int 1))))) (sSeq (sAsg 3 (eOp pMul (eOp pIx (eVar 1) (eC (.int 0))) (eOp pIx (eVar 0) (eC (.int 1))))) (sSeq (sIf (tBl (eOp (pCmp fun i j => decide (i < j)) (eVar 2) (eVar 3))) (sRet (eUn pNeg (eC (.int 1)))) (sPass)) (sRet (eIf (tBl (eOp (pCmp fun i j => decide (j < i)) (eVar 2) (eVar 3))) (eC (.int 1)) (eC (.int 0))))))
def F_compare : FF := runF [false, false] 4 B_compare
def B_sum_of : SF := sSeq (sAsg 1 (eC (.tup [.int 0, .int 1]))) (sSeq (sFor (iSeq (eVar 0)) (gN 2) (sAsg 1 (eCallF [false, false] F_plus (bVal (eVar 1) (bVal (eVar 2) (bNil)))))) (sRet (eVar 1)))
def F_sum_of : FF := runF [false] 3 B_sum_of
def B_least_of : SF := sSeq (sAsg 1 (eOp pIx (eVar 0) (eC (.int 0)))) (sSeq (sFor (iSeq (eVar 0)) (gN 2) (sIf (tBl (eOp (pCmp fun i j => decide (i < j)) (eCallF [false, false] F_compare (bVal (eVar 2) (bVal (eVar 1) (bNil)))) (eC (.int 0)))) (sAsg 1 (eVar 2)) (sPass))) (sRet (eVar 1)))
def F_least_of : FF := runF [false] 3 B_least_of
def B_greatest_of : SF := sSeq (sAsg 1 (eOp pIx (eVar 0) (eC (.int 0)))) (sSeq (sFor (iSeq (eVar 0)) (gN 2) (sIf (tBl (eOp (pCmp fun i j => decide (j < i)) (eCallF [false, false] F_compare (bVal (eVar 2) (bVal (eVar 1) (bNil)))) (eC (.int 0)))) (sAsg 1 (eVar 2)) (sPass))) (sRet (eVar 1)))
def F_greatest_of : FF := runF [false] 3 B_greatest_of
def B_floor_of : SF := sRet (eOp pDiv (eOp pIx (eVar 0) (eC (.int 0))) (eOp pIx (eVar 0) (eC (.int 1))))
def F_floor_of : FF := runF [false] 1 B_floor_of
def B_ratio_text : SF := sSeq (sAsgG (gTp 2 (gsC (gN 1) (gsC (gN 2) (gsN)))) (eVar 0)) (sRet (eIf (tBl (eOp pEq (eVar 2) (eC (.int 1)))) (eFmt (eVar 1)) (eJs [eFmt (eVar 1), eC (.str "/"), eFmt (eVar 2)] Str.empty)))
def F_ratio_text : FF := runF [false] 3 B_ratio_text
def B__law_hand : SF := sSeq (sAsg 1 (eOp pAddA (eCall pLen (aCons (eVar 0) (aNil))) (eC (.int 53)))) (sSeq (sAsgO 2 (eLst (aNil))) (sSeq (sFor (iSeq (eVar 0)) (gN 3) (sSeq (sAsg 1 (eOp pMod (eCall pInt (aCons (eOp pAddA (eOp pMul (eVar 1) (eC (.int 1021))) (eCall pInt (aCons (eVar 3) (aNil)))) (aNil))) (eC (.int 2147483587)))) (sApp 2 (eCall pAbs (aCons (eCall pInt (aCons (eVar 3) (aNil))) (aNil)))))) (sRetO (eLst (aCons (eVar 2) (aCons (eC (.int 0)) (aCons (eC (.int 0)) (aCons (eVar 1) (aNil)))))))))
def F__law_hand : FF := runF [false] 4 B__law_hand
def B__law_mixed : SF := sSeq (sAsg 2 (eOp pMod (eCall pInt (aCons (eOp pAddA (eOp pAddA (eOp pMul (eVar 0) (eC (.int 69621))) (eOp pMul (eVar 1) (eC (.int 7907)))) (eC (.int 40503))) (aNil))) (eC (.int 2147483647)))) (sSeq (sAsg 3 (eOp pMod (eCall pInt (aCons (eOp pAddA (eOp pAddA (eOp pMul (eVar 2) (eVar 2)) (eOp pMul (eVar 1) (eC (.int 104723)))) (eOp pDiv (eVar 2) (eC (.int 131)))) (aNil))) (eC (.int 2147483629)))) (sRet (eOp pDiv (eCall pInt (aCons (eOp pMod (eCall pInt (aCons (eOp pAddA (eOp pMul (eVar 3) (eC (.int 48271))) (eOp pDiv (eVar 2) (eC (.int 7)))) (aNil))) (eC (.int 2147483579))) (aNil))) (eC (.int 32)))))
def F__law_mixed : FF := runF [false, false] 4 B__law_mixed
def B__law_take : SF := sSeq (sIf (tAn (tBl (eOp pEq (eIxS 0 (eC (.int 2))) (eC (.int 0)))) (tBl (eOp (pCmp fun i j => decide (i < j)) (eIxS 0 (eC (.int 1))) (eCall pLen (aCons (eIxS 0 (eC (.int 0))) (aNil)))))) (sSeq (sAsg 2 (eOp pIx (eIxS 0 (eC (.int 0))) (eIxS 0 (eC (.int 1))))) (sSeq (sSetI 0 (eOp pAddA (eIxS 0 (eC (.int 1))) (eC (.int 1))) (eC (.int 1))) (sSeq (sIf (tBl (eOp (pCmp fun i j => decide (i < j)) (eVar 2) (eOp pPow (eC (.int 10)) (eC (.int 18))))) (sRet (eOp pMod (eCall pInt (aCons (eCallF [false, false] F__law_mixed (bVal (eOp pMod (eCall pInt (aCons (eVar 2) (aNil))) (eC (.int 2147483647))) (bVal (eIxS 0 (eC (.int 1))) (bNil)))) (aNil))) (eVar 1))) (sPass)) (sSetI 0 (eVar 2) (eC (.int 2)))))) (sPass)) (sSeq (sIf (tBl (eOp (pCmp fun i j => decide (j < i)) (eIxS 0 (eC (.int 2))) (eC (.int 0)))) (sSeq (sAsg 3 (eIxS 0 (eC (.int 2)))) (sSeq (sSetI 0 (eOp pDiv (eCall pInt (aCons (eVar 3) (aNil))) (eVar 1)) (eC (.int 2))) (sRet (eOp pMod (eCall pInt (aCons (eVar 3) (aNil))) (eVar 1))))) (sPass)) (sSeq (sSetI 0 (eOp pMod (eCall pInt (aCons (eOp pAddA (eIxS 0 (eC (.int 3))) (eC (.int 1))) (aNil))) (eC (.int 2147483587))) (eC (.int 3))) (sRet (eOp pMod (eCall pInt (aCons (eCallF [false, false] F__law_mixed (bVal (eIxS 0 (eC (.int 3))) (bVal (eIxS 0 (eC (.int 1))) (bNil)))) (aNil))) (eVar 1)))))
def F__law_take : FF := runF [true, false] 4 B__law_take
def B__law_gcd : SF := sSeq (sPar 0 1 (aCons (eCall pAbs (aCons (eVar 0) (aNil))) (aCons (eCall pAbs (aCons (eVar 1) (aNil))) (aNil)))) (sSeq (sWhile (fun (ρ : PEnv) => match ρ[1]? with | some (Slot.v (PV.int j)) => j.natAbs + 1 | _ => 0) (tTru (eVar 1)) (sPar 0 1 (aCons (eVar 1) (aCons (eOp pMod (eCall pInt (aCons (eVar 0) (aNil))) (eVar 1)) (aNil))))) (sRet (eVar 0)))
def F__law_gcd : FF := runF [false, false] 2 B__law_gcd
def B__law_ratio : SF := sSeq (sAsg 2 (eCallF [false, false] F__law_gcd (bVal (eVar 0) (bVal (eVar 1) (bNil))))) (sSeq (sIf (tBl (eOp (pCmp fun i j => decide (i < j)) (eVar 1) (eC (.int 0)))) (sAsg 2 (eUn pNeg (eVar 2))) (sPass)) (sRet (eTup (aCons (eOp pDiv (eVar 0) (eVar 2)) (aCons (eOp pDiv (eVar 1) (eVar 2)) (aNil))))))
def F__law_ratio : FF := runF [false, false] 3 B__law_ratio
def B__law_plus : SF := sRet (eCallF [false, false] F__law_ratio (bVal (eOp pAddA (eOp pMul (eOp pIx (eVar 0) (eC (.int 0))) (eOp pIx (eVar 1) (eC (.int 1)))) (eOp pMul (eOp pIx (eVar 1) (eC (.int 0))) (eOp pIx (eVar 0) (eC (.int 1))))) (bVal (eOp pMul (eOp pIx (eVar 0) (eC (.int 1))) (eOp pIx (eVar 1) (eC (.int 1)))) (bNil))))
def F__law_plus : FF := runF [false, false] 2 B__law_plus
def B__law_less : SF := sRet (eOp (pCmp fun i j => decide (i < j)) (eOp pMul (eOp pIx (eVar 0) (eC (.int 0))) (eOp pIx (eVar 1) (eC (.int 1)))) (eOp pMul (eOp pIx (eVar 1) (eC (.int 0))) (eOp pIx (eVar 0) (eC (.int 1)))))
def F__law_less : FF := runF [false, false] 2 B__law_less
def B__law_sum : SF := sSeq (sAsg 1 (eTup (aCons (eC (.int 0)) (aCons (eC (.int 1)) (aNil))))) (sSeq (sFor (iSeq (eVar 0)) (gN 2) (sAsg 1 (eCallF [false, false] F__law_plus (bVal (eVar 1) (bVal (eVar 2) (bNil)))))) (sRet (eVar 1)))
def F__law_sum : FF := runF [false] 3 B__law_sum
def B__law_tuples (self : FF) : SF := sSeq (sIf (tTru (eCall pIsi (aCons (eVar 0) (aCons (eC (.atm (.ty "tuple"))) (aNil))))) (sRet (eNot (eLc [1] (iSeq (eVar 0)) (gN 1) (tNo (tTru (eCallF [false] self (bVal (eVar 1) (bNil))))) (eC (.int 1))))) (sPass)) (sRet (eAnd (eCall pIsi (aCons (eVar 0) (aCons (eC (.atm (.ty "int"))) (aNil)))) (eNot (eCall pIsi (aCons (eVar 0) (aCons (eC (.atm (.ty "bool"))) (aNil)))))))
def R__law_tuples : Nat → FF
  | 0 => fun _ => .bad
  | n + 1 => runF [false] 2 (B__law_tuples (R__law_tuples n))
abbrev F__law_tuples : FF := R__law_tuples 4
def B__law_number : SF := sSeq (sAsg 1 (eCallF [true, false] F__law_take (bOwn 0 (bVal (eC (.int 9)) (bNil))))) (sSeq (sIf (tBl (eOp (pCmp fun i j => decide (i < j)) (eVar 1) (eC (.int 6)))) (sRet (eOp pSub (eCallF [true, false] F__law_take (bOwn 0 (bVal (eC (.int 25)) (bNil)))) (eC (.int 12)))) (sPass)) (sSeq (sAsg 2 (eC (.int 0))) (sSeq (sFor (iArg rng1 (aCons (eIf (tBl (eOp (pCmp fun i j => decide (i < j)) (eVar 1) (eC (.int 8)))) (eC (.int 1)) (eC (.int 4))) (aNil))) (gN 3) (sAsg 2 (eOp pAddA (eOp pMul (eVar 2) (eOp pPow (eC (.int 10)) (eC (.int 9)))) (eCallF [true, false] F__law_take (bOwn 0 (bVal (eOp pPow (eC (.int 10)) (eC (.int 9))) (bNil))))))) (sRet (eOp pMul (eVar 2) (eOp pSub (eC (.int 1)) (eOp pMul (eC (.int 2)) (eCallF [true, false] F__law_take (bOwn 0 (bVal (eC (.int 2)) (bNil)))))))))))
def F__law_number : FF := runF [true] 4 B__law_number
def B__law_top : SF := sRet (eOp pMul (eOp pMul (eOp pPow (eC (.int 10)) (eC (.int 50))) (eOp pPow (eC (.int 10)) (eC (.int 50)))) (eOp pPow (eC (.int 10)) (eC (.int 50))))
def F__law_top : FF := runF [] 0 B__law_top
def B__law_try : SF := sSeq (sTry 3 (onlyC "BadRatio") (sAsg 2 (eCallF [false, false] F_make_ratio (bVal (eVar 0) (bVal (eVar 1) (bNil))))) (fun fs => sAsg 2 (eOp pAddA (eC (.str "refused ")) (eXf fs "what")))) (sRet (eVar 2))
def F__law_try : FF := runF [false, false] 4 B__law_try
def B__law_odd : SF := sSeq (sAsg 2 (eCallF [true, false] F__law_take (bOwn 0 (bVal (eC (.int 7)) (bNil))))) (sSeq (sIf (tBl (eOp pEq (eVar 2) (eC (.int 0)))) (sRet (eLst (aCons (eOp pIx (eVar 1) (eC (.int 0))) (aCons (eOp pIx (eVar 1) (eC (.int 1))) (aNil))))) (sPass)) (sSeq (sIf (tBl (eOp pEq (eVar 2) (eC (.int 1)))) (sRet (eTup (aCons (eOp pMul (eOp pIx (eVar 1) (eC (.int 0))) (eC (.int 3))) (aCons (eOp pMul (eOp pIx (eVar 1) (eC (.int 1))) (eC (.int 3))) (aNil))))) (sPass)) (sSeq (sIf (tBl (eOp pEq (eVar 2) (eC (.int 2)))) (sRet (eTup (aCons (eUn pNeg (eOp pIx (eVar 1) (eC (.int 0)))) (aCons (eUn pNeg (eOp pIx (eVar 1) (eC (.int 1)))) (aNil))))) (sPass)) (sSeq (sIf (tBl (eOp pEq (eVar 2) (eC (.int 3)))) (sRet (eTup (aCons (eOp pIx (eVar 1) (eC (.int 0))) (aCons (eOp pIx (eVar 1) (eC (.int 1))) (aCons (eC (.int 1)) (aNil)))))) (sPass)) (sSeq (sIf (tBl (eOp pEq (eVar 2) (eC (.int 4)))) (sRet (eTup (aCons (eOp pIx (eVar 1) (eC (.int 0))) (aCons (eC (.bl true)) (aNil))))) (sPass)) (sRet (eIf (tBl (eOp pEq (eVar 2) (eC (.int 5)))) (eOp pIx (eVar 1) (eC (.int 0))) (eTup (aCons (eOp pIx (eVar 1) (eC (.int 0))) (aCons (eC (.int 0)) (aNil)))))))))))
def F__law_odd : FF := runF [true, false] 3 B__law_odd
def B__law_pair : SF := sSeq (sAsg 2 (eOp pMul (eOp pIx (eVar 0) (eC (.int 0))) (eOp pIx (eVar 1) (eC (.int 1))))) (sSeq (sAsg 3 (eOp pMul (eOp pIx (eVar 1) (eC (.int 0))) (eOp pIx (eVar 0) (eC (.int 1))))) (sSeq (sIf (tOo (tBl (eOp pNe (eCallF [false, false] F_plus (bVal (eVar 0) (bVal (eVar 1) (bNil)))) (eCallF [false, false] F__law_ratio (bVal (eOp pAddA (eVar 2) (eVar 3)) (bVal (eOp pMul (eOp pIx (eVar 0) (eC (.int 1))) (eOp pIx (eVar 1) (eC (.int 1)))) (bNil)))))) (tBl (eOp pNe (eCallF [false, false] F_minus (bVal (eVar 0) (bVal (eVar 1) (bNil)))) (eCallF [false, false] F__law_ratio (bVal (eOp pSub (eVar 2) (eVar 3)) (bVal (eOp pMul (eOp pIx (eVar 0) (eC (.int 1))) (eOp pIx (eVar 1) (eC (.int 1)))) (bNil))))))) (sRet (eC (.bl false))) (sPass)) (sSeq (sIf (tOo (tBl (eOp pNe (eCallF [false, false] F_times (bVal (eVar 0) (bVal (eVar 1) (bNil)))) (eCallF [false, false] F__law_ratio (bVal (eOp pMul (eOp pIx (eVar 0) (eC (.int 0))) (eOp pIx (eVar 1) (eC (.int 0)))) (bVal (eOp pMul (eOp pIx (eVar 0) (eC (.int 1))) (eOp pIx (eVar 1) (eC (.int 1)))) (bNil)))))) (tBl (eOp pNe (eCallF [false] F_negative (bVal (eVar 0) (bNil))) (eTup (aCons (eUn pNeg (eOp pIx (eVar 0) (eC (.int 0)))) (aCons (eOp pIx (eVar 0) (eC (.int 1))) (aNil))))))) (sRet (eC (.bl false))) (sPass)) (sSeq (sTry 5 (onlyC "BadRatio") (sAsg 4 (eCallF [false, false] F_over (bVal (eVar 0) (bVal (eVar 1) (bNil))))) (fun fs => sAsg 4 (eXf fs "what"))) (sSeq (sIf (tBl (eOp pNe (eVar 4) (eIf (tBl (eOp pEq (eOp pIx (eVar 1) (eC (.int 0))) (eC (.int 0)))) (eC (.str "zero")) (eCallF [false, false] F__law_ratio (bVal (eVar 2) (bVal (eVar 3) (bNil))))))) (sRet (eC (.bl false))) (sPass)) (sSeq (sAsg 6 (eIf (tBl (eOp pEq (eVar 2) (eVar 3))) (eC (.int 0)) (eIf (tBl (eOp (pCmp fun i j => decide (i < j)) (eVar 2) (eVar 3))) (eUn pNeg (eC (.int 1))) (eC (.int 1))))) (sSeq (sIf (tOo (tBl (eOp pNe (eCallF [false, false] F_compare (bVal (eVar 0) (bVal (eVar 1) (bNil)))) (eVar 6))) (tOo (tBl (eOp pNe (eCallF [false, false] F_compare (bVal (eVar 1) (bVal (eVar 0) (bNil)))) (eUn pNeg (eVar 6)))) (tTru (eCall pIsi (aCons (eCallF [false, false] F_compare (bVal (eVar 0) (bVal (eVar 1) (bNil)))) (aCons (eC (.atm (.ty "bool"))) (aNil))))))) (sRet (eC (.bl false))) (sPass)) (sSeq (sAsg 7 (eCallF [false] F_floor_of (bVal (eVar 0) (bNil)))) (sSeq (sIf (tOo (tNo (tTru (eCall pIsi (aCons (eVar 7) (aCons (eC (.atm (.ty "int"))) (aNil)))))) (tOo (tTru (eCall pIsi (aCons (eVar 7) (aCons (eC (.atm (.ty "bool"))) (aNil))))) (tNo (tBl (eChain (pCmp fun i j => decide (i ≤ j)) (pCmp fun i j => decide (i < j)) (eOp pMul (eVar 7) (eOp pIx (eVar 0) (eC (.int 1)))) (eOp pIx (eVar 0) (eC (.int 0))) (eOp pMul (eOp pAddA (eVar 7) (eC (.int 1))) (eOp pIx (eVar 0) (eC (.int 1))))))))) (sRet (eC (.bl false))) (sPass)) (sRet (eOp pEq (eCallF [false] F_ratio_text (bVal (eVar 0) (bNil))) (eIf (tBl (eOp pEq (eOp pIx (eVar 0) (eC (.int 1))) (eC (.int 1)))) (eCall pStr (aCons (eOp pIx (eVar 0) (eC (.int 0))) (aNil))) (eOp pAddA (eOp pAddA (eCall pStr (aCons (eOp pIx (eVar 0) (eC (.int 0))) (aNil))) (eC (.str "/"))) (eCall pStr (aCons (eOp pIx (eVar 0) (eC (.int 1))) (aNil))))))))))))))))
def F__law_pair : FF := runF [false, false] 8 B__law_pair
def B__law_told : SF := sRet (eIf (tTru (eVar 1)) (eOp pIs (eVar 0) (eC (.bl true))) (eOp pIs (eVar 0) (eC (.bl false))))
def F__law_told : FF := runF [false, false] 2 B__law_told
def B__law_bounds : SF := sSeq (sAsg 1 (eAnd (eOp (pCmp fun i j => decide (i ≤ j)) (eCall pAbs (aCons (eOp pIx (eVar 0) (eC (.int 0))) (aNil))) (eOp pPow (eC (.int 10)) (eC (.int 12)))) (eOp (pCmp fun i j => decide (i ≤ j)) (eOp pIx (eVar 0) (eC (.int 1))) (eOp pPow (eC (.int 10)) (eC (.int 12)))))) (sSeq (sIf (tOo (tNo (tTru (eCallF [false, false] F__law_told (bVal (eCallF [false] F_is_arm_size (bVal (eVar 0) (bNil))) (bVal (eAnd (eVar 1) (eOp (pCmp fun i j => decide (j < i)) (eOp pIx (eVar 0) (eC (.int 0))) (eC (.int 0)))) (bNil)))))) (tNo (tTru (eCallF [false, false] F__law_told (bVal (eCallF [false] F_is_weight (bVal (eVar 0) (bNil))) (bVal (eAnd (eVar 1) (eOp (pCmp fun i j => decide (j ≤ i)) (eOp pIx (eVar 0) (eC (.int 0))) (eC (.int 0)))) (bNil))))))) (sRet (eC (.bl false))) (sPass)) (sRet (eCallF [false, false] F__law_told (bVal (eCallF [false] F_is_factor (bVal (eVar 0) (bNil))) (bVal (eAnd (eChain (pCmp fun i j => decide (i < j)) (pCmp fun i j => decide (i ≤ j)) (eC (.int 0)) (eOp pIx (eVar 0) (eC (.int 0))) (eCall0 [] F__law_top [])) (eOp (pCmp fun i j => decide (i ≤ j)) (eOp pIx (eVar 0) (eC (.int 1))) (eCall0 [] F__law_top []))) (bNil))))))
def F__law_bounds : FF := runF [false] 2 B__law_bounds
def B_law : SF := sSeq (sAsgO 1 (eCallO [false] F__law_hand (bVal (eVar 0) (bNil)))) (sSeq (sIf (tOo (tBl (eOp pNe (eC (.tup [.int 0, .int 1])) (eTup (aCons (eC (.int 0)) (aCons (eC (.int 1)) (aNil)))))) (tOo (tBl (eOp pNe (eC (.tup [.int 1, .int 1])) (eTup (aCons (eC (.int 1)) (aCons (eC (.int 1)) (aNil)))))) (tOo (tBl (eOp pNe (eCallF [false] F_sum_of (bVal (eLst (aNil)) (bNil))) (eTup (aCons (eC (.int 0)) (aCons (eC (.int 1)) (aNil)))))) (tBl (eOp pNe (eCallF [false] F_sum_of (bVal (eTup (aNil)) (bNil))) (eTup (aCons (eC (.int 0)) (aCons (eC (.int 1)) (aNil))))))))) (sRet (eC (.bl false))) (sPass)) (sSeq (sAsgO 2 (eLst (aNil))) (sSeq (sFor (iArg rng1 (aCons (eC (.int 3)) (aNil))) (gN 3) (sSeq (sAsg 4 (eCallF [true] F__law_number (bOwn 1 (bNil)))) (sSeq (sAsg 5 (eCallF [true] F__law_number (bOwn 1 (bNil)))) (sSeq (sAsg 6 (eIf (tBl (eOp pEq (eVar 5) (eC (.int 0)))) (eC (.str "refused bottom")) (eCallF [false, false] F__law_ratio (bVal (eVar 4) (bVal (eVar 5) (bNil)))))) (sSeq (sIf (tOo (tBl (eOp pNe (eCallF [false, false] F__law_try (bVal (eVar 4) (bVal (eVar 5) (bNil)))) (eVar 6))) (tBl (eOp pNe (eCallD [false, false] F_make_ratio [PV.int 1] (bVal (eVar 4) (bNil))) (eTup (aCons (eVar 4) (aCons (eC (.int 1)) (aNil))))))) (sRet (eC (.bl false))) (sPass)) (sApp 2 (eCallF [false, false] F__law_ratio (bVal (eVar 4) (bVal (eIf (tTru (eVar 5)) (eVar 5) (eC (.int 7))) (bNil)))))))))) (sSeq (sFor (iSeq (eVar 2)) (gN 7) (sSeq (sIf (tOo (tBl (eOp pNot (eCallF [false] F_is_ratio (bVal (eVar 7) (bNil))) (eC (.bl true)))) (tOo (tBl (eOp pNot (eCallF [false] F_is_ratio (bVal (eCallF [true, false] F__law_odd (bOwn 1 (bVal (eVar 7) (bNil)))) (bNil))) (eC (.bl false)))) (tOo (tNo (tTru (eCallF [false] F__law_bounds (bVal (eVar 7) (bNil))))) (tNo (tTru (eCallF [false] F__law_tuples (bVal (eCallF [false, false] F_plus (bVal (eVar 7) (bVal (eIxS 2 (eC (.int 0))) (bNil)))) (bNil)))))))) (sRet (eC (.bl false))) (sPass)) (sFor (iSeq (eVar 2)) (gN 8) (sIf (tNo (tTru (eCallF [false, false] F__law_pair (bVal (eVar 7) (bVal (eVar 8) (bNil)))))) (sRet (eC (.bl false))) (sPass))))) (sSeq (sFor (iSeq (eLst (aCons (eOp pPow (eC (.int 10)) (eC (.int 12))) (aCons (eCall0 [] F__law_top []) (aNil))))) (gN 9) (sFor (iSeq (eLst (aCons (eTup (aCons (eVar 9) (aCons (eC (.int 1)) (aNil)))) (aCons (eTup (aCons (eOp pAddA (eVar 9) (eC (.int 1))) (aCons (eC (.int 1)) (aNil)))) (aCons (eTup (aCons (eC (.int 1)) (aCons (eVar 9) (aNil)))) (aCons (eTup (aCons (eC (.int 1)) (aCons (eOp pAddA (eVar 9) (eC (.int 1))) (aNil)))) (aCons (eTup (aCons (eUn pNeg (eVar 9)) (aCons (eC (.int 1)) (aNil)))) (aCons (eTup (aCons (eOp pSub (eUn pNeg (eVar 9)) (eC (.int 1))) (aCons (eC (.int 1)) (aNil)))) (aCons (eTup (aCons (eC (.int 0)) (aCons (eC (.int 1)) (aNil)))) (aNil)))))))))) (gN 7) (sIf (tNo (tTru (eCallF [false] F__law_bounds (bVal (eVar 7) (bNil))))) (sRet (eC (.bl false))) (sPass)))) (sSeq (sAsg 10 (eOp pIx (eLst (aCons (eC (.bl true)) (aCons (eC .non) (aCons (eC (.str "3")) (aCons (eTup (aCons (eC (.int 1)) (aCons (eC (.int 1)) (aNil)))) (aCons (eLst (aCons (eC (.int 2)) (aNil))) (aNil))))))) (eCallF [true, false] F__law_take (bOwn 1 (bVal (eC (.int 5)) (bNil)))))) (sSeq (sIf (tOo (tBl (eOp pNe (eCallF [false, false] F__law_try (bVal (eVar 10) (bVal (eC (.int 0)) (bNil)))) (eC (.str "refused top")))) (tBl (eOp pNe (eCallF [false, false] F__law_try (bVal (eOp pIx (eIxS 2 (eC (.int 0))) (eC (.int 0))) (bVal (eVar 10) (bNil)))) (eC (.str "refused bottom"))))) (sRet (eC (.bl false))) (sPass)) (sSeq (sIf (tOo (tNo (tTru (eCallF [false, false] F__law_told (bVal (eCallF [false] F_is_arm_size (bVal (eVar 10) (bNil))) (bVal (eOp pEq (eVar 10) (eTup (aCons (eC (.int 1)) (aCons (eC (.int 1)) (aNil))))) (bNil)))))) (tOo (tBl (eOp pNot (eCallD [false, false, false] F_is_whole [PV.non, PV.non] (bVal (eVar 10) (bNil))) (eC (.bl false)))) (tNo (tTru (eCallF [false, false] F__law_told (bVal (eCallF [false] F_is_ratio (bVal (eVar 10) (bNil))) (bVal (eOp pEq (eVar 10) (eTup (aCons (eC (.int 1)) (aCons (eC (.int 1)) (aNil))))) (bNil)))))))) (sRet (eC (.bl false))) (sPass)) (sSeq (sAsg 11 (eOp pIx (eIxS 2 (eC (.int 0))) (eC (.int 0)))) (sSeq (sAsg 12 (eOp pIx (eIxS 2 (eC (.int 1))) (eC (.int 0)))) (sSeq (sAsg 13 (eOp pIx (eIxS 2 (eC (.int 2))) (eC (.int 0)))) (sSeq (sIf (tOo (tBl (eOp pNot (eCallD [false, false, false] F_is_whole [PV.non, PV.non] (bVal (eVar 11) (bNil))) (eC (.bl true)))) (tNo (tTru (eCallF [false, false] F__law_told (bVal (eCallD [false, false, false] F_is_whole [PV.non] (bVal (eVar 11) (bVal (eVar 12) (bNil)))) (bVal (eOp (pCmp fun i j => decide (j ≤ i)) (eVar 11) (eVar 12)) (bNil))))))) (sRet (eC (.bl false))) (sPass)) (sSeq (sIf (tOo (tNo (tTru (eCallF [false, false] F__law_told (bVal (eCallK [false, false, false] 1 1 F_is_whole (fun vs zs => vs ++ ([.non] ++ zs)) (aCons (eVar 11) (aNil)) (aCons (eVar 13) (aNil))) (bVal (eOp (pCmp fun i j => decide (i ≤ j)) (eVar 11) (eVar 13)) (bNil)))))) (tBl (eOp pNot (eCallF [false, false, false] F_is_whole (bVal (eVar 11) (bVal (eVar 11) (bVal (eVar 11) (bNil))))) (eC (.bl true))))) (sRet (eC (.bl false))) (sPass)) (sSeq (sIf (tNo (tTru (eCallF [false, false] F__law_told (bVal (eCallF [false, false, false] F_is_whole (bVal (eVar 11) (bVal (eVar 12) (bVal (eVar 13) (bNil))))) (bVal (eChain (pCmp fun i j => decide (i ≤ j)) (pCmp fun i j => decide (i ≤ j)) (eVar 12) (eVar 11) (eVar 13)) (bNil)))))) (sRet (eC (.bl false))) (sPass)) (sSeq (sIf (tOo (tBl (eOp pNe (eCallF [false] F_sum_of (bVal (eVar 2) (bNil))) (eCallF [false] F__law_sum (bVal (eVar 2) (bNil))))) (tBl (eOp pNe (eCallF [false] F_sum_of (bVal (eCall pTuple (aCons (eOp pAddA (eVar 2) (eVar 2)) (aNil))) (bNil))) (eCallF [false] F__law_sum (bVal (eOp pAddA (eVar 2) (eVar 2)) (bNil)))))) (sRet (eC (.bl false))) (sPass)) (sSeq (sAsg 14 (eCallF [false] F_least_of (bVal (eVar 2) (bNil)))) (sSeq (sAsg 15 (eCallF [false] F_greatest_of (bVal (eCall pTuple (aCons (eVar 2) (aNil))) (bNil)))) (sSeq (sIf (tOo (tBl (eOp pNotIn (eVar 14) (eVar 2))) (tBl (eOp pNotIn (eVar 15) (eVar 2)))) (sRet (eC (.bl false))) (sPass)) (sRet (eNot (eLc [7] (iSeq (eVar 2)) (gN 7) (tOo (tTru (eCallF [false, false] F__law_less (bVal (eVar 7) (bVal (eVar 14) (bNil))))) (tTru (eCallF [false, false] F__law_less (bVal (eVar 15) (bVal (eVar 7) (bNil)))))) (eC (.int 1)))))))))))))))))))))))
def F_law : FF := runF [false] 16 B_law
end K01
end

section
set_option Elab.async false
set_option linter.all false
set_option maxRecDepth 100000
set_option maxHeartbeats 4000000
set_option autoImplicit false
namespace K01
open PySem PySem.Spec PyProof.Rows L2 PL
def top (i : Nat) : Stmt := PySem.Challenge.pw_wherelaid_k01_whole_ratios_and_their_bou.main.body.getD i (.Pass ⟨0, 0, 0, 0⟩)
abbrev st_is_whole : Stmt := top 9
abbrev N_is_whole : List Str := ["thing", "low", "high"]
theorem sc_is_whole : FnScope N_is_whole ["thing", "low", "high"] (defScope st_is_whole) := ⟨rfl, rfl, rfl, by decide +kernel, rfl, by decide +kernel, by decide +kernel⟩
section
variable {P : Program} {w : World} {K : PySem.W.Frag} {mg : Str → Option Value} {base : Heap}
theorem ok_is_whole {fd : FuncData} (F : FunD K "is_whole" "is_whole" (defArgs st_is_whole) (defBody st_is_whole) (defScope st_is_whole) [V.non, V.non] [] (He.ga K "is_whole") fd) (n_int : mg "int" = none) (n_isinstance : mg "isinstance" = none) (n_bool : mg "bool" = none) :
    FnOk P w K mg base (L2.CX P w) 1 (He.ga K "is_whole") fd ["thing", "low", "high"] (spF K mg [false, false, false] F_is_whole) := by
  refine fn_ok F sc_is_whole rfl (fun cdv A outer s H E Γ hr hx hP tk po => ?_)
  have l_int : Gl (cxOf (L2.CX P w) P w K mg base N_is_whole "is_whole" (defScope st_is_whole) (He.ga K "is_whole") cdv A outer s H E) "int" := by rfl
  have r_int : ("int" : Str) ≠ "__name__" := by decide
  have q_int : (("int" : Str) == ("__debug__" : Str)) = false := by decide
  have v0 : ∀ pos : Pos, PE (cxOf (L2.CX P w) P w K mg base N_is_whole "is_whole" (defScope st_is_whole) (He.ga K "is_whole") cdv A outer s H E) (.Name "thing" pos) (tVar 0) := fun pos => pv 0
  have p0 := hP 0 (by decide)
  have w0 : ∀ pos : Pos, PE (cxOf (L2.CX P w) P w K mg base N_is_whole "is_whole" (defScope st_is_whole) (He.ga K "is_whole") cdv A outer s H E) (.Name "thing" pos) (DE Γ (eVar 0)) := fun pos => v_var (v0 pos) p0
  have l_isinstance : Gl (cxOf (L2.CX P w) P w K mg base N_is_whole "is_whole" (defScope st_is_whole) (He.ga K "is_whole") cdv A outer s H E) "isinstance" := by rfl
  have r_isinstance : ("isinstance" : Str) ≠ "__name__" := by decide
  have q_isinstance : (("isinstance" : Str) == ("__debug__" : Str)) = false := by decide
  have l_bool : Gl (cxOf (L2.CX P w) P w K mg base N_is_whole "is_whole" (defScope st_is_whole) (He.ga K "is_whole") cdv A outer s H E) "bool" := by rfl
  have r_bool : ("bool" : Str) ≠ "__name__" := by decide
  have q_bool : (("bool" : Str) == ("__debug__" : Str)) = false := by decide
  have v1 : ∀ pos : Pos, PE (cxOf (L2.CX P w) P w K mg base N_is_whole "is_whole" (defScope st_is_whole) (He.ga K "is_whole") cdv A outer s H E) (.Name "low" pos) (tVar 1) := fun pos => pv 1
  have p1 := hP 1 (by decide)
  have w1 : ∀ pos : Pos, PE (cxOf (L2.CX P w) P w K mg base N_is_whole "is_whole" (defScope st_is_whole) (He.ga K "is_whole") cdv A outer s H E) (.Name "low" pos) (DE Γ (eVar 1)) := fun pos => v_var (v1 pos) p1
  have v2 : ∀ pos : Pos, PE (cxOf (L2.CX P w) P w K mg base N_is_whole "is_whole" (defScope st_is_whole) (He.ga K "is_whole") cdv A outer s H E) (.Name "high" pos) (tVar 2) := fun pos => pv 2
  have p2 := hP 2 (by decide)
  have w2 : ∀ pos : Pos, PE (cxOf (L2.CX P w) P w K mg base N_is_whole "is_whole" (defScope st_is_whole) (He.ga K "is_whole") cdv A outer s H E) (.Name "high" pos) (DE Γ (eVar 2)) := fun pos => v_var (v2 pos) p2
  refine ss_cons (s_if (PW.pt (w_or (t_not (t_tru hx (v_isi hx l_isinstance n_isinstance (by decide +kernel) (v_cons (w0 _) (v_cons (v_ty l_int n_int (by decide +kernel) r_int q_int) v_nil star_Name) star_Name) r_isinstance q_isinstance star_Name rfl) (fun _ => rfl))) (w_or1 (t_tru hx (v_isi hx l_isinstance n_isinstance (by decide +kernel) (v_cons (w0 _) (v_cons (v_ty l_bool n_bool (by decide +kernel) r_bool q_bool) v_nil star_Name) star_Name) r_isinstance q_isinstance star_Name rfl) (fun _ => rfl)))))
 (by exact ss_one (s_ret v_bl))
 ss_nil) ?_
  exact ss_one (s_ret (v_and hx (v_or hx (v_cmp op_isA s_is (w1 _) v_non rfl) (v_one (v_cmp op_ge s_cmp (w0 _) (w1 _) rfl))) (v_one (v_or hx (v_cmp op_isA s_is (w2 _) v_non rfl) (v_one (v_cmp op_le s_cmp (w0 _) (w2 _) rfl))))))
end
abbrev st_is_ratio : Stmt := top 10
abbrev N_is_ratio : List Str := ["thing", "top", "bottom"]
theorem sc_is_ratio : FnScope N_is_ratio ["thing"] (defScope st_is_ratio) := ⟨rfl, rfl, rfl, by decide +kernel, rfl, by decide +kernel, by decide +kernel⟩
section
variable {P : Program} {w : World} {K : PySem.W.Frag} {mg : Str → Option Value} {base : Heap}
theorem ok_is_ratio {fd : FuncData} (F : FunD K "is_ratio" "is_ratio" (defArgs st_is_ratio) (defBody st_is_ratio) (defScope st_is_ratio) [] [] (He.ga K "is_ratio") fd) (n_tuple : mg "tuple" = none) (n_isinstance : mg "isinstance" = none) (n_len : mg "len" = none) (d_is_whole : Def P w K mg base 1 "is_whole" ["thing", "low", "high"] [false, false, false] F_is_whole) (b_is_whole_1 : ∃ ds, Vals [V.non, V.non] ds ∧ Binds K d_is_whole.fd ["thing", "low", "high"] ds) (b_is_whole_2 : ∃ ds, Vals [V.non] ds ∧ Binds K d_is_whole.fd ["thing", "low", "high"] ds) (g_gcd : mg "gcd" = some (.builtin "math.gcd")) :
    FnOk P w K mg base (L2.CX P w) 2 (He.ga K "is_ratio") fd ["thing"] (spF K mg [false] F_is_ratio) := by
  refine fn_ok F sc_is_ratio rfl (fun cdv A outer s H E Γ hr hx hP tk po => ?_)
  have l_tuple : Gl (cxOf (L2.CX P w) P w K mg base N_is_ratio "is_ratio" (defScope st_is_ratio) (He.ga K "is_ratio") cdv A outer s H E) "tuple" := by rfl
  have r_tuple : ("tuple" : Str) ≠ "__name__" := by decide
  have q_tuple : (("tuple" : Str) == ("__debug__" : Str)) = false := by decide
  have v0 : ∀ pos : Pos, PE (cxOf (L2.CX P w) P w K mg base N_is_ratio "is_ratio" (defScope st_is_ratio) (He.ga K "is_ratio") cdv A outer s H E) (.Name "thing" pos) (tVar 0) := fun pos => pv 0
  have p0 := hP 0 (by decide)
  have w0 : ∀ pos : Pos, PE (cxOf (L2.CX P w) P w K mg base N_is_ratio "is_ratio" (defScope st_is_ratio) (He.ga K "is_ratio") cdv A outer s H E) (.Name "thing" pos) (DE Γ (eVar 0)) := fun pos => v_var (v0 pos) p0
  have l_isinstance : Gl (cxOf (L2.CX P w) P w K mg base N_is_ratio "is_ratio" (defScope st_is_ratio) (He.ga K "is_ratio") cdv A outer s H E) "isinstance" := by rfl
  have r_isinstance : ("isinstance" : Str) ≠ "__name__" := by decide
  have q_isinstance : (("isinstance" : Str) == ("__debug__" : Str)) = false := by decide
  have l_len : Gl (cxOf (L2.CX P w) P w K mg base N_is_ratio "is_ratio" (defScope st_is_ratio) (He.ga K "is_ratio") cdv A outer s H E) "len" := by rfl
  have r_len : ("len" : Str) ≠ "__name__" := by decide
  have q_len : (("len" : Str) == ("__debug__" : Str)) = false := by decide
  have p2 := hP 2 (by decide)
  have p1 := hP 1 (by decide)
  have v1 : ∀ pos : Pos, PE (cxOf (L2.CX P w) P w K mg base N_is_ratio "is_ratio" (defScope st_is_ratio) (He.ga K "is_ratio") cdv A outer s H E) (.Name "top" pos) (tVar 1) := fun pos => pv 1
  have w1 : ∀ pos : Pos, PE (cxOf (L2.CX P w) P w K mg base N_is_ratio "is_ratio" (defScope st_is_ratio) (He.ga K "is_ratio") cdv A outer s H E) (.Name "top" pos) (DE Γ (eVar 1)) := fun pos => v_var (v1 pos) p1
  have hr1 := hr.mono (show 1 ≤ 1 by decide)
  have l_is_whole : Gl (cxOf (L2.CX P w) P w K mg base N_is_ratio "is_ratio" (defScope st_is_ratio) (He.ga K "is_ratio") cdv A outer s H E) "is_whole" := by rfl
  have q_is_whole : (("is_whole" : Str) == ("__debug__" : Str)) = false := by decide
  have v2 : ∀ pos : Pos, PE (cxOf (L2.CX P w) P w K mg base N_is_ratio "is_ratio" (defScope st_is_ratio) (He.ga K "is_ratio") cdv A outer s H E) (.Name "bottom" pos) (tVar 2) := fun pos => pv 2
  have w2 : ∀ pos : Pos, PE (cxOf (L2.CX P w) P w K mg base N_is_ratio "is_ratio" (defScope st_is_ratio) (He.ga K "is_ratio") cdv A outer s H E) (.Name "bottom" pos) (DE Γ (eVar 2)) := fun pos => v_var (v2 pos) p2
  have l_gcd : Gl (cxOf (L2.CX P w) P w K mg base N_is_ratio "is_ratio" (defScope st_is_ratio) (He.ga K "is_ratio") cdv A outer s H E) "gcd" := by rfl
  have q_gcd : (("gcd" : Str) == ("__debug__" : Str)) = false := by decide
  refine ss_cons (s_if (PW.pt (w_or (t_not (t_tru hx (v_isi hx l_isinstance n_isinstance (by decide +kernel) (v_cons (w0 _) (v_cons (v_ty l_tuple n_tuple (by decide +kernel) r_tuple q_tuple) v_nil star_Name) star_Name) r_isinstance q_isinstance star_Name rfl) (fun _ => rfl))) (w_or1 (t_ne hx hr.units (v_len hx l_len n_len (by decide +kernel) (v_cons (w0 _) v_nil star_Name) r_len q_len star_Name rfl) v_int rfl))))
 (by exact ss_one (s_ret v_bl))
 ss_nil) ?_
  refine ss_cons (s_asgG (ps_asg (w0 _) (g_tup hx rfl (gs_cons (g_name (pg_name sc_is_ratio.nd rfl (by first | exact Or.inl rfl | exact Or.inr rfl)) p1) (gs_cons (g_name (pg_name sc_is_ratio.nd rfl (by first | exact Or.inl rfl | exact Or.inr rfl)) p2) gs_nil))))) ?_
  exact ss_one (s_ret (v_and hx (v_callD (dvs := [V.non, V.non]) hx tk d_is_whole.ok d_is_whole.gm d_is_whole.kp b_is_whole_1 (fun _ => (.cons (.non) (.cons (.non) .nil))) hr1 l_is_whole (b_val (w1 _) b_nil star_Name) q_is_whole star_Name rfl) (v_and hx (v_callD (dvs := [V.non]) hx tk d_is_whole.ok d_is_whole.gm d_is_whole.kp b_is_whole_2 (fun _ => (.cons (.non) .nil)) hr1 l_is_whole (b_val (w2 _) (b_val v_int b_nil star_Constant) star_Name) q_is_whole star_Name rfl) (v_one (v_eq hx hr.units (v_callBf cr_gcd c_gcd l_gcd g_gcd (v_cons (w1 _) (v_cons (w2 _) v_nil star_Name) star_Name) q_gcd star_Name rfl) v_int rfl)))))
end
abbrev st_is_within_bound : Stmt := top 11
abbrev N_is_within_bound : List Str := ["thing", "bound"]
theorem sc_is_within_bound : FnScope N_is_within_bound ["thing", "bound"] (defScope st_is_within_bound) := ⟨rfl, rfl, rfl, by decide +kernel, rfl, by decide +kernel, by decide +kernel⟩
section
variable {P : Program} {w : World} {K : PySem.W.Frag} {mg : Str → Option Value} {base : Heap}
theorem ok_is_within_bound {fd : FuncData} (F : FunD K "is_within_bound" "is_within_bound" (defArgs st_is_within_bound) (defBody st_is_within_bound) (defScope st_is_within_bound) [] [] (He.ga K "is_within_bound") fd) (d_is_ratio : Def P w K mg base 2 "is_ratio" ["thing"] [false] F_is_ratio) (n_abs : mg "abs" = none) :
    FnOk P w K mg base (L2.CX P w) 3 (He.ga K "is_within_bound") fd ["thing", "bound"] (spF K mg [false, false] F_is_within_bound) := by
  refine fn_ok F sc_is_within_bound rfl (fun cdv A outer s H E Γ hr hx hP tk po => ?_)
  have v0 : ∀ pos : Pos, PE (cxOf (L2.CX P w) P w K mg base N_is_within_bound "is_within_bound" (defScope st_is_within_bound) (He.ga K "is_within_bound") cdv A outer s H E) (.Name "thing" pos) (tVar 0) := fun pos => pv 0
  have p0 := hP 0 (by decide)
  have w0 : ∀ pos : Pos, PE (cxOf (L2.CX P w) P w K mg base N_is_within_bound "is_within_bound" (defScope st_is_within_bound) (He.ga K "is_within_bound") cdv A outer s H E) (.Name "thing" pos) (DE Γ (eVar 0)) := fun pos => v_var (v0 pos) p0
  have hr2 := hr.mono (show 2 ≤ 2 by decide)
  have l_is_ratio : Gl (cxOf (L2.CX P w) P w K mg base N_is_within_bound "is_within_bound" (defScope st_is_within_bound) (He.ga K "is_within_bound") cdv A outer s H E) "is_ratio" := by rfl
  have q_is_ratio : (("is_ratio" : Str) == ("__debug__" : Str)) = false := by decide
  have l_abs : Gl (cxOf (L2.CX P w) P w K mg base N_is_within_bound "is_within_bound" (defScope st_is_within_bound) (He.ga K "is_within_bound") cdv A outer s H E) "abs" := by rfl
  have r_abs : ("abs" : Str) ≠ "__name__" := by decide
  have q_abs : (("abs" : Str) == ("__debug__" : Str)) = false := by decide
  have v1 : ∀ pos : Pos, PE (cxOf (L2.CX P w) P w K mg base N_is_within_bound "is_within_bound" (defScope st_is_within_bound) (He.ga K "is_within_bound") cdv A outer s H E) (.Name "bound" pos) (tVar 1) := fun pos => pv 1
  have p1 := hP 1 (by decide)
  have w1 : ∀ pos : Pos, PE (cxOf (L2.CX P w) P w K mg base N_is_within_bound "is_within_bound" (defScope st_is_within_bound) (He.ga K "is_within_bound") cdv A outer s H E) (.Name "bound" pos) (DE Γ (eVar 1)) := fun pos => v_var (v1 pos) p1
  exact ss_one (s_ret (v_and hx (v_call hx tk d_is_ratio hr2 l_is_ratio (b_val (w0 _) b_nil star_Name) q_is_ratio star_Name rfl) (v_and hx (v_cmp op_le s_cmp (v_callB call_abs c_abs l_abs n_abs (by decide +kernel) (v_cons (v_ix hx (w0 _) v_int (fun _ _ => rfl)) v_nil star_Subscript) r_abs q_abs star_Subscript rfl) (w1 _) rfl) (v_one (v_cmp op_le s_cmp (v_ix hx (w0 _) v_int (fun _ _ => rfl)) (w1 _) rfl)))))
end
abbrev st_is_coordinate : Stmt := top 12
abbrev N_is_coordinate : List Str := ["thing"]
theorem sc_is_coordinate : FnScope N_is_coordinate ["thing"] (defScope st_is_coordinate) := ⟨rfl, rfl, rfl, by decide +kernel, rfl, by decide +kernel, by decide +kernel⟩
section
variable {P : Program} {w : World} {K : PySem.W.Frag} {mg : Str → Option Value} {base : Heap}
theorem ok_is_coordinate {fd : FuncData} (F : FunD K "is_coordinate" "is_coordinate" (defArgs st_is_coordinate) (defBody st_is_coordinate) (defScope st_is_coordinate) [] [] (He.ga K "is_coordinate") fd) (d_is_within_bound : Def P w K mg base 3 "is_within_bound" ["thing", "bound"] [false, false] F_is_within_bound) (c_SMALL : Const K mg "SMALL" (.int 1000000000000)) :
    FnOk P w K mg base (L2.CX P w) 4 (He.ga K "is_coordinate") fd ["thing"] (spF K mg [false] F_is_coordinate) := by
  refine fn_ok F sc_is_coordinate rfl (fun cdv A outer s H E Γ hr hx hP tk po => ?_)
  have l_SMALL : Gl (cxOf (L2.CX P w) P w K mg base N_is_coordinate "is_coordinate" (defScope st_is_coordinate) (He.ga K "is_coordinate") cdv A outer s H E) "SMALL" := by rfl
  have q_SMALL : (("SMALL" : Str) == ("__debug__" : Str)) = false := by decide
  have v0 : ∀ pos : Pos, PE (cxOf (L2.CX P w) P w K mg base N_is_coordinate "is_coordinate" (defScope st_is_coordinate) (He.ga K "is_coordinate") cdv A outer s H E) (.Name "thing" pos) (tVar 0) := fun pos => pv 0
  have p0 := hP 0 (by decide)
  have w0 : ∀ pos : Pos, PE (cxOf (L2.CX P w) P w K mg base N_is_coordinate "is_coordinate" (defScope st_is_coordinate) (He.ga K "is_coordinate") cdv A outer s H E) (.Name "thing" pos) (DE Γ (eVar 0)) := fun pos => v_var (v0 pos) p0
  have hr3 := hr.mono (show 3 ≤ 3 by decide)
  have l_is_within_bound : Gl (cxOf (L2.CX P w) P w K mg base N_is_coordinate "is_coordinate" (defScope st_is_coordinate) (He.ga K "is_coordinate") cdv A outer s H E) "is_within_bound" := by rfl
  have q_is_within_bound : (("is_within_bound" : Str) == ("__debug__" : Str)) = false := by decide
  exact ss_one (s_ret (v_call hx tk d_is_within_bound hr3 l_is_within_bound (b_val (w0 _) (b_val (v_const c_SMALL hx l_SMALL q_SMALL) b_nil star_Name) star_Name) q_is_within_bound star_Name rfl))
end
abbrev st_is_arm_size : Stmt := top 13
abbrev N_is_arm_size : List Str := ["thing"]
theorem sc_is_arm_size : FnScope N_is_arm_size ["thing"] (defScope st_is_arm_size) := ⟨rfl, rfl, rfl, by decide +kernel, rfl, by decide +kernel, by decide +kernel⟩
section
variable {P : Program} {w : World} {K : PySem.W.Frag} {mg : Str → Option Value} {base : Heap}
theorem ok_is_arm_size {fd : FuncData} (F : FunD K "is_arm_size" "is_arm_size" (defArgs st_is_arm_size) (defBody st_is_arm_size) (defScope st_is_arm_size) [] [] (He.ga K "is_arm_size") fd) (d_is_coordinate : Def P w K mg base 4 "is_coordinate" ["thing"] [false] F_is_coordinate) :
    FnOk P w K mg base (L2.CX P w) 5 (He.ga K "is_arm_size") fd ["thing"] (spF K mg [false] F_is_arm_size) := by
  refine fn_ok F sc_is_arm_size rfl (fun cdv A outer s H E Γ hr hx hP tk po => ?_)
  have v0 : ∀ pos : Pos, PE (cxOf (L2.CX P w) P w K mg base N_is_arm_size "is_arm_size" (defScope st_is_arm_size) (He.ga K "is_arm_size") cdv A outer s H E) (.Name "thing" pos) (tVar 0) := fun pos => pv 0
  have p0 := hP 0 (by decide)
  have w0 : ∀ pos : Pos, PE (cxOf (L2.CX P w) P w K mg base N_is_arm_size "is_arm_size" (defScope st_is_arm_size) (He.ga K "is_arm_size") cdv A outer s H E) (.Name "thing" pos) (DE Γ (eVar 0)) := fun pos => v_var (v0 pos) p0
  have hr4 := hr.mono (show 4 ≤ 4 by decide)
  have l_is_coordinate : Gl (cxOf (L2.CX P w) P w K mg base N_is_arm_size "is_arm_size" (defScope st_is_arm_size) (He.ga K "is_arm_size") cdv A outer s H E) "is_coordinate" := by rfl
  have q_is_coordinate : (("is_coordinate" : Str) == ("__debug__" : Str)) = false := by decide
  exact ss_one (s_ret (v_and hx (v_call hx tk d_is_coordinate hr4 l_is_coordinate (b_val (w0 _) b_nil star_Name) q_is_coordinate star_Name rfl) (v_one (v_cmp op_gt s_cmp (v_ix hx (w0 _) v_int (fun _ _ => rfl)) v_int rfl))))
end
abbrev st_is_weight : Stmt := top 14
abbrev N_is_weight : List Str := ["thing"]
theorem sc_is_weight : FnScope N_is_weight ["thing"] (defScope st_is_weight) := ⟨rfl, rfl, rfl, by decide +kernel, rfl, by decide +kernel, by decide +kernel⟩
section
variable {P : Program} {w : World} {K : PySem.W.Frag} {mg : Str → Option Value} {base : Heap}
theorem ok_is_weight {fd : FuncData} (F : FunD K "is_weight" "is_weight" (defArgs st_is_weight) (defBody st_is_weight) (defScope st_is_weight) [] [] (He.ga K "is_weight") fd) (d_is_coordinate : Def P w K mg base 4 "is_coordinate" ["thing"] [false] F_is_coordinate) :
    FnOk P w K mg base (L2.CX P w) 5 (He.ga K "is_weight") fd ["thing"] (spF K mg [false] F_is_weight) := by
  refine fn_ok F sc_is_weight rfl (fun cdv A outer s H E Γ hr hx hP tk po => ?_)
  have v0 : ∀ pos : Pos, PE (cxOf (L2.CX P w) P w K mg base N_is_weight "is_weight" (defScope st_is_weight) (He.ga K "is_weight") cdv A outer s H E) (.Name "thing" pos) (tVar 0) := fun pos => pv 0
  have p0 := hP 0 (by decide)
  have w0 : ∀ pos : Pos, PE (cxOf (L2.CX P w) P w K mg base N_is_weight "is_weight" (defScope st_is_weight) (He.ga K "is_weight") cdv A outer s H E) (.Name "thing" pos) (DE Γ (eVar 0)) := fun pos => v_var (v0 pos) p0
  have hr4 := hr.mono (show 4 ≤ 4 by decide)
  have l_is_coordinate : Gl (cxOf (L2.CX P w) P w K mg base N_is_weight "is_weight" (defScope st_is_weight) (He.ga K "is_weight") cdv A outer s H E) "is_coordinate" := by rfl
  have q_is_coordinate : (("is_coordinate" : Str) == ("__debug__" : Str)) = false := by decide
  exact ss_one (s_ret (v_and hx (v_call hx tk d_is_coordinate hr4 l_is_coordinate (b_val (w0 _) b_nil star_Name) q_is_coordinate star_Name rfl) (v_one (v_cmp op_ge s_cmp (v_ix hx (w0 _) v_int (fun _ _ => rfl)) v_int rfl))))
end
abbrev st_is_factor : Stmt := top 15
abbrev N_is_factor : List Str := ["thing"]
theorem sc_is_factor : FnScope N_is_factor ["thing"] (defScope st_is_factor) := ⟨rfl, rfl, rfl, by decide +kernel, rfl, by decide +kernel, by decide +kernel⟩
section
variable {P : Program} {w : World} {K : PySem.W.Frag} {mg : Str → Option Value} {base : Heap}
theorem ok_is_factor {fd : FuncData} (F : FunD K "is_factor" "is_factor" (defArgs st_is_factor) (defBody st_is_factor) (defScope st_is_factor) [] [] (He.ga K "is_factor") fd) (d_is_within_bound : Def P w K mg base 3 "is_within_bound" ["thing", "bound"] [false, false] F_is_within_bound) (c_LARGE : Const K mg "LARGE" (.int 1000000000000000000000000000000000000000000000000000000000000000000000000000000000000000000000000000000000000000000000000000000000000000000000000000000)) :
    FnOk P w K mg base (L2.CX P w) 4 (He.ga K "is_factor") fd ["thing"] (spF K mg [false] F_is_factor) := by
  refine fn_ok F sc_is_factor rfl (fun cdv A outer s H E Γ hr hx hP tk po => ?_)
  have l_LARGE : Gl (cxOf (L2.CX P w) P w K mg base N_is_factor "is_factor" (defScope st_is_factor) (He.ga K "is_factor") cdv A outer s H E) "LARGE" := by rfl
  have q_LARGE : (("LARGE" : Str) == ("__debug__" : Str)) = false := by decide
  have v0 : ∀ pos : Pos, PE (cxOf (L2.CX P w) P w K mg base N_is_factor "is_factor" (defScope st_is_factor) (He.ga K "is_factor") cdv A outer s H E) (.Name "thing" pos) (tVar 0) := fun pos => pv 0
  have p0 := hP 0 (by decide)
  have w0 : ∀ pos : Pos, PE (cxOf (L2.CX P w) P w K mg base N_is_factor "is_factor" (defScope st_is_factor) (He.ga K "is_factor") cdv A outer s H E) (.Name "thing" pos) (DE Γ (eVar 0)) := fun pos => v_var (v0 pos) p0
  have hr3 := hr.mono (show 3 ≤ 3 by decide)
  have l_is_within_bound : Gl (cxOf (L2.CX P w) P w K mg base N_is_factor "is_factor" (defScope st_is_factor) (He.ga K "is_factor") cdv A outer s H E) "is_within_bound" := by rfl
  have q_is_within_bound : (("is_within_bound" : Str) == ("__debug__" : Str)) = false := by decide
  exact ss_one (s_ret (v_and hx (v_call hx tk d_is_within_bound hr3 l_is_within_bound (b_val (w0 _) (b_val (v_const c_LARGE hx l_LARGE q_LARGE) b_nil star_Name) star_Name) q_is_within_bound star_Name rfl) (v_one (v_cmp op_gt s_cmp (v_ix hx (w0 _) v_int (fun _ _ => rfl)) v_int rfl))))
end
abbrev st__in_lowest_terms : Stmt := top 17
abbrev N__in_lowest_terms : List Str := ["top", "bottom", "common"]
theorem sc__in_lowest_terms : FnScope N__in_lowest_terms ["top", "bottom"] (defScope st__in_lowest_terms) := ⟨rfl, rfl, rfl, by decide +kernel, rfl, by decide +kernel, by decide +kernel⟩
section
variable {P : Program} {w : World} {K : PySem.W.Frag} {mg : Str → Option Value} {base : Heap}
theorem ok__in_lowest_terms {fd : FuncData} (F : FunD K "_in_lowest_terms" "_in_lowest_terms" (defArgs st__in_lowest_terms) (defBody st__in_lowest_terms) (defScope st__in_lowest_terms) [] [] (He.ga K "_in_lowest_terms") fd) (g_gcd : mg "gcd" = some (.builtin "math.gcd")) :
    FnOk P w K mg base (L2.CX P w) 1 (He.ga K "_in_lowest_terms") fd ["top", "bottom"] (spF K mg [false, false] F__in_lowest_terms) := by
  refine fn_ok F sc__in_lowest_terms rfl (fun cdv A outer s H E Γ hr hx hP tk po => ?_)
  have v1 : ∀ pos : Pos, PE (cxOf (L2.CX P w) P w K mg base N__in_lowest_terms "_in_lowest_terms" (defScope st__in_lowest_terms) (He.ga K "_in_lowest_terms") cdv A outer s H E) (.Name "bottom" pos) (tVar 1) := fun pos => pv 1
  have p1 := hP 1 (by decide)
  have w1 : ∀ pos : Pos, PE (cxOf (L2.CX P w) P w K mg base N__in_lowest_terms "_in_lowest_terms" (defScope st__in_lowest_terms) (He.ga K "_in_lowest_terms") cdv A outer s H E) (.Name "bottom" pos) (DE Γ (eVar 1)) := fun pos => v_var (v1 pos) p1
  have v0 : ∀ pos : Pos, PE (cxOf (L2.CX P w) P w K mg base N__in_lowest_terms "_in_lowest_terms" (defScope st__in_lowest_terms) (He.ga K "_in_lowest_terms") cdv A outer s H E) (.Name "top" pos) (tVar 0) := fun pos => pv 0
  have p0 := hP 0 (by decide)
  have w0 : ∀ pos : Pos, PE (cxOf (L2.CX P w) P w K mg base N__in_lowest_terms "_in_lowest_terms" (defScope st__in_lowest_terms) (He.ga K "_in_lowest_terms") cdv A outer s H E) (.Name "top" pos) (DE Γ (eVar 0)) := fun pos => v_var (v0 pos) p0
  have l_gcd : Gl (cxOf (L2.CX P w) P w K mg base N__in_lowest_terms "_in_lowest_terms" (defScope st__in_lowest_terms) (He.ga K "_in_lowest_terms") cdv A outer s H E) "gcd" := by rfl
  have q_gcd : (("gcd" : Str) == ("__debug__" : Str)) = false := by decide
  have p2 := hP 2 (by decide)
  have v2 : ∀ pos : Pos, PE (cxOf (L2.CX P w) P w K mg base N__in_lowest_terms "_in_lowest_terms" (defScope st__in_lowest_terms) (He.ga K "_in_lowest_terms") cdv A outer s H E) (.Name "common" pos) (tVar 2) := fun pos => pv 2
  have w2 : ∀ pos : Pos, PE (cxOf (L2.CX P w) P w K mg base N__in_lowest_terms "_in_lowest_terms" (defScope st__in_lowest_terms) (He.ga K "_in_lowest_terms") cdv A outer s H E) (.Name "common" pos) (DE Γ (eVar 2)) := fun pos => v_var (v2 pos) p2
  refine ss_cons (s_asg (ps_set (i := 2) sc__in_lowest_terms.nd rfl (by first | exact Or.inl rfl | exact Or.inr rfl) (v_callBf cr_gcd c_gcd l_gcd g_gcd (v_cons (w0 _) (v_cons (w1 _) v_nil star_Name) star_Name) q_gcd star_Name rfl)) p2) ?_
  refine ss_cons (s_if (t_cmp op_lt s_cmp (w1 _) v_int rfl)
 (by exact ss_one (s_asg (ps_set (i := 2) sc__in_lowest_terms.nd rfl (by first | exact Or.inl rfl | exact Or.inr rfl) (v_un un_neg s_neg (w2 _))) p2))
 ss_nil) ?_
  exact ss_one (s_ret (v_tup (v_cons (v_op op_fdivZ s_div (w0 _) (w2 _)) (v_cons (v_op op_fdivZ s_div (w1 _) (w2 _)) v_nil star_BinOp) star_BinOp)))
end
abbrev st_make_ratio : Stmt := top 16
abbrev N_make_ratio : List Str := ["top", "bottom"]
theorem sc_make_ratio : FnScope N_make_ratio ["top", "bottom"] (defScope st_make_ratio) := ⟨rfl, rfl, rfl, by decide +kernel, rfl, by decide +kernel, by decide +kernel⟩
section
variable {P : Program} {w : World} {K : PySem.W.Frag} {mg : Str → Option Value} {base : Heap}
theorem ok_make_ratio {fd : FuncData} (F : FunD K "make_ratio" "make_ratio" (defArgs st_make_ratio) (defBody st_make_ratio) (defScope st_make_ratio) [V.int 1] [] (He.ga K "make_ratio") fd) (d_is_whole : Def P w K mg base 1 "is_whole" ["thing", "low", "high"] [false, false, false] F_is_whole) (b_is_whole_1 : ∃ ds, Vals [V.non, V.non] ds ∧ Binds K d_is_whole.fd ["thing", "low", "high"] ds) (e_BadRatio : ExcCl P w K mg base "BadRatio" ["what"]) (d__in_lowest_terms : Def P w K mg base 1 "_in_lowest_terms" ["top", "bottom"] [false, false] F__in_lowest_terms) :
    FnOk P w K mg base (L2.CX P w) 3 (He.ga K "make_ratio") fd ["top", "bottom"] (spF K mg [false, false] F_make_ratio) := by
  refine fn_ok F sc_make_ratio rfl (fun cdv A outer s H E Γ hr hx hP tk po => ?_)
  have v0 : ∀ pos : Pos, PE (cxOf (L2.CX P w) P w K mg base N_make_ratio "make_ratio" (defScope st_make_ratio) (He.ga K "make_ratio") cdv A outer s H E) (.Name "top" pos) (tVar 0) := fun pos => pv 0
  have p0 := hP 0 (by decide)
  have w0 : ∀ pos : Pos, PE (cxOf (L2.CX P w) P w K mg base N_make_ratio "make_ratio" (defScope st_make_ratio) (He.ga K "make_ratio") cdv A outer s H E) (.Name "top" pos) (DE Γ (eVar 0)) := fun pos => v_var (v0 pos) p0
  have hr1 := hr.mono (show 1 ≤ 2 by decide)
  have l_is_whole : Gl (cxOf (L2.CX P w) P w K mg base N_make_ratio "make_ratio" (defScope st_make_ratio) (He.ga K "make_ratio") cdv A outer s H E) "is_whole" := by rfl
  have q_is_whole : (("is_whole" : Str) == ("__debug__" : Str)) = false := by decide
  have hr2 := hr.mono (show 2 ≤ 2 by decide)
  have v1 : ∀ pos : Pos, PE (cxOf (L2.CX P w) P w K mg base N_make_ratio "make_ratio" (defScope st_make_ratio) (He.ga K "make_ratio") cdv A outer s H E) (.Name "bottom" pos) (tVar 1) := fun pos => pv 1
  have p1 := hP 1 (by decide)
  have w1 : ∀ pos : Pos, PE (cxOf (L2.CX P w) P w K mg base N_make_ratio "make_ratio" (defScope st_make_ratio) (He.ga K "make_ratio") cdv A outer s H E) (.Name "bottom" pos) (DE Γ (eVar 1)) := fun pos => v_var (v1 pos) p1
  have l__in_lowest_terms : Gl (cxOf (L2.CX P w) P w K mg base N_make_ratio "make_ratio" (defScope st_make_ratio) (He.ga K "make_ratio") cdv A outer s H E) "_in_lowest_terms" := by rfl
  have q__in_lowest_terms : (("_in_lowest_terms" : Str) == ("__debug__" : Str)) = false := by decide
  refine ss_cons (s_if (t_not (t_tru hx (v_callD (dvs := [V.non, V.non]) hx tk d_is_whole.ok d_is_whole.gm d_is_whole.kp b_is_whole_1 (fun _ => (.cons (.non) (.cons (.non) .nil))) hr1 l_is_whole (b_val (w0 _) b_nil star_Name) q_is_whole star_Name rfl) (fun _ => rfl)))
 (by exact ss_one (s_raise hx rfl tk e_BadRatio hr2 (by rfl) (v_cons v_str v_nil star_Constant)))
 ss_nil) ?_
  refine ss_cons (s_if (PW.pt (w_or (t_not (t_tru hx (v_callD (dvs := [V.non, V.non]) hx tk d_is_whole.ok d_is_whole.gm d_is_whole.kp b_is_whole_1 (fun _ => (.cons (.non) (.cons (.non) .nil))) hr1 l_is_whole (b_val (w1 _) b_nil star_Name) q_is_whole star_Name rfl) (fun _ => rfl))) (w_or1 (t_eq hx hr.units (w1 _) v_int rfl))))
 (by exact ss_one (s_raise hx rfl tk e_BadRatio hr2 (by rfl) (v_cons v_str v_nil star_Constant)))
 ss_nil) ?_
  exact ss_one (s_ret (v_call hx tk d__in_lowest_terms hr1 l__in_lowest_terms (b_val (w0 _) (b_val (w1 _) b_nil star_Name) star_Name) q__in_lowest_terms star_Name rfl))
end
abbrev st_plus : Stmt := top 18
abbrev N_plus : List Str := ["one", "two"]
theorem sc_plus : FnScope N_plus ["one", "two"] (defScope st_plus) := ⟨rfl, rfl, rfl, by decide +kernel, rfl, by decide +kernel, by decide +kernel⟩
section
variable {P : Program} {w : World} {K : PySem.W.Frag} {mg : Str → Option Value} {base : Heap}
theorem ok_plus {fd : FuncData} (F : FunD K "plus" "plus" (defArgs st_plus) (defBody st_plus) (defScope st_plus) [] [] (He.ga K "plus") fd) (d__in_lowest_terms : Def P w K mg base 1 "_in_lowest_terms" ["top", "bottom"] [false, false] F__in_lowest_terms) :
    FnOk P w K mg base (L2.CX P w) 2 (He.ga K "plus") fd ["one", "two"] (spF K mg [false, false] F_plus) := by
  refine fn_ok F sc_plus rfl (fun cdv A outer s H E Γ hr hx hP tk po => ?_)
  have v0 : ∀ pos : Pos, PE (cxOf (L2.CX P w) P w K mg base N_plus "plus" (defScope st_plus) (He.ga K "plus") cdv A outer s H E) (.Name "one" pos) (tVar 0) := fun pos => pv 0
  have p0 := hP 0 (by decide)
  have w0 : ∀ pos : Pos, PE (cxOf (L2.CX P w) P w K mg base N_plus "plus" (defScope st_plus) (He.ga K "plus") cdv A outer s H E) (.Name "one" pos) (DE Γ (eVar 0)) := fun pos => v_var (v0 pos) p0
  have v1 : ∀ pos : Pos, PE (cxOf (L2.CX P w) P w K mg base N_plus "plus" (defScope st_plus) (He.ga K "plus") cdv A outer s H E) (.Name "two" pos) (tVar 1) := fun pos => pv 1
  have p1 := hP 1 (by decide)
  have w1 : ∀ pos : Pos, PE (cxOf (L2.CX P w) P w K mg base N_plus "plus" (defScope st_plus) (He.ga K "plus") cdv A outer s H E) (.Name "two" pos) (DE Γ (eVar 1)) := fun pos => v_var (v1 pos) p1
  have hr1 := hr.mono (show 1 ≤ 1 by decide)
  have l__in_lowest_terms : Gl (cxOf (L2.CX P w) P w K mg base N_plus "plus" (defScope st_plus) (He.ga K "plus") cdv A outer s H E) "_in_lowest_terms" := by rfl
  have q__in_lowest_terms : (("_in_lowest_terms" : Str) == ("__debug__" : Str)) = false := by decide
  exact ss_one (s_ret (v_call hx tk d__in_lowest_terms hr1 l__in_lowest_terms (b_val (v_add hx (v_op op_mulA s_mul (v_ix hx (w0 _) v_int (fun _ _ => rfl)) (v_ix hx (w1 _) v_int (fun _ _ => rfl))) (v_op op_mulA s_mul (v_ix hx (w1 _) v_int (fun _ _ => rfl)) (v_ix hx (w0 _) v_int (fun _ _ => rfl)))) (b_val (v_op op_mulA s_mul (v_ix hx (w0 _) v_int (fun _ _ => rfl)) (v_ix hx (w1 _) v_int (fun _ _ => rfl))) b_nil star_BinOp) star_BinOp) q__in_lowest_terms star_BinOp rfl))
end
abbrev st_minus : Stmt := top 19
abbrev N_minus : List Str := ["one", "two"]
theorem sc_minus : FnScope N_minus ["one", "two"] (defScope st_minus) := ⟨rfl, rfl, rfl, by decide +kernel, rfl, by decide +kernel, by decide +kernel⟩
section
variable {P : Program} {w : World} {K : PySem.W.Frag} {mg : Str → Option Value} {base : Heap}
theorem ok_minus {fd : FuncData} (F : FunD K "minus" "minus" (defArgs st_minus) (defBody st_minus) (defScope st_minus) [] [] (He.ga K "minus") fd) (d__in_lowest_terms : Def P w K mg base 1 "_in_lowest_terms" ["top", "bottom"] [false, false] F__in_lowest_terms) :
    FnOk P w K mg base (L2.CX P w) 2 (He.ga K "minus") fd ["one", "two"] (spF K mg [false, false] F_minus) := by
  refine fn_ok F sc_minus rfl (fun cdv A outer s H E Γ hr hx hP tk po => ?_)
  have v0 : ∀ pos : Pos, PE (cxOf (L2.CX P w) P w K mg base N_minus "minus" (defScope st_minus) (He.ga K "minus") cdv A outer s H E) (.Name "one" pos) (tVar 0) := fun pos => pv 0
  have p0 := hP 0 (by decide)
  have w0 : ∀ pos : Pos, PE (cxOf (L2.CX P w) P w K mg base N_minus "minus" (defScope st_minus) (He.ga K "minus") cdv A outer s H E) (.Name "one" pos) (DE Γ (eVar 0)) := fun pos => v_var (v0 pos) p0
  have v1 : ∀ pos : Pos, PE (cxOf (L2.CX P w) P w K mg base N_minus "minus" (defScope st_minus) (He.ga K "minus") cdv A outer s H E) (.Name "two" pos) (tVar 1) := fun pos => pv 1
  have p1 := hP 1 (by decide)
  have w1 : ∀ pos : Pos, PE (cxOf (L2.CX P w) P w K mg base N_minus "minus" (defScope st_minus) (He.ga K "minus") cdv A outer s H E) (.Name "two" pos) (DE Γ (eVar 1)) := fun pos => v_var (v1 pos) p1
  have hr1 := hr.mono (show 1 ≤ 1 by decide)
  have l__in_lowest_terms : Gl (cxOf (L2.CX P w) P w K mg base N_minus "minus" (defScope st_minus) (He.ga K "minus") cdv A outer s H E) "_in_lowest_terms" := by rfl
  have q__in_lowest_terms : (("_in_lowest_terms" : Str) == ("__debug__" : Str)) = false := by decide
  exact ss_one (s_ret (v_call hx tk d__in_lowest_terms hr1 l__in_lowest_terms (b_val (v_op op_sub s_sub (v_op op_mulA s_mul (v_ix hx (w0 _) v_int (fun _ _ => rfl)) (v_ix hx (w1 _) v_int (fun _ _ => rfl))) (v_op op_mulA s_mul (v_ix hx (w1 _) v_int (fun _ _ => rfl)) (v_ix hx (w0 _) v_int (fun _ _ => rfl)))) (b_val (v_op op_mulA s_mul (v_ix hx (w0 _) v_int (fun _ _ => rfl)) (v_ix hx (w1 _) v_int (fun _ _ => rfl))) b_nil star_BinOp) star_BinOp) q__in_lowest_terms star_BinOp rfl))
end
abbrev st_times : Stmt := top 20
abbrev N_times : List Str := ["one", "two"]
theorem sc_times : FnScope N_times ["one", "two"] (defScope st_times) := ⟨rfl, rfl, rfl, by decide +kernel, rfl, by decide +kernel, by decide +kernel⟩
section
variable {P : Program} {w : World} {K : PySem.W.Frag} {mg : Str → Option Value} {base : Heap}
theorem ok_times {fd : FuncData} (F : FunD K "times" "times" (defArgs st_times) (defBody st_times) (defScope st_times) [] [] (He.ga K "times") fd) (d__in_lowest_terms : Def P w K mg base 1 "_in_lowest_terms" ["top", "bottom"] [false, false] F__in_lowest_terms) :
    FnOk P w K mg base (L2.CX P w) 2 (He.ga K "times") fd ["one", "two"] (spF K mg [false, false] F_times) := by
  refine fn_ok F sc_times rfl (fun cdv A outer s H E Γ hr hx hP tk po => ?_)
  have v0 : ∀ pos : Pos, PE (cxOf (L2.CX P w) P w K mg base N_times "times" (defScope st_times) (He.ga K "times") cdv A outer s H E) (.Name "one" pos) (tVar 0) := fun pos => pv 0
  have p0 := hP 0 (by decide)
  have w0 : ∀ pos : Pos, PE (cxOf (L2.CX P w) P w K mg base N_times "times" (defScope st_times) (He.ga K "times") cdv A outer s H E) (.Name "one" pos) (DE Γ (eVar 0)) := fun pos => v_var (v0 pos) p0
  have v1 : ∀ pos : Pos, PE (cxOf (L2.CX P w) P w K mg base N_times "times" (defScope st_times) (He.ga K "times") cdv A outer s H E) (.Name "two" pos) (tVar 1) := fun pos => pv 1
  have p1 := hP 1 (by decide)
  have w1 : ∀ pos : Pos, PE (cxOf (L2.CX P w) P w K mg base N_times "times" (defScope st_times) (He.ga K "times") cdv A outer s H E) (.Name "two" pos) (DE Γ (eVar 1)) := fun pos => v_var (v1 pos) p1
  have hr1 := hr.mono (show 1 ≤ 1 by decide)
  have l__in_lowest_terms : Gl (cxOf (L2.CX P w) P w K mg base N_times "times" (defScope st_times) (He.ga K "times") cdv A outer s H E) "_in_lowest_terms" := by rfl
  have q__in_lowest_terms : (("_in_lowest_terms" : Str) == ("__debug__" : Str)) = false := by decide
  exact ss_one (s_ret (v_call hx tk d__in_lowest_terms hr1 l__in_lowest_terms (b_val (v_op op_mulA s_mul (v_ix hx (w0 _) v_int (fun _ _ => rfl)) (v_ix hx (w1 _) v_int (fun _ _ => rfl))) (b_val (v_op op_mulA s_mul (v_ix hx (w0 _) v_int (fun _ _ => rfl)) (v_ix hx (w1 _) v_int (fun _ _ => rfl))) b_nil star_BinOp) star_BinOp) q__in_lowest_terms star_BinOp rfl))
end
abbrev st_over : Stmt := top 21
abbrev N_over : List Str := ["one", "two"]
theorem sc_over : FnScope N_over ["one", "two"] (defScope st_over) := ⟨rfl, rfl, rfl, by decide +kernel, rfl, by decide +kernel, by decide +kernel⟩
section
variable {P : Program} {w : World} {K : PySem.W.Frag} {mg : Str → Option Value} {base : Heap}
theorem ok_over {fd : FuncData} (F : FunD K "over" "over" (defArgs st_over) (defBody st_over) (defScope st_over) [] [] (He.ga K "over") fd) (e_BadRatio : ExcCl P w K mg base "BadRatio" ["what"]) (d__in_lowest_terms : Def P w K mg base 1 "_in_lowest_terms" ["top", "bottom"] [false, false] F__in_lowest_terms) :
    FnOk P w K mg base (L2.CX P w) 3 (He.ga K "over") fd ["one", "two"] (spF K mg [false, false] F_over) := by
  refine fn_ok F sc_over rfl (fun cdv A outer s H E Γ hr hx hP tk po => ?_)
  have v1 : ∀ pos : Pos, PE (cxOf (L2.CX P w) P w K mg base N_over "over" (defScope st_over) (He.ga K "over") cdv A outer s H E) (.Name "two" pos) (tVar 1) := fun pos => pv 1
  have p1 := hP 1 (by decide)
  have w1 : ∀ pos : Pos, PE (cxOf (L2.CX P w) P w K mg base N_over "over" (defScope st_over) (He.ga K "over") cdv A outer s H E) (.Name "two" pos) (DE Γ (eVar 1)) := fun pos => v_var (v1 pos) p1
  have hr2 := hr.mono (show 2 ≤ 2 by decide)
  have v0 : ∀ pos : Pos, PE (cxOf (L2.CX P w) P w K mg base N_over "over" (defScope st_over) (He.ga K "over") cdv A outer s H E) (.Name "one" pos) (tVar 0) := fun pos => pv 0
  have p0 := hP 0 (by decide)
  have w0 : ∀ pos : Pos, PE (cxOf (L2.CX P w) P w K mg base N_over "over" (defScope st_over) (He.ga K "over") cdv A outer s H E) (.Name "one" pos) (DE Γ (eVar 0)) := fun pos => v_var (v0 pos) p0
  have hr1 := hr.mono (show 1 ≤ 2 by decide)
  have l__in_lowest_terms : Gl (cxOf (L2.CX P w) P w K mg base N_over "over" (defScope st_over) (He.ga K "over") cdv A outer s H E) "_in_lowest_terms" := by rfl
  have q__in_lowest_terms : (("_in_lowest_terms" : Str) == ("__debug__" : Str)) = false := by decide
  refine ss_cons (s_if (t_eq hx hr.units (v_ix hx (w1 _) v_int (fun _ _ => rfl)) v_int rfl)
 (by exact ss_one (s_raise hx rfl tk e_BadRatio hr2 (by rfl) (v_cons v_str v_nil star_Constant)))
 ss_nil) ?_
  exact ss_one (s_ret (v_call hx tk d__in_lowest_terms hr1 l__in_lowest_terms (b_val (v_op op_mulA s_mul (v_ix hx (w0 _) v_int (fun _ _ => rfl)) (v_ix hx (w1 _) v_int (fun _ _ => rfl))) (b_val (v_op op_mulA s_mul (v_ix hx (w0 _) v_int (fun _ _ => rfl)) (v_ix hx (w1 _) v_int (fun _ _ => rfl))) b_nil star_BinOp) star_BinOp) q__in_lowest_terms star_BinOp rfl))
end
abbrev st_negative : Stmt := top 22
abbrev N_negative : List Str := ["one"]
theorem sc_negative : FnScope N_negative ["one"] (defScope st_negative) := ⟨rfl, rfl, rfl, by decide +kernel, rfl, by decide +kernel, by decide +kernel⟩
section
variable {P : Program} {w : World} {K : PySem.W.Frag} {mg : Str → Option Value} {base : Heap}
theorem ok_negative {fd : FuncData} (F : FunD K "negative" "negative" (defArgs st_negative) (defBody st_negative) (defScope st_negative) [] [] (He.ga K "negative") fd)  :
    FnOk P w K mg base (L2.CX P w) 1 (He.ga K "negative") fd ["one"] (spF K mg [false] F_negative) := by
  refine fn_ok F sc_negative rfl (fun cdv A outer s H E Γ hr hx hP tk po => ?_)
  have v0 : ∀ pos : Pos, PE (cxOf (L2.CX P w) P w K mg base N_negative "negative" (defScope st_negative) (He.ga K "negative") cdv A outer s H E) (.Name "one" pos) (tVar 0) := fun pos => pv 0
  have p0 := hP 0 (by decide)
  have w0 : ∀ pos : Pos, PE (cxOf (L2.CX P w) P w K mg base N_negative "negative" (defScope st_negative) (He.ga K "negative") cdv A outer s H E) (.Name "one" pos) (DE Γ (eVar 0)) := fun pos => v_var (v0 pos) p0
  exact ss_one (s_ret (v_tup (v_cons (v_un un_neg s_neg (v_ix hx (w0 _) v_int (fun _ _ => rfl))) (v_cons (v_ix hx (w0 _) v_int (fun _ _ => rfl)) v_nil star_Subscript) star_UnaryOp)))
end
abbrev st_compare : Stmt := top 23
abbrev N_compare : List Str := ["one", "two", "left", "right"]
theorem sc_compare : FnScope N_compare ["one", "two"] (defScope st_compare) := ⟨rfl, rfl, rfl, by decide +kernel, rfl, by decide +kernel, by decide +kernel⟩
section
variable {P : Program} {w : World} {K : PySem.W.Frag} {mg : Str → Option Value} {base : Heap}
theorem ok_compare {fd : FuncData} (F : FunD K "compare" "compare" (defArgs st_compare) (defBody st_compare) (defScope st_compare) [] [] (He.ga K "compare") fd)  :
    FnOk P w K mg base (L2.CX P w) 1 (He.ga K "compare") fd ["one", "two"] (spF K mg [false, false] F_compare) := by
  refine fn_ok F sc_compare rfl (fun cdv A outer s H E Γ hr hx hP tk po => ?_)
  have v0 : ∀ pos : Pos, PE (cxOf (L2.CX P w) P w K mg base N_compare "compare" (defScope st_compare) (He.ga K "compare") cdv A outer s H E) (.Name "one" pos) (tVar 0) := fun pos => pv 0
  have p0 := hP 0 (by decide)
  have w0 : ∀ pos : Pos, PE (cxOf (L2.CX P w) P w K mg base N_compare "compare" (defScope st_compare) (He.ga K "compare") cdv A outer s H E) (.Name "one" pos) (DE Γ (eVar 0)) := fun pos => v_var (v0 pos) p0
  have v1 : ∀ pos : Pos, PE (cxOf (L2.CX P w) P w K mg base N_compare "compare" (defScope st_compare) (He.ga K "compare") cdv A outer s H E) (.Name "two" pos) (tVar 1) := fun pos => pv 1
  have p1 := hP 1 (by decide)
  have w1 : ∀ pos : Pos, PE (cxOf (L2.CX P w) P w K mg base N_compare "compare" (defScope st_compare) (He.ga K "compare") cdv A outer s H E) (.Name "two" pos) (DE Γ (eVar 1)) := fun pos => v_var (v1 pos) p1
  have p2 := hP 2 (by decide)
  have p3 := hP 3 (by decide)
  have v2 : ∀ pos : Pos, PE (cxOf (L2.CX P w) P w K mg base N_compare "compare" (defScope st_compare) (He.ga K "compare") cdv A outer s H E) (.Name "left" pos) (tVar 2) := fun pos => pv 2
  have w2 : ∀ pos : Pos, PE (cxOf (L2.CX P w) P w K mg base N_compare "compare" (defScope st_compare) (He.ga K "compare") cdv A outer s H E) (.Name "left" pos) (DE Γ (eVar 2)) := fun pos => v_var (v2 pos) p2
  have v3 : ∀ pos : Pos, PE (cxOf (L2.CX P w) P w K mg base N_compare "compare" (defScope st_compare) (He.ga K "compare") cdv A outer s H E) (.Name "right" pos) (tVar 3) := fun pos => pv 3
  have w3 : ∀ pos : Pos, PE (cxOf (L2.CX P w) P w K mg base N_compare "compare" (defScope st_compare) (He.ga K "compare") cdv A outer s H E) (.Name "right" pos) (DE Γ (eVar 3)) := fun pos => v_var (v3 pos) p3
  refine ss_cons (s_asg (ps_set (i := 2) sc_compare.nd rfl (by first | exact Or.inl rfl | exact Or.inr rfl) (v_op op_mulA s_mul (v_ix hx (w0 _) v_int (fun _ _ => rfl)) (v_ix hx (w1 _) v_int (fun _ _ => rfl)))) p2) ?_
  refine ss_cons (s_asg (ps_set (i := 3) sc_compare.nd rfl (by first | exact Or.inl rfl | exact Or.inr rfl) (v_op op_mulA s_mul (v_ix hx (w1 _) v_int (fun _ _ => rfl)) (v_ix hx (w0 _) v_int (fun _ _ => rfl)))) p3) ?_
  refine ss_cons (s_if (t_cmp op_lt s_cmp (w2 _) (w3 _) rfl)
 (by exact ss_one (s_ret (v_un un_neg s_neg v_int)))
 ss_nil) ?_
  exact ss_one (s_ret (v_if (t_cmp op_gt s_cmp (w2 _) (w3 _) rfl) v_int v_int))
end
abbrev st_sum_of : Stmt := top 24
abbrev N_sum_of : List Str := ["ratios", "total", "ratio"]
theorem sc_sum_of : FnScope N_sum_of ["ratios"] (defScope st_sum_of) := ⟨rfl, rfl, rfl, by decide +kernel, rfl, by decide +kernel, by decide +kernel⟩
section
variable {P : Program} {w : World} {K : PySem.W.Frag} {mg : Str → Option Value} {base : Heap}
theorem ok_sum_of {fd : FuncData} (F : FunD K "sum_of" "sum_of" (defArgs st_sum_of) (defBody st_sum_of) (defScope st_sum_of) [] [] (He.ga K "sum_of") fd) (c_ZERO : Const K mg "ZERO" (.tup [.int 0, .int 1])) (d_plus : Def P w K mg base 2 "plus" ["one", "two"] [false, false] F_plus) :
    FnOk P w K mg base (L2.CX P w) 3 (He.ga K "sum_of") fd ["ratios"] (spF K mg [false] F_sum_of) := by
  refine fn_ok F sc_sum_of rfl (fun cdv A outer s H E Γ hr hx hP tk po => ?_)
  have l_ZERO : Gl (cxOf (L2.CX P w) P w K mg base N_sum_of "sum_of" (defScope st_sum_of) (He.ga K "sum_of") cdv A outer s H E) "ZERO" := by rfl
  have q_ZERO : (("ZERO" : Str) == ("__debug__" : Str)) = false := by decide
  have p1 := hP 1 (by decide)
  have v0 : ∀ pos : Pos, PE (cxOf (L2.CX P w) P w K mg base N_sum_of "sum_of" (defScope st_sum_of) (He.ga K "sum_of") cdv A outer s H E) (.Name "ratios" pos) (tVar 0) := fun pos => pv 0
  have p0 := hP 0 (by decide)
  have w0 : ∀ pos : Pos, PE (cxOf (L2.CX P w) P w K mg base N_sum_of "sum_of" (defScope st_sum_of) (He.ga K "sum_of") cdv A outer s H E) (.Name "ratios" pos) (DE Γ (eVar 0)) := fun pos => v_var (v0 pos) p0
  have p2 := hP 2 (by decide)
  have v2 : ∀ pos : Pos, PE (cxOf (L2.CX P w) P w K mg base N_sum_of "sum_of" (defScope st_sum_of) (He.ga K "sum_of") cdv A outer s H E) (.Name "ratio" pos) (tVar 2) := fun pos => pv 2
  have w2 : ∀ pos : Pos, PE (cxOf (L2.CX P w) P w K mg base N_sum_of "sum_of" (defScope st_sum_of) (He.ga K "sum_of") cdv A outer s H E) (.Name "ratio" pos) (DE Γ (eVar 2)) := fun pos => v_var (v2 pos) p2
  have v1 : ∀ pos : Pos, PE (cxOf (L2.CX P w) P w K mg base N_sum_of "sum_of" (defScope st_sum_of) (He.ga K "sum_of") cdv A outer s H E) (.Name "total" pos) (tVar 1) := fun pos => pv 1
  have w1 : ∀ pos : Pos, PE (cxOf (L2.CX P w) P w K mg base N_sum_of "sum_of" (defScope st_sum_of) (He.ga K "sum_of") cdv A outer s H E) (.Name "total" pos) (DE Γ (eVar 1)) := fun pos => v_var (v1 pos) p1
  have hr2 := hr.mono (show 2 ≤ 2 by decide)
  have l_plus : Gl (cxOf (L2.CX P w) P w K mg base N_sum_of "sum_of" (defScope st_sum_of) (He.ga K "sum_of") cdv A outer s H E) "plus" := by rfl
  have q_plus : (("plus" : Str) == ("__debug__" : Str)) = false := by decide
  refine ss_cons (s_asg (ps_set (i := 1) sc_sum_of.nd rfl (by first | exact Or.inl rfl | exact Or.inr rfl) (v_const c_ZERO hx l_ZERO q_ZERO)) p1) ?_
  refine ss_cons (s_for (is := [2]) (ps_for po rfl (i_seq hx (w0 _)) (g_name (pg_name sc_sum_of.nd rfl (by first | exact Or.inl rfl | exact Or.inr rfl)) p2)
 (by exact ss_one (s_asg (ps_set (i := 1) sc_sum_of.nd rfl (by first | exact Or.inl rfl | exact Or.inr rfl) (v_call hx tk d_plus hr2 l_plus (b_val (w1 _) (b_val (w2 _) b_nil star_Name) star_Name) q_plus star_Name rfl)) p1)))) ?_
  exact ss_one (s_ret (w1 _))
end
abbrev st_least_of : Stmt := top 25
abbrev N_least_of : List Str := ["ratios", "least", "ratio"]
theorem sc_least_of : FnScope N_least_of ["ratios"] (defScope st_least_of) := ⟨rfl, rfl, rfl, by decide +kernel, rfl, by decide +kernel, by decide +kernel⟩
section
variable {P : Program} {w : World} {K : PySem.W.Frag} {mg : Str → Option Value} {base : Heap}
theorem ok_least_of {fd : FuncData} (F : FunD K "least_of" "least_of" (defArgs st_least_of) (defBody st_least_of) (defScope st_least_of) [] [] (He.ga K "least_of") fd) (d_compare : Def P w K mg base 1 "compare" ["one", "two"] [false, false] F_compare) :
    FnOk P w K mg base (L2.CX P w) 2 (He.ga K "least_of") fd ["ratios"] (spF K mg [false] F_least_of) := by
  refine fn_ok F sc_least_of rfl (fun cdv A outer s H E Γ hr hx hP tk po => ?_)
  have v0 : ∀ pos : Pos, PE (cxOf (L2.CX P w) P w K mg base N_least_of "least_of" (defScope st_least_of) (He.ga K "least_of") cdv A outer s H E) (.Name "ratios" pos) (tVar 0) := fun pos => pv 0
  have p0 := hP 0 (by decide)
  have w0 : ∀ pos : Pos, PE (cxOf (L2.CX P w) P w K mg base N_least_of "least_of" (defScope st_least_of) (He.ga K "least_of") cdv A outer s H E) (.Name "ratios" pos) (DE Γ (eVar 0)) := fun pos => v_var (v0 pos) p0
  have p1 := hP 1 (by decide)
  have p2 := hP 2 (by decide)
  have v1 : ∀ pos : Pos, PE (cxOf (L2.CX P w) P w K mg base N_least_of "least_of" (defScope st_least_of) (He.ga K "least_of") cdv A outer s H E) (.Name "least" pos) (tVar 1) := fun pos => pv 1
  have w1 : ∀ pos : Pos, PE (cxOf (L2.CX P w) P w K mg base N_least_of "least_of" (defScope st_least_of) (He.ga K "least_of") cdv A outer s H E) (.Name "least" pos) (DE Γ (eVar 1)) := fun pos => v_var (v1 pos) p1
  have v2 : ∀ pos : Pos, PE (cxOf (L2.CX P w) P w K mg base N_least_of "least_of" (defScope st_least_of) (He.ga K "least_of") cdv A outer s H E) (.Name "ratio" pos) (tVar 2) := fun pos => pv 2
  have w2 : ∀ pos : Pos, PE (cxOf (L2.CX P w) P w K mg base N_least_of "least_of" (defScope st_least_of) (He.ga K "least_of") cdv A outer s H E) (.Name "ratio" pos) (DE Γ (eVar 2)) := fun pos => v_var (v2 pos) p2
  have hr1 := hr.mono (show 1 ≤ 1 by decide)
  have l_compare : Gl (cxOf (L2.CX P w) P w K mg base N_least_of "least_of" (defScope st_least_of) (He.ga K "least_of") cdv A outer s H E) "compare" := by rfl
  have q_compare : (("compare" : Str) == ("__debug__" : Str)) = false := by decide
  refine ss_cons (s_asg (ps_set (i := 1) sc_least_of.nd rfl (by first | exact Or.inl rfl | exact Or.inr rfl) (v_ix hx (w0 _) v_int (fun _ _ => rfl))) p1) ?_
  refine ss_cons (s_for (is := [2]) (ps_for po rfl (i_seq hx (w0 _)) (g_name (pg_name sc_least_of.nd rfl (by first | exact Or.inl rfl | exact Or.inr rfl)) p2)
 (by exact ss_one (s_if (t_cmp op_lt s_cmp (v_call hx tk d_compare hr1 l_compare (b_val (w2 _) (b_val (w1 _) b_nil star_Name) star_Name) q_compare star_Name rfl) v_int rfl)
 (by exact ss_one (s_asg (ps_set (i := 1) sc_least_of.nd rfl (by first | exact Or.inl rfl | exact Or.inr rfl) (w2 _)) p1))
 ss_nil)))) ?_
  exact ss_one (s_ret (w1 _))
end
abbrev st_greatest_of : Stmt := top 26
abbrev N_greatest_of : List Str := ["ratios", "greatest", "ratio"]
theorem sc_greatest_of : FnScope N_greatest_of ["ratios"] (defScope st_greatest_of) := ⟨rfl, rfl, rfl, by decide +kernel, rfl, by decide +kernel, by decide +kernel⟩
section
variable {P : Program} {w : World} {K : PySem.W.Frag} {mg : Str → Option Value} {base : Heap}
theorem ok_greatest_of {fd : FuncData} (F : FunD K "greatest_of" "greatest_of" (defArgs st_greatest_of) (defBody st_greatest_of) (defScope st_greatest_of) [] [] (He.ga K "greatest_of") fd) (d_compare : Def P w K mg base 1 "compare" ["one", "two"] [false, false] F_compare) :
    FnOk P w K mg base (L2.CX P w) 2 (He.ga K "greatest_of") fd ["ratios"] (spF K mg [false] F_greatest_of) := by
  refine fn_ok F sc_greatest_of rfl (fun cdv A outer s H E Γ hr hx hP tk po => ?_)
  have v0 : ∀ pos : Pos, PE (cxOf (L2.CX P w) P w K mg base N_greatest_of "greatest_of" (defScope st_greatest_of) (He.ga K "greatest_of") cdv A outer s H E) (.Name "ratios" pos) (tVar 0) := fun pos => pv 0
  have p0 := hP 0 (by decide)
  have w0 : ∀ pos : Pos, PE (cxOf (L2.CX P w) P w K mg base N_greatest_of "greatest_of" (defScope st_greatest_of) (He.ga K "greatest_of") cdv A outer s H E) (.Name "ratios" pos) (DE Γ (eVar 0)) := fun pos => v_var (v0 pos) p0
  have p1 := hP 1 (by decide)
  have p2 := hP 2 (by decide)
  have v1 : ∀ pos : Pos, PE (cxOf (L2.CX P w) P w K mg base N_greatest_of "greatest_of" (defScope st_greatest_of) (He.ga K "greatest_of") cdv A outer s H E) (.Name "greatest" pos) (tVar 1) := fun pos => pv 1
  have w1 : ∀ pos : Pos, PE (cxOf (L2.CX P w) P w K mg base N_greatest_of "greatest_of" (defScope st_greatest_of) (He.ga K "greatest_of") cdv A outer s H E) (.Name "greatest" pos) (DE Γ (eVar 1)) := fun pos => v_var (v1 pos) p1
  have v2 : ∀ pos : Pos, PE (cxOf (L2.CX P w) P w K mg base N_greatest_of "greatest_of" (defScope st_greatest_of) (He.ga K "greatest_of") cdv A outer s H E) (.Name "ratio" pos) (tVar 2) := fun pos => pv 2
  have w2 : ∀ pos : Pos, PE (cxOf (L2.CX P w) P w K mg base N_greatest_of "greatest_of" (defScope st_greatest_of) (He.ga K "greatest_of") cdv A outer s H E) (.Name "ratio" pos) (DE Γ (eVar 2)) := fun pos => v_var (v2 pos) p2
  have hr1 := hr.mono (show 1 ≤ 1 by decide)
  have l_compare : Gl (cxOf (L2.CX P w) P w K mg base N_greatest_of "greatest_of" (defScope st_greatest_of) (He.ga K "greatest_of") cdv A outer s H E) "compare" := by rfl
  have q_compare : (("compare" : Str) == ("__debug__" : Str)) = false := by decide
  refine ss_cons (s_asg (ps_set (i := 1) sc_greatest_of.nd rfl (by first | exact Or.inl rfl | exact Or.inr rfl) (v_ix hx (w0 _) v_int (fun _ _ => rfl))) p1) ?_
  refine ss_cons (s_for (is := [2]) (ps_for po rfl (i_seq hx (w0 _)) (g_name (pg_name sc_greatest_of.nd rfl (by first | exact Or.inl rfl | exact Or.inr rfl)) p2)
 (by exact ss_one (s_if (t_cmp op_gt s_cmp (v_call hx tk d_compare hr1 l_compare (b_val (w2 _) (b_val (w1 _) b_nil star_Name) star_Name) q_compare star_Name rfl) v_int rfl)
 (by exact ss_one (s_asg (ps_set (i := 1) sc_greatest_of.nd rfl (by first | exact Or.inl rfl | exact Or.inr rfl) (w2 _)) p1))
 ss_nil)))) ?_
  exact ss_one (s_ret (w1 _))
end
abbrev st_floor_of : Stmt := top 27
abbrev N_floor_of : List Str := ["one"]
theorem sc_floor_of : FnScope N_floor_of ["one"] (defScope st_floor_of) := ⟨rfl, rfl, rfl, by decide +kernel, rfl, by decide +kernel, by decide +kernel⟩
section
variable {P : Program} {w : World} {K : PySem.W.Frag} {mg : Str → Option Value} {base : Heap}
theorem ok_floor_of {fd : FuncData} (F : FunD K "floor_of" "floor_of" (defArgs st_floor_of) (defBody st_floor_of) (defScope st_floor_of) [] [] (He.ga K "floor_of") fd)  :
    FnOk P w K mg base (L2.CX P w) 1 (He.ga K "floor_of") fd ["one"] (spF K mg [false] F_floor_of) := by
  refine fn_ok F sc_floor_of rfl (fun cdv A outer s H E Γ hr hx hP tk po => ?_)
  have v0 : ∀ pos : Pos, PE (cxOf (L2.CX P w) P w K mg base N_floor_of "floor_of" (defScope st_floor_of) (He.ga K "floor_of") cdv A outer s H E) (.Name "one" pos) (tVar 0) := fun pos => pv 0
  have p0 := hP 0 (by decide)
  have w0 : ∀ pos : Pos, PE (cxOf (L2.CX P w) P w K mg base N_floor_of "floor_of" (defScope st_floor_of) (He.ga K "floor_of") cdv A outer s H E) (.Name "one" pos) (DE Γ (eVar 0)) := fun pos => v_var (v0 pos) p0
  exact ss_one (s_ret (v_op op_fdivZ s_div (v_ix hx (w0 _) v_int (fun _ _ => rfl)) (v_ix hx (w0 _) v_int (fun _ _ => rfl))))
end
abbrev st_ratio_text : Stmt := top 28
abbrev N_ratio_text : List Str := ["one", "top", "bottom"]
theorem sc_ratio_text : FnScope N_ratio_text ["one"] (defScope st_ratio_text) := ⟨rfl, rfl, rfl, by decide +kernel, rfl, by decide +kernel, by decide +kernel⟩
section
variable {P : Program} {w : World} {K : PySem.W.Frag} {mg : Str → Option Value} {base : Heap}
theorem ok_ratio_text {fd : FuncData} (F : FunD K "ratio_text" "ratio_text" (defArgs st_ratio_text) (defBody st_ratio_text) (defScope st_ratio_text) [] [] (He.ga K "ratio_text") fd)  :
    FnOk P w K mg base (L2.CX P w) 1 (He.ga K "ratio_text") fd ["one"] (spF K mg [false] F_ratio_text) := by
  refine fn_ok F sc_ratio_text rfl (fun cdv A outer s H E Γ hr hx hP tk po => ?_)
  have v0 : ∀ pos : Pos, PE (cxOf (L2.CX P w) P w K mg base N_ratio_text "ratio_text" (defScope st_ratio_text) (He.ga K "ratio_text") cdv A outer s H E) (.Name "one" pos) (tVar 0) := fun pos => pv 0
  have p0 := hP 0 (by decide)
  have w0 : ∀ pos : Pos, PE (cxOf (L2.CX P w) P w K mg base N_ratio_text "ratio_text" (defScope st_ratio_text) (He.ga K "ratio_text") cdv A outer s H E) (.Name "one" pos) (DE Γ (eVar 0)) := fun pos => v_var (v0 pos) p0
  have p2 := hP 2 (by decide)
  have p1 := hP 1 (by decide)
  have v2 : ∀ pos : Pos, PE (cxOf (L2.CX P w) P w K mg base N_ratio_text "ratio_text" (defScope st_ratio_text) (He.ga K "ratio_text") cdv A outer s H E) (.Name "bottom" pos) (tVar 2) := fun pos => pv 2
  have w2 : ∀ pos : Pos, PE (cxOf (L2.CX P w) P w K mg base N_ratio_text "ratio_text" (defScope st_ratio_text) (He.ga K "ratio_text") cdv A outer s H E) (.Name "bottom" pos) (DE Γ (eVar 2)) := fun pos => v_var (v2 pos) p2
  have v1 : ∀ pos : Pos, PE (cxOf (L2.CX P w) P w K mg base N_ratio_text "ratio_text" (defScope st_ratio_text) (He.ga K "ratio_text") cdv A outer s H E) (.Name "top" pos) (tVar 1) := fun pos => pv 1
  have w1 : ∀ pos : Pos, PE (cxOf (L2.CX P w) P w K mg base N_ratio_text "ratio_text" (defScope st_ratio_text) (He.ga K "ratio_text") cdv A outer s H E) (.Name "top" pos) (DE Γ (eVar 1)) := fun pos => v_var (v1 pos) p1
  refine ss_cons (s_asgG (ps_asg (w0 _) (g_tup hx rfl (gs_cons (g_name (pg_name sc_ratio_text.nd rfl (by first | exact Or.inl rfl | exact Or.inr rfl)) p1) (gs_cons (g_name (pg_name sc_ratio_text.nd rfl (by first | exact Or.inl rfl | exact Or.inr rfl)) p2) gs_nil))))) ?_
  exact ss_one (s_ret (v_if (t_eq hx hr.units (w2 _) v_int rfl) (v_joined1 (v_fmt (w1 _))) (v_joined (.cons (v_fmt (w1 _)) (.cons v_str (.cons (v_fmt (w2 _)) .nil))))))
end
abbrev st__law_hand : Stmt := top 30
abbrev N__law_hand : List Str := ["_law_script", "_law_total", "_law_cells", "_law_cell"]
theorem sc__law_hand : FnScope N__law_hand ["_law_script"] (defScope st__law_hand) := ⟨rfl, rfl, rfl, by decide +kernel, rfl, by decide +kernel, by decide +kernel⟩
section
variable {P : Program} {w : World} {K : PySem.W.Frag} {mg : Str → Option Value} {base : Heap}
theorem ok__law_hand {fd : FuncData} (F : FunD K "_law_hand" "_law_hand" (defArgs st__law_hand) (defBody st__law_hand) (defScope st__law_hand) [] [] (He.ga K "_law_hand") fd) (n_len : mg "len" = none) (n_int : mg "int" = none) (n_abs : mg "abs" = none) :
    FnOk P w K mg base (L2.CX P w) 1 (He.ga K "_law_hand") fd ["_law_script"] (spF K mg [false] F__law_hand) := by
  refine fn_ok F sc__law_hand rfl (fun cdv A outer s H E Γ hr hx hP tk po => ?_)
  have v0 : ∀ pos : Pos, PE (cxOf (L2.CX P w) P w K mg base N__law_hand "_law_hand" (defScope st__law_hand) (He.ga K "_law_hand") cdv A outer s H E) (.Name "_law_script" pos) (tVar 0) := fun pos => pv 0
  have p0 := hP 0 (by decide)
  have w0 : ∀ pos : Pos, PE (cxOf (L2.CX P w) P w K mg base N__law_hand "_law_hand" (defScope st__law_hand) (He.ga K "_law_hand") cdv A outer s H E) (.Name "_law_script" pos) (DE Γ (eVar 0)) := fun pos => v_var (v0 pos) p0
  have l_len : Gl (cxOf (L2.CX P w) P w K mg base N__law_hand "_law_hand" (defScope st__law_hand) (He.ga K "_law_hand") cdv A outer s H E) "len" := by rfl
  have r_len : ("len" : Str) ≠ "__name__" := by decide
  have q_len : (("len" : Str) == ("__debug__" : Str)) = false := by decide
  have p1 := hP 1 (by decide)
  have p2 := hP 2 (by decide)
  have p3 := hP 3 (by decide)
  have v1 : ∀ pos : Pos, PE (cxOf (L2.CX P w) P w K mg base N__law_hand "_law_hand" (defScope st__law_hand) (He.ga K "_law_hand") cdv A outer s H E) (.Name "_law_total" pos) (tVar 1) := fun pos => pv 1
  have w1 : ∀ pos : Pos, PE (cxOf (L2.CX P w) P w K mg base N__law_hand "_law_hand" (defScope st__law_hand) (He.ga K "_law_hand") cdv A outer s H E) (.Name "_law_total" pos) (DE Γ (eVar 1)) := fun pos => v_var (v1 pos) p1
  have v3 : ∀ pos : Pos, PE (cxOf (L2.CX P w) P w K mg base N__law_hand "_law_hand" (defScope st__law_hand) (He.ga K "_law_hand") cdv A outer s H E) (.Name "_law_cell" pos) (tVar 3) := fun pos => pv 3
  have w3 : ∀ pos : Pos, PE (cxOf (L2.CX P w) P w K mg base N__law_hand "_law_hand" (defScope st__law_hand) (He.ga K "_law_hand") cdv A outer s H E) (.Name "_law_cell" pos) (DE Γ (eVar 3)) := fun pos => v_var (v3 pos) p3
  have l_int : Gl (cxOf (L2.CX P w) P w K mg base N__law_hand "_law_hand" (defScope st__law_hand) (He.ga K "_law_hand") cdv A outer s H E) "int" := by rfl
  have r_int : ("int" : Str) ≠ "__name__" := by decide
  have q_int : (("int" : Str) == ("__debug__" : Str)) = false := by decide
  have l_abs : Gl (cxOf (L2.CX P w) P w K mg base N__law_hand "_law_hand" (defScope st__law_hand) (He.ga K "_law_hand") cdv A outer s H E) "abs" := by rfl
  have r_abs : ("abs" : Str) ≠ "__name__" := by decide
  have q_abs : (("abs" : Str) == ("__debug__" : Str)) = false := by decide
  have v2 : ∀ pos : Pos, PE (cxOf (L2.CX P w) P w K mg base N__law_hand "_law_hand" (defScope st__law_hand) (He.ga K "_law_hand") cdv A outer s H E) (.Name "_law_cells" pos) (tVar 2) := fun pos => pv 2
  have w2 : ∀ pos : Pos, PE (cxOf (L2.CX P w) P w K mg base N__law_hand "_law_hand" (defScope st__law_hand) (He.ga K "_law_hand") cdv A outer s H E) (.Name "_law_cells" pos) (DE Γ (eVar 2)) := fun pos => v_var (v2 pos) p2
  refine ss_cons (s_asg (ps_set (i := 1) sc__law_hand.nd rfl (by first | exact Or.inl rfl | exact Or.inr rfl) (v_add hx (v_len hx l_len n_len (by decide +kernel) (v_cons (w0 _) v_nil star_Name) r_len q_len star_Name rfl) v_int)) p1) ?_
  refine ss_cons (s_asgO (ps_set (i := 2) sc__law_hand.nd rfl (by first | exact Or.inl rfl | exact Or.inr rfl) (f_lst v_nil)) p2) ?_
  refine ss_cons (s_for (is := [3]) (ps_for po rfl (i_seq hx (w0 _)) (g_name (pg_name sc__law_hand.nd rfl (by first | exact Or.inl rfl | exact Or.inr rfl)) p3)
 (by refine ss_cons (s_asg (ps_set (i := 1) sc__law_hand.nd rfl (by first | exact Or.inl rfl | exact Or.inr rfl) (v_op op_modN s_mod (v_callTy call_int1 c_int l_int n_int (by decide +kernel) (v_cons (v_add hx (v_op op_mulA s_mul (w1 _) v_int) (v_callTy call_int1 c_int l_int n_int (by decide +kernel) (v_cons (w3 _) v_nil star_Name) r_int q_int star_Name rfl)) v_nil star_BinOp) r_int q_int star_BinOp rfl) v_int)) p1) ?_; exact ss_one (s_app hx (ps_expr (pe_bm PySem.F.plainAttrs_list PySem.F.slot_list_append PySem.F.type_list_append mt_append (v2 _) (pa_cons (v_callB call_abs c_abs l_abs n_abs (by decide +kernel) (v_cons (v_callTy call_int1 c_int l_int n_int (by decide +kernel) (v_cons (w3 _) v_nil star_Name) r_int q_int star_Name rfl) v_nil star_Call) r_abs q_abs star_Call rfl) pa_nil))))))) ?_
  exact ss_one (s_retO (f_lst (v_cons (w2 _) (v_cons v_int (v_cons v_int (v_cons (w1 _) v_nil star_Name) star_Constant) star_Constant) star_Name)))
end
abbrev st__law_mixed : Stmt := top 31
abbrev N__law_mixed : List Str := ["_law_number_here", "_law_turn", "_law_once", "_law_twice"]
theorem sc__law_mixed : FnScope N__law_mixed ["_law_number_here", "_law_turn"] (defScope st__law_mixed) := ⟨rfl, rfl, rfl, by decide +kernel, rfl, by decide +kernel, by decide +kernel⟩
section
variable {P : Program} {w : World} {K : PySem.W.Frag} {mg : Str → Option Value} {base : Heap}
theorem ok__law_mixed {fd : FuncData} (F : FunD K "_law_mixed" "_law_mixed" (defArgs st__law_mixed) (defBody st__law_mixed) (defScope st__law_mixed) [] [] (He.ga K "_law_mixed") fd) (n_int : mg "int" = none) :
    FnOk P w K mg base (L2.CX P w) 1 (He.ga K "_law_mixed") fd ["_law_number_here", "_law_turn"] (spF K mg [false, false] F__law_mixed) := by
  refine fn_ok F sc__law_mixed rfl (fun cdv A outer s H E Γ hr hx hP tk po => ?_)
  have v0 : ∀ pos : Pos, PE (cxOf (L2.CX P w) P w K mg base N__law_mixed "_law_mixed" (defScope st__law_mixed) (He.ga K "_law_mixed") cdv A outer s H E) (.Name "_law_number_here" pos) (tVar 0) := fun pos => pv 0
  have p0 := hP 0 (by decide)
  have w0 : ∀ pos : Pos, PE (cxOf (L2.CX P w) P w K mg base N__law_mixed "_law_mixed" (defScope st__law_mixed) (He.ga K "_law_mixed") cdv A outer s H E) (.Name "_law_number_here" pos) (DE Γ (eVar 0)) := fun pos => v_var (v0 pos) p0
  have v1 : ∀ pos : Pos, PE (cxOf (L2.CX P w) P w K mg base N__law_mixed "_law_mixed" (defScope st__law_mixed) (He.ga K "_law_mixed") cdv A outer s H E) (.Name "_law_turn" pos) (tVar 1) := fun pos => pv 1
  have p1 := hP 1 (by decide)
  have w1 : ∀ pos : Pos, PE (cxOf (L2.CX P w) P w K mg base N__law_mixed "_law_mixed" (defScope st__law_mixed) (He.ga K "_law_mixed") cdv A outer s H E) (.Name "_law_turn" pos) (DE Γ (eVar 1)) := fun pos => v_var (v1 pos) p1
  have l_int : Gl (cxOf (L2.CX P w) P w K mg base N__law_mixed "_law_mixed" (defScope st__law_mixed) (He.ga K "_law_mixed") cdv A outer s H E) "int" := by rfl
  have r_int : ("int" : Str) ≠ "__name__" := by decide
  have q_int : (("int" : Str) == ("__debug__" : Str)) = false := by decide
  have p2 := hP 2 (by decide)
  have v2 : ∀ pos : Pos, PE (cxOf (L2.CX P w) P w K mg base N__law_mixed "_law_mixed" (defScope st__law_mixed) (He.ga K "_law_mixed") cdv A outer s H E) (.Name "_law_once" pos) (tVar 2) := fun pos => pv 2
  have w2 : ∀ pos : Pos, PE (cxOf (L2.CX P w) P w K mg base N__law_mixed "_law_mixed" (defScope st__law_mixed) (He.ga K "_law_mixed") cdv A outer s H E) (.Name "_law_once" pos) (DE Γ (eVar 2)) := fun pos => v_var (v2 pos) p2
  have p3 := hP 3 (by decide)
  have v3 : ∀ pos : Pos, PE (cxOf (L2.CX P w) P w K mg base N__law_mixed "_law_mixed" (defScope st__law_mixed) (He.ga K "_law_mixed") cdv A outer s H E) (.Name "_law_twice" pos) (tVar 3) := fun pos => pv 3
  have w3 : ∀ pos : Pos, PE (cxOf (L2.CX P w) P w K mg base N__law_mixed "_law_mixed" (defScope st__law_mixed) (He.ga K "_law_mixed") cdv A outer s H E) (.Name "_law_twice" pos) (DE Γ (eVar 3)) := fun pos => v_var (v3 pos) p3
  refine ss_cons (s_asg (ps_set (i := 2) sc__law_mixed.nd rfl (by first | exact Or.inl rfl | exact Or.inr rfl) (v_op op_modN s_mod (v_callTy call_int1 c_int l_int n_int (by decide +kernel) (v_cons (v_add hx (v_add hx (v_op op_mulA s_mul (w0 _) v_int) (v_op op_mulA s_mul (w1 _) v_int)) v_int) v_nil star_BinOp) r_int q_int star_BinOp rfl) v_int)) p2) ?_
  refine ss_cons (s_asg (ps_set (i := 3) sc__law_mixed.nd rfl (by first | exact Or.inl rfl | exact Or.inr rfl) (v_op op_modN s_mod (v_callTy call_int1 c_int l_int n_int (by decide +kernel) (v_cons (v_add hx (v_add hx (v_op op_mulA s_mul (w2 _) (w2 _)) (v_op op_mulA s_mul (w1 _) v_int)) (v_op op_fdivZ s_div (w2 _) v_int)) v_nil star_BinOp) r_int q_int star_BinOp rfl) v_int)) p3) ?_
  exact ss_one (s_ret (v_op op_fdivZ s_div (v_callTy call_int1 c_int l_int n_int (by decide +kernel) (v_cons (v_op op_modN s_mod (v_callTy call_int1 c_int l_int n_int (by decide +kernel) (v_cons (v_add hx (v_op op_mulA s_mul (w3 _) v_int) (v_op op_fdivZ s_div (w2 _) v_int)) v_nil star_BinOp) r_int q_int star_BinOp rfl) v_int) v_nil star_BinOp) r_int q_int star_BinOp rfl) v_int))
end
abbrev st__law_take : Stmt := top 32
abbrev N__law_take : List Str := ["_law_hand_here", "_law_many", "_law_cell", "_law_rest"]
theorem sc__law_take : FnScope N__law_take ["_law_hand_here", "_law_many"] (defScope st__law_take) := ⟨rfl, rfl, rfl, by decide +kernel, rfl, by decide +kernel, by decide +kernel⟩
section
variable {P : Program} {w : World} {K : PySem.W.Frag} {mg : Str → Option Value} {base : Heap}
theorem ok__law_take {fd : FuncData} (F : FunD K "_law_take" "_law_take" (defArgs st__law_take) (defBody st__law_take) (defScope st__law_take) [] [] (He.ga K "_law_take") fd) (n_len : mg "len" = none) (d__law_mixed : Def P w K mg base 1 "_law_mixed" ["_law_number_here", "_law_turn"] [false, false] F__law_mixed) (n_int : mg "int" = none) :
    FnOk P w K mg base (L2.CX P w) 2 (He.ga K "_law_take") fd ["_law_hand_here", "_law_many"] (spF K mg [true, false] F__law_take) := by
  refine fn_ok F sc__law_take rfl (fun cdv A outer s H E Γ hr hx hP tk po => ?_)
  have v0 : ∀ pos : Pos, PE (cxOf (L2.CX P w) P w K mg base N__law_take "_law_take" (defScope st__law_take) (He.ga K "_law_take") cdv A outer s H E) (.Name "_law_hand_here" pos) (tVar 0) := fun pos => pv 0
  have l_len : Gl (cxOf (L2.CX P w) P w K mg base N__law_take "_law_take" (defScope st__law_take) (He.ga K "_law_take") cdv A outer s H E) "len" := by rfl
  have r_len : ("len" : Str) ≠ "__name__" := by decide
  have q_len : (("len" : Str) == ("__debug__" : Str)) = false := by decide
  have p2 := hP 2 (by decide)
  have v2 : ∀ pos : Pos, PE (cxOf (L2.CX P w) P w K mg base N__law_take "_law_take" (defScope st__law_take) (He.ga K "_law_take") cdv A outer s H E) (.Name "_law_cell" pos) (tVar 2) := fun pos => pv 2
  have w2 : ∀ pos : Pos, PE (cxOf (L2.CX P w) P w K mg base N__law_take "_law_take" (defScope st__law_take) (He.ga K "_law_take") cdv A outer s H E) (.Name "_law_cell" pos) (DE Γ (eVar 2)) := fun pos => v_var (v2 pos) p2
  have l_int : Gl (cxOf (L2.CX P w) P w K mg base N__law_take "_law_take" (defScope st__law_take) (He.ga K "_law_take") cdv A outer s H E) "int" := by rfl
  have r_int : ("int" : Str) ≠ "__name__" := by decide
  have q_int : (("int" : Str) == ("__debug__" : Str)) = false := by decide
  have hr1 := hr.mono (show 1 ≤ 1 by decide)
  have l__law_mixed : Gl (cxOf (L2.CX P w) P w K mg base N__law_take "_law_take" (defScope st__law_take) (He.ga K "_law_take") cdv A outer s H E) "_law_mixed" := by rfl
  have q__law_mixed : (("_law_mixed" : Str) == ("__debug__" : Str)) = false := by decide
  have v1 : ∀ pos : Pos, PE (cxOf (L2.CX P w) P w K mg base N__law_take "_law_take" (defScope st__law_take) (He.ga K "_law_take") cdv A outer s H E) (.Name "_law_many" pos) (tVar 1) := fun pos => pv 1
  have p1 := hP 1 (by decide)
  have w1 : ∀ pos : Pos, PE (cxOf (L2.CX P w) P w K mg base N__law_take "_law_take" (defScope st__law_take) (He.ga K "_law_take") cdv A outer s H E) (.Name "_law_many" pos) (DE Γ (eVar 1)) := fun pos => v_var (v1 pos) p1
  have p3 := hP 3 (by decide)
  have v3 : ∀ pos : Pos, PE (cxOf (L2.CX P w) P w K mg base N__law_take "_law_take" (defScope st__law_take) (He.ga K "_law_take") cdv A outer s H E) (.Name "_law_rest" pos) (tVar 3) := fun pos => pv 3
  have w3 : ∀ pos : Pos, PE (cxOf (L2.CX P w) P w K mg base N__law_take "_law_take" (defScope st__law_take) (He.ga K "_law_take") cdv A outer s H E) (.Name "_law_rest" pos) (DE Γ (eVar 3)) := fun pos => v_var (v3 pos) p3
  refine ss_cons (s_if (PW.pt (w_and (t_eq hx hr.units (v_ixS hx (v0 _) v_int (fun _ _ => rfl)) v_int rfl) (w_and1 (t_cmp op_lt s_cmp (v_ixS hx (v0 _) v_int (fun _ _ => rfl)) (v_len hx l_len n_len (by decide +kernel) (v_cons (v_ixS hx (v0 _) v_int (fun _ _ => rfl)) v_nil star_Subscript) r_len q_len star_Subscript rfl) rfl))))
 (by refine ss_cons (s_asg (ps_set (i := 2) sc__law_take.nd rfl (by first | exact Or.inl rfl | exact Or.inr rfl) (v_ix hx (v_ixS hx (v0 _) v_int (fun _ _ => rfl)) (v_ixS hx (v0 _) v_int (fun _ _ => rfl)) (fun _ _ => rfl))) p2) ?_; refine ss_cons (s_setI (ps_asg (v_add hx (v_ixS hx (v0 _) v_int (fun _ _ => rfl)) v_int) (pg_sub (v0 _) v_int set_list))) ?_; refine ss_cons (s_if (t_cmp op_lt s_cmp (w2 _) (v_op op_pow s_pow v_int v_int) rfl)
 (by exact ss_one (s_ret (v_op op_modN s_mod (v_callTy call_int1 c_int l_int n_int (by decide +kernel) (v_cons (v_call hx tk d__law_mixed hr1 l__law_mixed (b_val (v_op op_modN s_mod (v_callTy call_int1 c_int l_int n_int (by decide +kernel) (v_cons (w2 _) v_nil star_Name) r_int q_int star_Name rfl) v_int) (b_val (v_ixS hx (v0 _) v_int (fun _ _ => rfl)) b_nil star_Subscript) star_BinOp) q__law_mixed star_BinOp rfl) v_nil star_Call) r_int q_int star_Call rfl) (w1 _))))
 ss_nil) ?_; exact ss_one (s_setI (ps_asg (w2 _) (pg_sub (v0 _) v_int set_list))))
 ss_nil) ?_
  refine ss_cons (s_if (t_cmp op_gt s_cmp (v_ixS hx (v0 _) v_int (fun _ _ => rfl)) v_int rfl)
 (by refine ss_cons (s_asg (ps_set (i := 3) sc__law_take.nd rfl (by first | exact Or.inl rfl | exact Or.inr rfl) (v_ixS hx (v0 _) v_int (fun _ _ => rfl))) p3) ?_; refine ss_cons (s_setI (ps_asg (v_op op_fdivZ s_div (v_callTy call_int1 c_int l_int n_int (by decide +kernel) (v_cons (w3 _) v_nil star_Name) r_int q_int star_Name rfl) (w1 _)) (pg_sub (v0 _) v_int set_list))) ?_; exact ss_one (s_ret (v_op op_modN s_mod (v_callTy call_int1 c_int l_int n_int (by decide +kernel) (v_cons (w3 _) v_nil star_Name) r_int q_int star_Name rfl) (w1 _))))
 ss_nil) ?_
  refine ss_cons (s_setI (ps_asg (v_op op_modN s_mod (v_callTy call_int1 c_int l_int n_int (by decide +kernel) (v_cons (v_add hx (v_ixS hx (v0 _) v_int (fun _ _ => rfl)) v_int) v_nil star_BinOp) r_int q_int star_BinOp rfl) v_int) (pg_sub (v0 _) v_int set_list))) ?_
  exact ss_one (s_ret (v_op op_modN s_mod (v_callTy call_int1 c_int l_int n_int (by decide +kernel) (v_cons (v_call hx tk d__law_mixed hr1 l__law_mixed (b_val (v_ixS hx (v0 _) v_int (fun _ _ => rfl)) (b_val (v_ixS hx (v0 _) v_int (fun _ _ => rfl)) b_nil star_Subscript) star_Subscript) q__law_mixed star_Subscript rfl) v_nil star_Call) r_int q_int star_Call rfl) (w1 _)))
end
abbrev st__law_gcd : Stmt := top 33
abbrev N__law_gcd : List Str := ["_law_one", "_law_other"]
theorem sc__law_gcd : FnScope N__law_gcd ["_law_one", "_law_other"] (defScope st__law_gcd) := ⟨rfl, rfl, rfl, by decide +kernel, rfl, by decide +kernel, by decide +kernel⟩
section
variable {P : Program} {w : World} {K : PySem.W.Frag} {mg : Str → Option Value} {base : Heap}
theorem ok__law_gcd {fd : FuncData} (F : FunD K "_law_gcd" "_law_gcd" (defArgs st__law_gcd) (defBody st__law_gcd) (defScope st__law_gcd) [] [] (He.ga K "_law_gcd") fd) (n_abs : mg "abs" = none) (n_int : mg "int" = none) :
    FnOk P w K mg base (L2.CX P w) 1 (He.ga K "_law_gcd") fd ["_law_one", "_law_other"] (spF K mg [false, false] F__law_gcd) := by
  refine fn_ok F sc__law_gcd rfl (fun cdv A outer s H E Γ hr hx hP tk po => ?_)
  have v1 : ∀ pos : Pos, PE (cxOf (L2.CX P w) P w K mg base N__law_gcd "_law_gcd" (defScope st__law_gcd) (He.ga K "_law_gcd") cdv A outer s H E) (.Name "_law_other" pos) (tVar 1) := fun pos => pv 1
  have p1 := hP 1 (by decide)
  have w1 : ∀ pos : Pos, PE (cxOf (L2.CX P w) P w K mg base N__law_gcd "_law_gcd" (defScope st__law_gcd) (He.ga K "_law_gcd") cdv A outer s H E) (.Name "_law_other" pos) (DE Γ (eVar 1)) := fun pos => v_var (v1 pos) p1
  have l_abs : Gl (cxOf (L2.CX P w) P w K mg base N__law_gcd "_law_gcd" (defScope st__law_gcd) (He.ga K "_law_gcd") cdv A outer s H E) "abs" := by rfl
  have r_abs : ("abs" : Str) ≠ "__name__" := by decide
  have q_abs : (("abs" : Str) == ("__debug__" : Str)) = false := by decide
  have v0 : ∀ pos : Pos, PE (cxOf (L2.CX P w) P w K mg base N__law_gcd "_law_gcd" (defScope st__law_gcd) (He.ga K "_law_gcd") cdv A outer s H E) (.Name "_law_one" pos) (tVar 0) := fun pos => pv 0
  have p0 := hP 0 (by decide)
  have w0 : ∀ pos : Pos, PE (cxOf (L2.CX P w) P w K mg base N__law_gcd "_law_gcd" (defScope st__law_gcd) (He.ga K "_law_gcd") cdv A outer s H E) (.Name "_law_one" pos) (DE Γ (eVar 0)) := fun pos => v_var (v0 pos) p0
  have l_int : Gl (cxOf (L2.CX P w) P w K mg base N__law_gcd "_law_gcd" (defScope st__law_gcd) (He.ga K "_law_gcd") cdv A outer s H E) "int" := by rfl
  have r_int : ("int" : Str) ≠ "__name__" := by decide
  have q_int : (("int" : Str) == ("__debug__" : Str)) = false := by decide
  refine ss_cons (s_par (ps_par (i := 0) (j := 1) (by rfl) sc__law_gcd.nd rfl rfl (by decide) rfl rfl (v_cons (v_callB call_abs c_abs l_abs n_abs (by decide +kernel) (v_cons (w0 _) v_nil star_Name) r_abs q_abs star_Name rfl) (v_cons (v_callB call_abs c_abs l_abs n_abs (by decide +kernel) (v_cons (w1 _) v_nil star_Name) r_abs q_abs star_Name rfl) v_nil star_Call) star_Call) (by rfl)) p0 p1) ?_
  refine ss_cons (s_while (ps_while po (t_tru hx (w1 _) (fun _ => rfl))
 (by exact ss_one (s_par (ps_par (i := 0) (j := 1) (by rfl) sc__law_gcd.nd rfl rfl (by decide) rfl rfl (v_cons (w1 _) (v_cons (v_op op_modN s_mod (v_callTy call_int1 c_int l_int n_int (by decide +kernel) (v_cons (w0 _) v_nil star_Name) r_int q_int star_Name rfl) (w1 _)) v_nil star_BinOp) star_Name) (by rfl)) p0 p1)))) ?_
  exact ss_one (s_ret (w0 _))
end
abbrev st__law_ratio : Stmt := top 34
abbrev N__law_ratio : List Str := ["_law_top_here", "_law_bottom", "_law_part"]
theorem sc__law_ratio : FnScope N__law_ratio ["_law_top_here", "_law_bottom"] (defScope st__law_ratio) := ⟨rfl, rfl, rfl, by decide +kernel, rfl, by decide +kernel, by decide +kernel⟩
section
variable {P : Program} {w : World} {K : PySem.W.Frag} {mg : Str → Option Value} {base : Heap}
theorem ok__law_ratio {fd : FuncData} (F : FunD K "_law_ratio" "_law_ratio" (defArgs st__law_ratio) (defBody st__law_ratio) (defScope st__law_ratio) [] [] (He.ga K "_law_ratio") fd) (d__law_gcd : Def P w K mg base 1 "_law_gcd" ["_law_one", "_law_other"] [false, false] F__law_gcd) :
    FnOk P w K mg base (L2.CX P w) 2 (He.ga K "_law_ratio") fd ["_law_top_here", "_law_bottom"] (spF K mg [false, false] F__law_ratio) := by
  refine fn_ok F sc__law_ratio rfl (fun cdv A outer s H E Γ hr hx hP tk po => ?_)
  have v1 : ∀ pos : Pos, PE (cxOf (L2.CX P w) P w K mg base N__law_ratio "_law_ratio" (defScope st__law_ratio) (He.ga K "_law_ratio") cdv A outer s H E) (.Name "_law_bottom" pos) (tVar 1) := fun pos => pv 1
  have p1 := hP 1 (by decide)
  have w1 : ∀ pos : Pos, PE (cxOf (L2.CX P w) P w K mg base N__law_ratio "_law_ratio" (defScope st__law_ratio) (He.ga K "_law_ratio") cdv A outer s H E) (.Name "_law_bottom" pos) (DE Γ (eVar 1)) := fun pos => v_var (v1 pos) p1
  have v0 : ∀ pos : Pos, PE (cxOf (L2.CX P w) P w K mg base N__law_ratio "_law_ratio" (defScope st__law_ratio) (He.ga K "_law_ratio") cdv A outer s H E) (.Name "_law_top_here" pos) (tVar 0) := fun pos => pv 0
  have p0 := hP 0 (by decide)
  have w0 : ∀ pos : Pos, PE (cxOf (L2.CX P w) P w K mg base N__law_ratio "_law_ratio" (defScope st__law_ratio) (He.ga K "_law_ratio") cdv A outer s H E) (.Name "_law_top_here" pos) (DE Γ (eVar 0)) := fun pos => v_var (v0 pos) p0
  have hr1 := hr.mono (show 1 ≤ 1 by decide)
  have l__law_gcd : Gl (cxOf (L2.CX P w) P w K mg base N__law_ratio "_law_ratio" (defScope st__law_ratio) (He.ga K "_law_ratio") cdv A outer s H E) "_law_gcd" := by rfl
  have q__law_gcd : (("_law_gcd" : Str) == ("__debug__" : Str)) = false := by decide
  have p2 := hP 2 (by decide)
  have v2 : ∀ pos : Pos, PE (cxOf (L2.CX P w) P w K mg base N__law_ratio "_law_ratio" (defScope st__law_ratio) (He.ga K "_law_ratio") cdv A outer s H E) (.Name "_law_part" pos) (tVar 2) := fun pos => pv 2
  have w2 : ∀ pos : Pos, PE (cxOf (L2.CX P w) P w K mg base N__law_ratio "_law_ratio" (defScope st__law_ratio) (He.ga K "_law_ratio") cdv A outer s H E) (.Name "_law_part" pos) (DE Γ (eVar 2)) := fun pos => v_var (v2 pos) p2
  refine ss_cons (s_asg (ps_set (i := 2) sc__law_ratio.nd rfl (by first | exact Or.inl rfl | exact Or.inr rfl) (v_call hx tk d__law_gcd hr1 l__law_gcd (b_val (w0 _) (b_val (w1 _) b_nil star_Name) star_Name) q__law_gcd star_Name rfl)) p2) ?_
  refine ss_cons (s_if (t_cmp op_lt s_cmp (w1 _) v_int rfl)
 (by exact ss_one (s_asg (ps_set (i := 2) sc__law_ratio.nd rfl (by first | exact Or.inl rfl | exact Or.inr rfl) (v_un un_neg s_neg (w2 _))) p2))
 ss_nil) ?_
  exact ss_one (s_ret (v_tup (v_cons (v_op op_fdivZ s_div (w0 _) (w2 _)) (v_cons (v_op op_fdivZ s_div (w1 _) (w2 _)) v_nil star_BinOp) star_BinOp)))
end
abbrev st__law_plus : Stmt := top 35
abbrev N__law_plus : List Str := ["_law_one", "_law_other"]
theorem sc__law_plus : FnScope N__law_plus ["_law_one", "_law_other"] (defScope st__law_plus) := ⟨rfl, rfl, rfl, by decide +kernel, rfl, by decide +kernel, by decide +kernel⟩
section
variable {P : Program} {w : World} {K : PySem.W.Frag} {mg : Str → Option Value} {base : Heap}
theorem ok__law_plus {fd : FuncData} (F : FunD K "_law_plus" "_law_plus" (defArgs st__law_plus) (defBody st__law_plus) (defScope st__law_plus) [] [] (He.ga K "_law_plus") fd) (d__law_ratio : Def P w K mg base 2 "_law_ratio" ["_law_top_here", "_law_bottom"] [false, false] F__law_ratio) :
    FnOk P w K mg base (L2.CX P w) 3 (He.ga K "_law_plus") fd ["_law_one", "_law_other"] (spF K mg [false, false] F__law_plus) := by
  refine fn_ok F sc__law_plus rfl (fun cdv A outer s H E Γ hr hx hP tk po => ?_)
  have v0 : ∀ pos : Pos, PE (cxOf (L2.CX P w) P w K mg base N__law_plus "_law_plus" (defScope st__law_plus) (He.ga K "_law_plus") cdv A outer s H E) (.Name "_law_one" pos) (tVar 0) := fun pos => pv 0
  have p0 := hP 0 (by decide)
  have w0 : ∀ pos : Pos, PE (cxOf (L2.CX P w) P w K mg base N__law_plus "_law_plus" (defScope st__law_plus) (He.ga K "_law_plus") cdv A outer s H E) (.Name "_law_one" pos) (DE Γ (eVar 0)) := fun pos => v_var (v0 pos) p0
  have v1 : ∀ pos : Pos, PE (cxOf (L2.CX P w) P w K mg base N__law_plus "_law_plus" (defScope st__law_plus) (He.ga K "_law_plus") cdv A outer s H E) (.Name "_law_other" pos) (tVar 1) := fun pos => pv 1
  have p1 := hP 1 (by decide)
  have w1 : ∀ pos : Pos, PE (cxOf (L2.CX P w) P w K mg base N__law_plus "_law_plus" (defScope st__law_plus) (He.ga K "_law_plus") cdv A outer s H E) (.Name "_law_other" pos) (DE Γ (eVar 1)) := fun pos => v_var (v1 pos) p1
  have hr2 := hr.mono (show 2 ≤ 2 by decide)
  have l__law_ratio : Gl (cxOf (L2.CX P w) P w K mg base N__law_plus "_law_plus" (defScope st__law_plus) (He.ga K "_law_plus") cdv A outer s H E) "_law_ratio" := by rfl
  have q__law_ratio : (("_law_ratio" : Str) == ("__debug__" : Str)) = false := by decide
  exact ss_one (s_ret (v_call hx tk d__law_ratio hr2 l__law_ratio (b_val (v_add hx (v_op op_mulA s_mul (v_ix hx (w0 _) v_int (fun _ _ => rfl)) (v_ix hx (w1 _) v_int (fun _ _ => rfl))) (v_op op_mulA s_mul (v_ix hx (w1 _) v_int (fun _ _ => rfl)) (v_ix hx (w0 _) v_int (fun _ _ => rfl)))) (b_val (v_op op_mulA s_mul (v_ix hx (w0 _) v_int (fun _ _ => rfl)) (v_ix hx (w1 _) v_int (fun _ _ => rfl))) b_nil star_BinOp) star_BinOp) q__law_ratio star_BinOp rfl))
end
abbrev st__law_less : Stmt := top 36
abbrev N__law_less : List Str := ["_law_one", "_law_other"]
theorem sc__law_less : FnScope N__law_less ["_law_one", "_law_other"] (defScope st__law_less) := ⟨rfl, rfl, rfl, by decide +kernel, rfl, by decide +kernel, by decide +kernel⟩
section
variable {P : Program} {w : World} {K : PySem.W.Frag} {mg : Str → Option Value} {base : Heap}
theorem ok__law_less {fd : FuncData} (F : FunD K "_law_less" "_law_less" (defArgs st__law_less) (defBody st__law_less) (defScope st__law_less) [] [] (He.ga K "_law_less") fd)  :
    FnOk P w K mg base (L2.CX P w) 1 (He.ga K "_law_less") fd ["_law_one", "_law_other"] (spF K mg [false, false] F__law_less) := by
  refine fn_ok F sc__law_less rfl (fun cdv A outer s H E Γ hr hx hP tk po => ?_)
  have v0 : ∀ pos : Pos, PE (cxOf (L2.CX P w) P w K mg base N__law_less "_law_less" (defScope st__law_less) (He.ga K "_law_less") cdv A outer s H E) (.Name "_law_one" pos) (tVar 0) := fun pos => pv 0
  have p0 := hP 0 (by decide)
  have w0 : ∀ pos : Pos, PE (cxOf (L2.CX P w) P w K mg base N__law_less "_law_less" (defScope st__law_less) (He.ga K "_law_less") cdv A outer s H E) (.Name "_law_one" pos) (DE Γ (eVar 0)) := fun pos => v_var (v0 pos) p0
  have v1 : ∀ pos : Pos, PE (cxOf (L2.CX P w) P w K mg base N__law_less "_law_less" (defScope st__law_less) (He.ga K "_law_less") cdv A outer s H E) (.Name "_law_other" pos) (tVar 1) := fun pos => pv 1
  have p1 := hP 1 (by decide)
  have w1 : ∀ pos : Pos, PE (cxOf (L2.CX P w) P w K mg base N__law_less "_law_less" (defScope st__law_less) (He.ga K "_law_less") cdv A outer s H E) (.Name "_law_other" pos) (DE Γ (eVar 1)) := fun pos => v_var (v1 pos) p1
  exact ss_one (s_ret (v_cmp op_lt s_cmp (v_op op_mulA s_mul (v_ix hx (w0 _) v_int (fun _ _ => rfl)) (v_ix hx (w1 _) v_int (fun _ _ => rfl))) (v_op op_mulA s_mul (v_ix hx (w1 _) v_int (fun _ _ => rfl)) (v_ix hx (w0 _) v_int (fun _ _ => rfl))) rfl))
end
abbrev st__law_sum : Stmt := top 37
abbrev N__law_sum : List Str := ["_law_rows", "_law_found", "_law_row"]
theorem sc__law_sum : FnScope N__law_sum ["_law_rows"] (defScope st__law_sum) := ⟨rfl, rfl, rfl, by decide +kernel, rfl, by decide +kernel, by decide +kernel⟩
section
variable {P : Program} {w : World} {K : PySem.W.Frag} {mg : Str → Option Value} {base : Heap}
theorem ok__law_sum {fd : FuncData} (F : FunD K "_law_sum" "_law_sum" (defArgs st__law_sum) (defBody st__law_sum) (defScope st__law_sum) [] [] (He.ga K "_law_sum") fd) (d__law_plus : Def P w K mg base 3 "_law_plus" ["_law_one", "_law_other"] [false, false] F__law_plus) :
    FnOk P w K mg base (L2.CX P w) 4 (He.ga K "_law_sum") fd ["_law_rows"] (spF K mg [false] F__law_sum) := by
  refine fn_ok F sc__law_sum rfl (fun cdv A outer s H E Γ hr hx hP tk po => ?_)
  have p1 := hP 1 (by decide)
  have v0 : ∀ pos : Pos, PE (cxOf (L2.CX P w) P w K mg base N__law_sum "_law_sum" (defScope st__law_sum) (He.ga K "_law_sum") cdv A outer s H E) (.Name "_law_rows" pos) (tVar 0) := fun pos => pv 0
  have p0 := hP 0 (by decide)
  have w0 : ∀ pos : Pos, PE (cxOf (L2.CX P w) P w K mg base N__law_sum "_law_sum" (defScope st__law_sum) (He.ga K "_law_sum") cdv A outer s H E) (.Name "_law_rows" pos) (DE Γ (eVar 0)) := fun pos => v_var (v0 pos) p0
  have p2 := hP 2 (by decide)
  have v2 : ∀ pos : Pos, PE (cxOf (L2.CX P w) P w K mg base N__law_sum "_law_sum" (defScope st__law_sum) (He.ga K "_law_sum") cdv A outer s H E) (.Name "_law_row" pos) (tVar 2) := fun pos => pv 2
  have w2 : ∀ pos : Pos, PE (cxOf (L2.CX P w) P w K mg base N__law_sum "_law_sum" (defScope st__law_sum) (He.ga K "_law_sum") cdv A outer s H E) (.Name "_law_row" pos) (DE Γ (eVar 2)) := fun pos => v_var (v2 pos) p2
  have v1 : ∀ pos : Pos, PE (cxOf (L2.CX P w) P w K mg base N__law_sum "_law_sum" (defScope st__law_sum) (He.ga K "_law_sum") cdv A outer s H E) (.Name "_law_found" pos) (tVar 1) := fun pos => pv 1
  have w1 : ∀ pos : Pos, PE (cxOf (L2.CX P w) P w K mg base N__law_sum "_law_sum" (defScope st__law_sum) (He.ga K "_law_sum") cdv A outer s H E) (.Name "_law_found" pos) (DE Γ (eVar 1)) := fun pos => v_var (v1 pos) p1
  have hr3 := hr.mono (show 3 ≤ 3 by decide)
  have l__law_plus : Gl (cxOf (L2.CX P w) P w K mg base N__law_sum "_law_sum" (defScope st__law_sum) (He.ga K "_law_sum") cdv A outer s H E) "_law_plus" := by rfl
  have q__law_plus : (("_law_plus" : Str) == ("__debug__" : Str)) = false := by decide
  refine ss_cons (s_asg (ps_set (i := 1) sc__law_sum.nd rfl (by first | exact Or.inl rfl | exact Or.inr rfl) (v_tup (v_cons v_int (v_cons v_int v_nil star_Constant) star_Constant))) p1) ?_
  refine ss_cons (s_for (is := [2]) (ps_for po rfl (i_seq hx (w0 _)) (g_name (pg_name sc__law_sum.nd rfl (by first | exact Or.inl rfl | exact Or.inr rfl)) p2)
 (by exact ss_one (s_asg (ps_set (i := 1) sc__law_sum.nd rfl (by first | exact Or.inl rfl | exact Or.inr rfl) (v_call hx tk d__law_plus hr3 l__law_plus (b_val (w1 _) (b_val (w2 _) b_nil star_Name) star_Name) q__law_plus star_Name rfl)) p1)))) ?_
  exact ss_one (s_ret (w1 _))
end
abbrev st__law_tuples : Stmt := top 38
abbrev N__law_tuples : List Str := ["_law_thing", "_law_item"]
theorem sc__law_tuples : FnScope N__law_tuples ["_law_thing"] (defScope st__law_tuples) := ⟨rfl, rfl, rfl, by decide +kernel, rfl, by decide +kernel, by decide +kernel⟩
section
variable {P : Program} {w : World} {K : PySem.W.Frag} {mg : Str → Option Value} {base : Heap}
theorem ok__law_tuples {fd : FuncData} (F : FunD K "_law_tuples" "_law_tuples" (defArgs st__law_tuples) (defBody st__law_tuples) (defScope st__law_tuples) [] [] (He.ga K "_law_tuples") fd) (gm : mg "_law_tuples" = some (.ref (He.ga K "_law_tuples"))) (bi : Binds K fd ["_law_thing"] []) (n_tuple : mg "tuple" = none) (n_isinstance : mg "isinstance" = none) (n_int : mg "int" = none) (n_bool : mg "bool" = none) :
    ∀ n : Nat, FnOk P w K mg base (L2.CX P w) (1 + n) (He.ga K "_law_tuples") fd ["_law_thing"] (spF K mg [false] (R__law_tuples n))
  | 0 => fn_bad rfl
  | n + 1 => by
    have d__law_tuples : Def P w K mg base (1 + n) "_law_tuples" ["_law_thing"] [false] (R__law_tuples n) := ⟨_, _, ok__law_tuples F gm bi n_tuple n_isinstance n_int n_bool n, gm, F.kp, bi⟩
    refine fn_ok F sc__law_tuples rfl (fun cdv A outer s H E Γ hr hx hP tk po => ?_)
    have l_tuple : Gl (cxOf (L2.CX P w) P w K mg base N__law_tuples "_law_tuples" (defScope st__law_tuples) (He.ga K "_law_tuples") cdv A outer s H E) "tuple" := by rfl
    have r_tuple : ("tuple" : Str) ≠ "__name__" := by decide
    have q_tuple : (("tuple" : Str) == ("__debug__" : Str)) = false := by decide
    have v0 : ∀ pos : Pos, PE (cxOf (L2.CX P w) P w K mg base N__law_tuples "_law_tuples" (defScope st__law_tuples) (He.ga K "_law_tuples") cdv A outer s H E) (.Name "_law_thing" pos) (tVar 0) := fun pos => pv 0
    have p0 := hP 0 (by decide)
    have w0 : ∀ pos : Pos, PE (cxOf (L2.CX P w) P w K mg base N__law_tuples "_law_tuples" (defScope st__law_tuples) (He.ga K "_law_tuples") cdv A outer s H E) (.Name "_law_thing" pos) (DE Γ (eVar 0)) := fun pos => v_var (v0 pos) p0
    have l_isinstance : Gl (cxOf (L2.CX P w) P w K mg base N__law_tuples "_law_tuples" (defScope st__law_tuples) (He.ga K "_law_tuples") cdv A outer s H E) "isinstance" := by rfl
    have r_isinstance : ("isinstance" : Str) ≠ "__name__" := by decide
    have q_isinstance : (("isinstance" : Str) == ("__debug__" : Str)) = false := by decide
    have q__law_tuples : (("_law_tuples" : Str) == ("__debug__" : Str)) = false := by decide
    have l_int : Gl (cxOf (L2.CX P w) P w K mg base N__law_tuples "_law_tuples" (defScope st__law_tuples) (He.ga K "_law_tuples") cdv A outer s H E) "int" := by rfl
    have r_int : ("int" : Str) ≠ "__name__" := by decide
    have q_int : (("int" : Str) == ("__debug__" : Str)) = false := by decide
    have l_bool : Gl (cxOf (L2.CX P w) P w K mg base N__law_tuples "_law_tuples" (defScope st__law_tuples) (He.ga K "_law_tuples") cdv A outer s H E) "bool" := by rfl
    have r_bool : ("bool" : Str) ≠ "__name__" := by decide
    have q_bool : (("bool" : Str) == ("__debug__" : Str)) = false := by decide
    refine ss_cons (s_if (t_tru hx (v_isi hx l_isinstance n_isinstance (by decide +kernel) (v_cons (w0 _) (v_cons (v_ty l_tuple n_tuple (by decide +kernel) r_tuple q_tuple) v_nil star_Name) star_Name) r_isinstance q_isinstance star_Name rfl) (fun _ => rfl))
 (by exact ss_one (s_ret (v_not hx (v_frz (f_lc (own := [("_law_item", 1)]) (is := [1]) rfl sc__law_tuples.nd hx (i_seq hx (w0 _)) (blkOk_by (own := [("_law_item", 1)]) (N := N__law_tuples) (sc := defScope st__law_tuples) (by decide +kernel)) (fun j hj => hP j (ownNot [1] [false] hj (by decide))) (by decide) (fun s0 H0 C0 cl0 fp0 Γ hx hΓ tk => blkP hΓ hP fun hP => ⟨(g_name (pg_name sc__law_tuples.nd rfl (by first | exact Or.inl rfl | exact Or.inr rfl)) (hP 1 (by decide))), (ts_one (t_not (t_tru hx (v_call hx tk d__law_tuples hr (by rfl) (b_val (v_var (pv 1) (hP 1 (by decide))) b_nil star_Name) q__law_tuples star_Name rfl) (fun _ => rfl)))), v_int⟩))))))
 ss_nil) ?_
    exact ss_one (s_ret (v_and hx (v_isi hx l_isinstance n_isinstance (by decide +kernel) (v_cons (w0 _) (v_cons (v_ty l_int n_int (by decide +kernel) r_int q_int) v_nil star_Name) star_Name) r_isinstance q_isinstance star_Name rfl) (v_one (v_not hx (v_isi hx l_isinstance n_isinstance (by decide +kernel) (v_cons (w0 _) (v_cons (v_ty l_bool n_bool (by decide +kernel) r_bool q_bool) v_nil star_Name) star_Name) r_isinstance q_isinstance star_Name rfl)))))
end
abbrev st__law_number : Stmt := top 39
abbrev N__law_number : List Str := ["_law_hand_here", "_law_kind", "_law_total", "_law_turn"]
theorem sc__law_number : FnScope N__law_number ["_law_hand_here"] (defScope st__law_number) := ⟨rfl, rfl, rfl, by decide +kernel, rfl, by decide +kernel, by decide +kernel⟩
section
variable {P : Program} {w : World} {K : PySem.W.Frag} {mg : Str → Option Value} {base : Heap}
theorem ok__law_number {fd : FuncData} (F : FunD K "_law_number" "_law_number" (defArgs st__law_number) (defBody st__law_number) (defScope st__law_number) [] [] (He.ga K "_law_number") fd) (d__law_take : Def P w K mg base 2 "_law_take" ["_law_hand_here", "_law_many"] [true, false] F__law_take) (n_range : mg "range" = none) :
    FnOk P w K mg base (L2.CX P w) 3 (He.ga K "_law_number") fd ["_law_hand_here"] (spF K mg [true] F__law_number) := by
  refine fn_ok F sc__law_number rfl (fun cdv A outer s H E Γ hr hx hP tk po => ?_)
  have v0 : ∀ pos : Pos, PE (cxOf (L2.CX P w) P w K mg base N__law_number "_law_number" (defScope st__law_number) (He.ga K "_law_number") cdv A outer s H E) (.Name "_law_hand_here" pos) (tVar 0) := fun pos => pv 0
  have hr2 := hr.mono (show 2 ≤ 2 by decide)
  have l__law_take : Gl (cxOf (L2.CX P w) P w K mg base N__law_number "_law_number" (defScope st__law_number) (He.ga K "_law_number") cdv A outer s H E) "_law_take" := by rfl
  have q__law_take : (("_law_take" : Str) == ("__debug__" : Str)) = false := by decide
  have p1 := hP 1 (by decide)
  have v1 : ∀ pos : Pos, PE (cxOf (L2.CX P w) P w K mg base N__law_number "_law_number" (defScope st__law_number) (He.ga K "_law_number") cdv A outer s H E) (.Name "_law_kind" pos) (tVar 1) := fun pos => pv 1
  have w1 : ∀ pos : Pos, PE (cxOf (L2.CX P w) P w K mg base N__law_number "_law_number" (defScope st__law_number) (He.ga K "_law_number") cdv A outer s H E) (.Name "_law_kind" pos) (DE Γ (eVar 1)) := fun pos => v_var (v1 pos) p1
  have p2 := hP 2 (by decide)
  have p3 := hP 3 (by decide)
  have v2 : ∀ pos : Pos, PE (cxOf (L2.CX P w) P w K mg base N__law_number "_law_number" (defScope st__law_number) (He.ga K "_law_number") cdv A outer s H E) (.Name "_law_total" pos) (tVar 2) := fun pos => pv 2
  have w2 : ∀ pos : Pos, PE (cxOf (L2.CX P w) P w K mg base N__law_number "_law_number" (defScope st__law_number) (He.ga K "_law_number") cdv A outer s H E) (.Name "_law_total" pos) (DE Γ (eVar 2)) := fun pos => v_var (v2 pos) p2
  refine ss_cons (s_asg (ps_set (i := 1) sc__law_number.nd rfl (by first | exact Or.inl rfl | exact Or.inr rfl) (v_call hx tk d__law_take hr2 l__law_take (b_own (v0 _) (b_val v_int b_nil star_Constant) star_Name) q__law_take star_Name rfl)) p1) ?_
  refine ss_cons (s_if (t_cmp op_lt s_cmp (w1 _) v_int rfl)
 (by exact ss_one (s_ret (v_op op_sub s_sub (v_call hx tk d__law_take hr2 l__law_take (b_own (v0 _) (b_val v_int b_nil star_Constant) star_Name) q__law_take star_Name rfl) v_int)))
 ss_nil) ?_
  refine ss_cons (s_asg (ps_set (i := 2) sc__law_number.nd rfl (by first | exact Or.inl rfl | exact Or.inr rfl) v_int) p2) ?_
  refine ss_cons (s_for (is := [3]) (ps_for po rfl (i_rng1 (pi_range1 (by rfl) n_range (v_cons (v_if (t_cmp op_lt s_cmp (w1 _) v_int rfl) v_int v_int) v_nil star_IfExp))) (g_name (pg_name sc__law_number.nd rfl (by first | exact Or.inl rfl | exact Or.inr rfl)) p3)
 (by exact ss_one (s_asg (ps_set (i := 2) sc__law_number.nd rfl (by first | exact Or.inl rfl | exact Or.inr rfl) (v_add hx (v_op op_mulA s_mul (w2 _) (v_op op_pow s_pow v_int v_int)) (v_call hx tk d__law_take hr2 l__law_take (b_own (v0 _) (b_val (v_op op_pow s_pow v_int v_int) b_nil star_BinOp) star_Name) q__law_take star_Name rfl))) p2)))) ?_
  exact ss_one (s_ret (v_op op_mulA s_mul (w2 _) (v_op op_sub s_sub v_int (v_op op_mulA s_mul v_int (v_call hx tk d__law_take hr2 l__law_take (b_own (v0 _) (b_val v_int b_nil star_Constant) star_Name) q__law_take star_Name rfl)))))
end
abbrev st__law_top : Stmt := top 40
abbrev N__law_top : List Str := []
theorem sc__law_top : FnScope N__law_top [] (defScope st__law_top) := ⟨rfl, rfl, rfl, by decide +kernel, rfl, by decide +kernel, by decide +kernel⟩
section
variable {P : Program} {w : World} {K : PySem.W.Frag} {mg : Str → Option Value} {base : Heap}
theorem ok__law_top {fd : FuncData} (F : FunD K "_law_top" "_law_top" (defArgs st__law_top) (defBody st__law_top) (defScope st__law_top) [] [] (He.ga K "_law_top") fd)  :
    FnOk P w K mg base (L2.CX P w) 1 (He.ga K "_law_top") fd [] (spF K mg [] F__law_top) := by
  refine fn_ok F sc__law_top rfl (fun cdv A outer s H E Γ hr hx hP tk po => ?_)
  exact ss_one (s_ret (v_op op_mulA s_mul (v_op op_mulA s_mul (v_op op_pow s_pow v_int v_int) (v_op op_pow s_pow v_int v_int)) (v_op op_pow s_pow v_int v_int)))
end
abbrev st__law_try : Stmt := top 41
abbrev N__law_try : List Str := ["_law_top_here", "_law_bottom", "_law_found", "wrong"]
theorem sc__law_try : FnScope N__law_try ["_law_top_here", "_law_bottom"] (defScope st__law_try) := ⟨rfl, rfl, rfl, by decide +kernel, rfl, by decide +kernel, by decide +kernel⟩
section
variable {P : Program} {w : World} {K : PySem.W.Frag} {mg : Str → Option Value} {base : Heap}
theorem ok__law_try {fd : FuncData} (F : FunD K "_law_try" "_law_try" (defArgs st__law_try) (defBody st__law_try) (defScope st__law_try) [] [] (He.ga K "_law_try") fd) (d_make_ratio : Def P w K mg base 3 "make_ratio" ["top", "bottom"] [false, false] F_make_ratio) (e_BadRatio : ExcCl P w K mg base "BadRatio" ["what"]) (m_BadRatio : PySem.W.exmOne K (.ref e_BadRatio.C) (.ref e_BadRatio.C) = some true) :
    FnOk P w K mg base (L2.CX P w) 4 (He.ga K "_law_try") fd ["_law_top_here", "_law_bottom"] (spF K mg [false, false] F__law_try) := by
  refine fn_ok F sc__law_try rfl (fun cdv A outer s H E Γ hr hx hP tk po => ?_)
  have p3 := hP 3 (by decide)
  have hr3 := hr.mono (show 3 ≤ 3 by decide)
  have q_make_ratio : (("make_ratio" : Str) == ("__debug__" : Str)) = false := by decide
  have v2 : ∀ pos : Pos, PE (cxOf (L2.CX P w) P w K mg base N__law_try "_law_try" (defScope st__law_try) (He.ga K "_law_try") cdv A outer s H E) (.Name "_law_found" pos) (tVar 2) := fun pos => pv 2
  have p2 := hP 2 (by decide)
  have w2 : ∀ pos : Pos, PE (cxOf (L2.CX P w) P w K mg base N__law_try "_law_try" (defScope st__law_try) (He.ga K "_law_try") cdv A outer s H E) (.Name "_law_found" pos) (DE Γ (eVar 2)) := fun pos => v_var (v2 pos) p2
  refine ss_cons (s_try (i := 3) (x := "BadRatio") (hv := .ref e_BadRatio.C) hx p3 rfl rfl sc__law_try.nd rfl rfl ⟨rfl, by decide, Or.inl e_BadRatio.gm⟩ tk (onlyM e_BadRatio.gm m_BadRatio)
 (fun pn xe Γ hx hΓ tk po => tryP hΓ hP fun hP => (by exact ss_one (s_asg (ps_set (i := 2) sc__law_try.nd rfl (by first | exact Or.inl rfl | exact Or.inr rfl) (v_call hx tk d_make_ratio hr3 (by rfl) (b_val (v_var (pv 0) (hP 0 (by decide))) (b_val (v_var (pv 1) (hP 1 (by decide))) b_nil star_Name) star_Name) q_make_ratio star_Name rfl)) (hP 2 (by decide)))))
 (fun a oe pn c0 C0 dd ws fs Γ hz hf hmc hmg hx hPi hPo hd rf => onlyD hmc hmg e_BadRatio.gm fun eC => by subst eC; exact suiteP (i := 3) hPo hP fun hP => (by exact ss_one (s_asg (ps_set (i := 2) sc__law_try.nd rfl (by first | exact Or.inl rfl | exact Or.inr rfl) (v_add hx v_str (v_xf e_BadRatio.xf (e_BadRatio.no _ (by decide)) hz hf (pv 3) hPi hd rf))) (hP 2 (by decide)))))) ?_
  exact ss_one (s_ret (w2 _))
end
abbrev st__law_odd : Stmt := top 42
abbrev N__law_odd : List Str := ["_law_hand_here", "_law_one", "_law_kind"]
theorem sc__law_odd : FnScope N__law_odd ["_law_hand_here", "_law_one"] (defScope st__law_odd) := ⟨rfl, rfl, rfl, by decide +kernel, rfl, by decide +kernel, by decide +kernel⟩
section
variable {P : Program} {w : World} {K : PySem.W.Frag} {mg : Str → Option Value} {base : Heap}
theorem ok__law_odd {fd : FuncData} (F : FunD K "_law_odd" "_law_odd" (defArgs st__law_odd) (defBody st__law_odd) (defScope st__law_odd) [] [] (He.ga K "_law_odd") fd) (d__law_take : Def P w K mg base 2 "_law_take" ["_law_hand_here", "_law_many"] [true, false] F__law_take) :
    FnOk P w K mg base (L2.CX P w) 3 (He.ga K "_law_odd") fd ["_law_hand_here", "_law_one"] (spF K mg [true, false] F__law_odd) := by
  refine fn_ok F sc__law_odd rfl (fun cdv A outer s H E Γ hr hx hP tk po => ?_)
  have v0 : ∀ pos : Pos, PE (cxOf (L2.CX P w) P w K mg base N__law_odd "_law_odd" (defScope st__law_odd) (He.ga K "_law_odd") cdv A outer s H E) (.Name "_law_hand_here" pos) (tVar 0) := fun pos => pv 0
  have hr2 := hr.mono (show 2 ≤ 2 by decide)
  have l__law_take : Gl (cxOf (L2.CX P w) P w K mg base N__law_odd "_law_odd" (defScope st__law_odd) (He.ga K "_law_odd") cdv A outer s H E) "_law_take" := by rfl
  have q__law_take : (("_law_take" : Str) == ("__debug__" : Str)) = false := by decide
  have p2 := hP 2 (by decide)
  have v2 : ∀ pos : Pos, PE (cxOf (L2.CX P w) P w K mg base N__law_odd "_law_odd" (defScope st__law_odd) (He.ga K "_law_odd") cdv A outer s H E) (.Name "_law_kind" pos) (tVar 2) := fun pos => pv 2
  have w2 : ∀ pos : Pos, PE (cxOf (L2.CX P w) P w K mg base N__law_odd "_law_odd" (defScope st__law_odd) (He.ga K "_law_odd") cdv A outer s H E) (.Name "_law_kind" pos) (DE Γ (eVar 2)) := fun pos => v_var (v2 pos) p2
  have v1 : ∀ pos : Pos, PE (cxOf (L2.CX P w) P w K mg base N__law_odd "_law_odd" (defScope st__law_odd) (He.ga K "_law_odd") cdv A outer s H E) (.Name "_law_one" pos) (tVar 1) := fun pos => pv 1
  have p1 := hP 1 (by decide)
  have w1 : ∀ pos : Pos, PE (cxOf (L2.CX P w) P w K mg base N__law_odd "_law_odd" (defScope st__law_odd) (He.ga K "_law_odd") cdv A outer s H E) (.Name "_law_one" pos) (DE Γ (eVar 1)) := fun pos => v_var (v1 pos) p1
  refine ss_cons (s_asg (ps_set (i := 2) sc__law_odd.nd rfl (by first | exact Or.inl rfl | exact Or.inr rfl) (v_call hx tk d__law_take hr2 l__law_take (b_own (v0 _) (b_val v_int b_nil star_Constant) star_Name) q__law_take star_Name rfl)) p2) ?_
  refine ss_cons (s_if (t_eq hx hr.units (w2 _) v_int rfl)
 (by exact ss_one (s_ret (v_lst (v_cons (v_ix hx (w1 _) v_int (fun _ _ => rfl)) (v_cons (v_ix hx (w1 _) v_int (fun _ _ => rfl)) v_nil star_Subscript) star_Subscript))))
 ss_nil) ?_
  refine ss_cons (s_if (t_eq hx hr.units (w2 _) v_int rfl)
 (by exact ss_one (s_ret (v_tup (v_cons (v_op op_mulA s_mul (v_ix hx (w1 _) v_int (fun _ _ => rfl)) v_int) (v_cons (v_op op_mulA s_mul (v_ix hx (w1 _) v_int (fun _ _ => rfl)) v_int) v_nil star_BinOp) star_BinOp))))
 ss_nil) ?_
  refine ss_cons (s_if (t_eq hx hr.units (w2 _) v_int rfl)
 (by exact ss_one (s_ret (v_tup (v_cons (v_un un_neg s_neg (v_ix hx (w1 _) v_int (fun _ _ => rfl))) (v_cons (v_un un_neg s_neg (v_ix hx (w1 _) v_int (fun _ _ => rfl))) v_nil star_UnaryOp) star_UnaryOp))))
 ss_nil) ?_
  refine ss_cons (s_if (t_eq hx hr.units (w2 _) v_int rfl)
 (by exact ss_one (s_ret (v_tup (v_cons (v_ix hx (w1 _) v_int (fun _ _ => rfl)) (v_cons (v_ix hx (w1 _) v_int (fun _ _ => rfl)) (v_cons v_int v_nil star_Constant) star_Subscript) star_Subscript))))
 ss_nil) ?_
  refine ss_cons (s_if (t_eq hx hr.units (w2 _) v_int rfl)
 (by exact ss_one (s_ret (v_tup (v_cons (v_ix hx (w1 _) v_int (fun _ _ => rfl)) (v_cons v_bl v_nil star_Constant) star_Subscript))))
 ss_nil) ?_
  exact ss_one (s_ret (v_if (t_eq hx hr.units (w2 _) v_int rfl) (v_ix hx (w1 _) v_int (fun _ _ => rfl)) (v_tup (v_cons (v_ix hx (w1 _) v_int (fun _ _ => rfl)) (v_cons v_int v_nil star_Constant) star_Subscript))))
end
abbrev st__law_pair : Stmt := top 43
abbrev N__law_pair : List Str := ["_law_one", "_law_two", "_law_left", "_law_right", "_law_found", "wrong", "_law_side", "_law_floor"]
theorem sc__law_pair : FnScope N__law_pair ["_law_one", "_law_two"] (defScope st__law_pair) := ⟨rfl, rfl, rfl, by decide +kernel, rfl, by decide +kernel, by decide +kernel⟩
section
variable {P : Program} {w : World} {K : PySem.W.Frag} {mg : Str → Option Value} {base : Heap}
theorem ok__law_pair {fd : FuncData} (F : FunD K "_law_pair" "_law_pair" (defArgs st__law_pair) (defBody st__law_pair) (defScope st__law_pair) [] [] (He.ga K "_law_pair") fd) (d_plus : Def P w K mg base 2 "plus" ["one", "two"] [false, false] F_plus) (d__law_ratio : Def P w K mg base 2 "_law_ratio" ["_law_top_here", "_law_bottom"] [false, false] F__law_ratio) (d_minus : Def P w K mg base 2 "minus" ["one", "two"] [false, false] F_minus) (d_times : Def P w K mg base 2 "times" ["one", "two"] [false, false] F_times) (d_negative : Def P w K mg base 1 "negative" ["one"] [false] F_negative) (d_over : Def P w K mg base 3 "over" ["one", "two"] [false, false] F_over) (e_BadRatio : ExcCl P w K mg base "BadRatio" ["what"]) (m_BadRatio : PySem.W.exmOne K (.ref e_BadRatio.C) (.ref e_BadRatio.C) = some true) (d_compare : Def P w K mg base 1 "compare" ["one", "two"] [false, false] F_compare) (n_bool : mg "bool" = none) (n_isinstance : mg "isinstance" = none) (d_floor_of : Def P w K mg base 1 "floor_of" ["one"] [false] F_floor_of) (n_int : mg "int" = none) (d_ratio_text : Def P w K mg base 1 "ratio_text" ["one"] [false] F_ratio_text) (n_str : mg "str" = none) :
    FnOk P w K mg base (L2.CX P w) 4 (He.ga K "_law_pair") fd ["_law_one", "_law_two"] (spF K mg [false, false] F__law_pair) := by
  refine fn_ok F sc__law_pair rfl (fun cdv A outer s H E Γ hr hx hP tk po => ?_)
  have v0 : ∀ pos : Pos, PE (cxOf (L2.CX P w) P w K mg base N__law_pair "_law_pair" (defScope st__law_pair) (He.ga K "_law_pair") cdv A outer s H E) (.Name "_law_one" pos) (tVar 0) := fun pos => pv 0
  have p0 := hP 0 (by decide)
  have w0 : ∀ pos : Pos, PE (cxOf (L2.CX P w) P w K mg base N__law_pair "_law_pair" (defScope st__law_pair) (He.ga K "_law_pair") cdv A outer s H E) (.Name "_law_one" pos) (DE Γ (eVar 0)) := fun pos => v_var (v0 pos) p0
  have v1 : ∀ pos : Pos, PE (cxOf (L2.CX P w) P w K mg base N__law_pair "_law_pair" (defScope st__law_pair) (He.ga K "_law_pair") cdv A outer s H E) (.Name "_law_two" pos) (tVar 1) := fun pos => pv 1
  have p1 := hP 1 (by decide)
  have w1 : ∀ pos : Pos, PE (cxOf (L2.CX P w) P w K mg base N__law_pair "_law_pair" (defScope st__law_pair) (He.ga K "_law_pair") cdv A outer s H E) (.Name "_law_two" pos) (DE Γ (eVar 1)) := fun pos => v_var (v1 pos) p1
  have p2 := hP 2 (by decide)
  have p3 := hP 3 (by decide)
  have hr2 := hr.mono (show 2 ≤ 3 by decide)
  have l_plus : Gl (cxOf (L2.CX P w) P w K mg base N__law_pair "_law_pair" (defScope st__law_pair) (He.ga K "_law_pair") cdv A outer s H E) "plus" := by rfl
  have q_plus : (("plus" : Str) == ("__debug__" : Str)) = false := by decide
  have v2 : ∀ pos : Pos, PE (cxOf (L2.CX P w) P w K mg base N__law_pair "_law_pair" (defScope st__law_pair) (He.ga K "_law_pair") cdv A outer s H E) (.Name "_law_left" pos) (tVar 2) := fun pos => pv 2
  have w2 : ∀ pos : Pos, PE (cxOf (L2.CX P w) P w K mg base N__law_pair "_law_pair" (defScope st__law_pair) (He.ga K "_law_pair") cdv A outer s H E) (.Name "_law_left" pos) (DE Γ (eVar 2)) := fun pos => v_var (v2 pos) p2
  have v3 : ∀ pos : Pos, PE (cxOf (L2.CX P w) P w K mg base N__law_pair "_law_pair" (defScope st__law_pair) (He.ga K "_law_pair") cdv A outer s H E) (.Name "_law_right" pos) (tVar 3) := fun pos => pv 3
  have w3 : ∀ pos : Pos, PE (cxOf (L2.CX P w) P w K mg base N__law_pair "_law_pair" (defScope st__law_pair) (He.ga K "_law_pair") cdv A outer s H E) (.Name "_law_right" pos) (DE Γ (eVar 3)) := fun pos => v_var (v3 pos) p3
  have l__law_ratio : Gl (cxOf (L2.CX P w) P w K mg base N__law_pair "_law_pair" (defScope st__law_pair) (He.ga K "_law_pair") cdv A outer s H E) "_law_ratio" := by rfl
  have q__law_ratio : (("_law_ratio" : Str) == ("__debug__" : Str)) = false := by decide
  have l_minus : Gl (cxOf (L2.CX P w) P w K mg base N__law_pair "_law_pair" (defScope st__law_pair) (He.ga K "_law_pair") cdv A outer s H E) "minus" := by rfl
  have q_minus : (("minus" : Str) == ("__debug__" : Str)) = false := by decide
  have l_times : Gl (cxOf (L2.CX P w) P w K mg base N__law_pair "_law_pair" (defScope st__law_pair) (He.ga K "_law_pair") cdv A outer s H E) "times" := by rfl
  have q_times : (("times" : Str) == ("__debug__" : Str)) = false := by decide
  have hr1 := hr.mono (show 1 ≤ 3 by decide)
  have l_negative : Gl (cxOf (L2.CX P w) P w K mg base N__law_pair "_law_pair" (defScope st__law_pair) (He.ga K "_law_pair") cdv A outer s H E) "negative" := by rfl
  have q_negative : (("negative" : Str) == ("__debug__" : Str)) = false := by decide
  have p5 := hP 5 (by decide)
  have hr3 := hr.mono (show 3 ≤ 3 by decide)
  have q_over : (("over" : Str) == ("__debug__" : Str)) = false := by decide
  have v4 : ∀ pos : Pos, PE (cxOf (L2.CX P w) P w K mg base N__law_pair "_law_pair" (defScope st__law_pair) (He.ga K "_law_pair") cdv A outer s H E) (.Name "_law_found" pos) (tVar 4) := fun pos => pv 4
  have p4 := hP 4 (by decide)
  have w4 : ∀ pos : Pos, PE (cxOf (L2.CX P w) P w K mg base N__law_pair "_law_pair" (defScope st__law_pair) (He.ga K "_law_pair") cdv A outer s H E) (.Name "_law_found" pos) (DE Γ (eVar 4)) := fun pos => v_var (v4 pos) p4
  have p6 := hP 6 (by decide)
  have l_compare : Gl (cxOf (L2.CX P w) P w K mg base N__law_pair "_law_pair" (defScope st__law_pair) (He.ga K "_law_pair") cdv A outer s H E) "compare" := by rfl
  have q_compare : (("compare" : Str) == ("__debug__" : Str)) = false := by decide
  have v6 : ∀ pos : Pos, PE (cxOf (L2.CX P w) P w K mg base N__law_pair "_law_pair" (defScope st__law_pair) (He.ga K "_law_pair") cdv A outer s H E) (.Name "_law_side" pos) (tVar 6) := fun pos => pv 6
  have w6 : ∀ pos : Pos, PE (cxOf (L2.CX P w) P w K mg base N__law_pair "_law_pair" (defScope st__law_pair) (He.ga K "_law_pair") cdv A outer s H E) (.Name "_law_side" pos) (DE Γ (eVar 6)) := fun pos => v_var (v6 pos) p6
  have l_bool : Gl (cxOf (L2.CX P w) P w K mg base N__law_pair "_law_pair" (defScope st__law_pair) (He.ga K "_law_pair") cdv A outer s H E) "bool" := by rfl
  have r_bool : ("bool" : Str) ≠ "__name__" := by decide
  have q_bool : (("bool" : Str) == ("__debug__" : Str)) = false := by decide
  have l_isinstance : Gl (cxOf (L2.CX P w) P w K mg base N__law_pair "_law_pair" (defScope st__law_pair) (He.ga K "_law_pair") cdv A outer s H E) "isinstance" := by rfl
  have r_isinstance : ("isinstance" : Str) ≠ "__name__" := by decide
  have q_isinstance : (("isinstance" : Str) == ("__debug__" : Str)) = false := by decide
  have l_floor_of : Gl (cxOf (L2.CX P w) P w K mg base N__law_pair "_law_pair" (defScope st__law_pair) (He.ga K "_law_pair") cdv A outer s H E) "floor_of" := by rfl
  have q_floor_of : (("floor_of" : Str) == ("__debug__" : Str)) = false := by decide
  have p7 := hP 7 (by decide)
  have l_int : Gl (cxOf (L2.CX P w) P w K mg base N__law_pair "_law_pair" (defScope st__law_pair) (He.ga K "_law_pair") cdv A outer s H E) "int" := by rfl
  have r_int : ("int" : Str) ≠ "__name__" := by decide
  have q_int : (("int" : Str) == ("__debug__" : Str)) = false := by decide
  have v7 : ∀ pos : Pos, PE (cxOf (L2.CX P w) P w K mg base N__law_pair "_law_pair" (defScope st__law_pair) (He.ga K "_law_pair") cdv A outer s H E) (.Name "_law_floor" pos) (tVar 7) := fun pos => pv 7
  have w7 : ∀ pos : Pos, PE (cxOf (L2.CX P w) P w K mg base N__law_pair "_law_pair" (defScope st__law_pair) (He.ga K "_law_pair") cdv A outer s H E) (.Name "_law_floor" pos) (DE Γ (eVar 7)) := fun pos => v_var (v7 pos) p7
  have l_ratio_text : Gl (cxOf (L2.CX P w) P w K mg base N__law_pair "_law_pair" (defScope st__law_pair) (He.ga K "_law_pair") cdv A outer s H E) "ratio_text" := by rfl
  have q_ratio_text : (("ratio_text" : Str) == ("__debug__" : Str)) = false := by decide
  have l_str : Gl (cxOf (L2.CX P w) P w K mg base N__law_pair "_law_pair" (defScope st__law_pair) (He.ga K "_law_pair") cdv A outer s H E) "str" := by rfl
  have r_str : ("str" : Str) ≠ "__name__" := by decide
  have q_str : (("str" : Str) == ("__debug__" : Str)) = false := by decide
  refine ss_cons (s_asg (ps_set (i := 2) sc__law_pair.nd rfl (by first | exact Or.inl rfl | exact Or.inr rfl) (v_op op_mulA s_mul (v_ix hx (w0 _) v_int (fun _ _ => rfl)) (v_ix hx (w1 _) v_int (fun _ _ => rfl)))) p2) ?_
  refine ss_cons (s_asg (ps_set (i := 3) sc__law_pair.nd rfl (by first | exact Or.inl rfl | exact Or.inr rfl) (v_op op_mulA s_mul (v_ix hx (w1 _) v_int (fun _ _ => rfl)) (v_ix hx (w0 _) v_int (fun _ _ => rfl)))) p3) ?_
  refine ss_cons (s_if (PW.pt (w_or (t_ne hx hr.units (v_call hx tk d_plus hr2 l_plus (b_val (w0 _) (b_val (w1 _) b_nil star_Name) star_Name) q_plus star_Name rfl) (v_call hx tk d__law_ratio hr2 l__law_ratio (b_val (v_add hx (w2 _) (w3 _)) (b_val (v_op op_mulA s_mul (v_ix hx (w0 _) v_int (fun _ _ => rfl)) (v_ix hx (w1 _) v_int (fun _ _ => rfl))) b_nil star_BinOp) star_BinOp) q__law_ratio star_BinOp rfl) rfl) (w_or1 (t_ne hx hr.units (v_call hx tk d_minus hr2 l_minus (b_val (w0 _) (b_val (w1 _) b_nil star_Name) star_Name) q_minus star_Name rfl) (v_call hx tk d__law_ratio hr2 l__law_ratio (b_val (v_op op_sub s_sub (w2 _) (w3 _)) (b_val (v_op op_mulA s_mul (v_ix hx (w0 _) v_int (fun _ _ => rfl)) (v_ix hx (w1 _) v_int (fun _ _ => rfl))) b_nil star_BinOp) star_BinOp) q__law_ratio star_BinOp rfl) rfl))))
 (by exact ss_one (s_ret v_bl))
 ss_nil) ?_
  refine ss_cons (s_if (PW.pt (w_or (t_ne hx hr.units (v_call hx tk d_times hr2 l_times (b_val (w0 _) (b_val (w1 _) b_nil star_Name) star_Name) q_times star_Name rfl) (v_call hx tk d__law_ratio hr2 l__law_ratio (b_val (v_op op_mulA s_mul (v_ix hx (w0 _) v_int (fun _ _ => rfl)) (v_ix hx (w1 _) v_int (fun _ _ => rfl))) (b_val (v_op op_mulA s_mul (v_ix hx (w0 _) v_int (fun _ _ => rfl)) (v_ix hx (w1 _) v_int (fun _ _ => rfl))) b_nil star_BinOp) star_BinOp) q__law_ratio star_BinOp rfl) rfl) (w_or1 (t_ne hx hr.units (v_call hx tk d_negative hr1 l_negative (b_val (w0 _) b_nil star_Name) q_negative star_Name rfl) (v_tup (v_cons (v_un un_neg s_neg (v_ix hx (w0 _) v_int (fun _ _ => rfl))) (v_cons (v_ix hx (w0 _) v_int (fun _ _ => rfl)) v_nil star_Subscript) star_UnaryOp)) rfl))))
 (by exact ss_one (s_ret v_bl))
 ss_nil) ?_
  refine ss_cons (s_try (i := 5) (x := "BadRatio") (hv := .ref e_BadRatio.C) hx p5 rfl rfl sc__law_pair.nd rfl rfl ⟨rfl, by decide, Or.inl e_BadRatio.gm⟩ tk (onlyM e_BadRatio.gm m_BadRatio)
 (fun pn xe Γ hx hΓ tk po => tryP hΓ hP fun hP => (by exact ss_one (s_asg (ps_set (i := 4) sc__law_pair.nd rfl (by first | exact Or.inl rfl | exact Or.inr rfl) (v_call hx tk d_over hr3 (by rfl) (b_val (v_var (pv 0) (hP 0 (by decide))) (b_val (v_var (pv 1) (hP 1 (by decide))) b_nil star_Name) star_Name) q_over star_Name rfl)) (hP 4 (by decide)))))
 (fun a oe pn c0 C0 dd ws fs Γ hz hf hmc hmg hx hPi hPo hd rf => onlyD hmc hmg e_BadRatio.gm fun eC => by subst eC; exact suiteP (i := 5) hPo hP fun hP => (by exact ss_one (s_asg (ps_set (i := 4) sc__law_pair.nd rfl (by first | exact Or.inl rfl | exact Or.inr rfl) (v_xf e_BadRatio.xf (e_BadRatio.no _ (by decide)) hz hf (pv 5) hPi hd rf)) (hP 4 (by decide)))))) ?_
  refine ss_cons (s_if (t_ne hx hr.units (w4 _) (v_if (t_eq hx hr.units (v_ix hx (w1 _) v_int (fun _ _ => rfl)) v_int rfl) v_str (v_call hx tk d__law_ratio hr2 l__law_ratio (b_val (w2 _) (b_val (w3 _) b_nil star_Name) star_Name) q__law_ratio star_Name rfl)) rfl)
 (by exact ss_one (s_ret v_bl))
 ss_nil) ?_
  refine ss_cons (s_asg (ps_set (i := 6) sc__law_pair.nd rfl (by first | exact Or.inl rfl | exact Or.inr rfl) (v_if (t_eq hx hr.units (w2 _) (w3 _) rfl) v_int (v_if (t_cmp op_lt s_cmp (w2 _) (w3 _) rfl) (v_un un_neg s_neg v_int) v_int))) p6) ?_
  refine ss_cons (s_if (PW.pt (w_or (t_ne hx hr.units (v_call hx tk d_compare hr1 l_compare (b_val (w0 _) (b_val (w1 _) b_nil star_Name) star_Name) q_compare star_Name rfl) (w6 _) rfl) (w_or (t_ne hx hr.units (v_call hx tk d_compare hr1 l_compare (b_val (w1 _) (b_val (w0 _) b_nil star_Name) star_Name) q_compare star_Name rfl) (v_un un_neg s_neg (w6 _)) rfl) (w_or1 (t_tru hx (v_isi hx l_isinstance n_isinstance (by decide +kernel) (v_cons (v_call hx tk d_compare hr1 l_compare (b_val (w0 _) (b_val (w1 _) b_nil star_Name) star_Name) q_compare star_Name rfl) (v_cons (v_ty l_bool n_bool (by decide +kernel) r_bool q_bool) v_nil star_Name) star_Call) r_isinstance q_isinstance star_Call rfl) (fun _ => rfl))))))
 (by exact ss_one (s_ret v_bl))
 ss_nil) ?_
  refine ss_cons (s_asg (ps_set (i := 7) sc__law_pair.nd rfl (by first | exact Or.inl rfl | exact Or.inr rfl) (v_call hx tk d_floor_of hr1 l_floor_of (b_val (w0 _) b_nil star_Name) q_floor_of star_Name rfl)) p7) ?_
  refine ss_cons (s_if (PW.pt (w_or (t_not (t_tru hx (v_isi hx l_isinstance n_isinstance (by decide +kernel) (v_cons (w7 _) (v_cons (v_ty l_int n_int (by decide +kernel) r_int q_int) v_nil star_Name) star_Name) r_isinstance q_isinstance star_Name rfl) (fun _ => rfl))) (w_or (t_tru hx (v_isi hx l_isinstance n_isinstance (by decide +kernel) (v_cons (w7 _) (v_cons (v_ty l_bool n_bool (by decide +kernel) r_bool q_bool) v_nil star_Name) star_Name) r_isinstance q_isinstance star_Name rfl) (fun _ => rfl)) (w_or1 (t_not (t_chain s_cmpB s_cmp (pt_chain op_le op_lt (v_op op_mulA s_mul (w7 _) (v_ix hx (w0 _) v_int (fun _ _ => rfl))) (v_ix hx (w0 _) v_int (fun _ _ => rfl)) (v_op op_mulA s_mul (v_add hx (w7 _) v_int) (v_ix hx (w0 _) v_int (fun _ _ => rfl))))))))))
 (by exact ss_one (s_ret v_bl))
 ss_nil) ?_
  exact ss_one (s_ret (v_eq hx hr.units (v_call hx tk d_ratio_text hr1 l_ratio_text (b_val (w0 _) b_nil star_Name) q_ratio_text star_Name rfl) (v_if (t_eq hx hr.units (v_ix hx (w0 _) v_int (fun _ _ => rfl)) v_int rfl) (v_callTy call_str_int c_str l_str n_str (by decide +kernel) (v_cons (v_ix hx (w0 _) v_int (fun _ _ => rfl)) v_nil star_Subscript) r_str q_str star_Subscript rfl) (v_add hx (v_add hx (v_callTy call_str_int c_str l_str n_str (by decide +kernel) (v_cons (v_ix hx (w0 _) v_int (fun _ _ => rfl)) v_nil star_Subscript) r_str q_str star_Subscript rfl) v_str) (v_callTy call_str_int c_str l_str n_str (by decide +kernel) (v_cons (v_ix hx (w0 _) v_int (fun _ _ => rfl)) v_nil star_Subscript) r_str q_str star_Subscript rfl))) rfl))
end
abbrev st__law_told : Stmt := top 44
abbrev N__law_told : List Str := ["_law_told_here", "_law_due"]
theorem sc__law_told : FnScope N__law_told ["_law_told_here", "_law_due"] (defScope st__law_told) := ⟨rfl, rfl, rfl, by decide +kernel, rfl, by decide +kernel, by decide +kernel⟩
section
variable {P : Program} {w : World} {K : PySem.W.Frag} {mg : Str → Option Value} {base : Heap}
theorem ok__law_told {fd : FuncData} (F : FunD K "_law_told" "_law_told" (defArgs st__law_told) (defBody st__law_told) (defScope st__law_told) [] [] (He.ga K "_law_told") fd)  :
    FnOk P w K mg base (L2.CX P w) 1 (He.ga K "_law_told") fd ["_law_told_here", "_law_due"] (spF K mg [false, false] F__law_told) := by
  refine fn_ok F sc__law_told rfl (fun cdv A outer s H E Γ hr hx hP tk po => ?_)
  have v1 : ∀ pos : Pos, PE (cxOf (L2.CX P w) P w K mg base N__law_told "_law_told" (defScope st__law_told) (He.ga K "_law_told") cdv A outer s H E) (.Name "_law_due" pos) (tVar 1) := fun pos => pv 1
  have p1 := hP 1 (by decide)
  have w1 : ∀ pos : Pos, PE (cxOf (L2.CX P w) P w K mg base N__law_told "_law_told" (defScope st__law_told) (He.ga K "_law_told") cdv A outer s H E) (.Name "_law_due" pos) (DE Γ (eVar 1)) := fun pos => v_var (v1 pos) p1
  have v0 : ∀ pos : Pos, PE (cxOf (L2.CX P w) P w K mg base N__law_told "_law_told" (defScope st__law_told) (He.ga K "_law_told") cdv A outer s H E) (.Name "_law_told_here" pos) (tVar 0) := fun pos => pv 0
  have p0 := hP 0 (by decide)
  have w0 : ∀ pos : Pos, PE (cxOf (L2.CX P w) P w K mg base N__law_told "_law_told" (defScope st__law_told) (He.ga K "_law_told") cdv A outer s H E) (.Name "_law_told_here" pos) (DE Γ (eVar 0)) := fun pos => v_var (v0 pos) p0
  exact ss_one (s_ret (v_if (t_tru hx (w1 _) (fun _ => rfl)) (v_cmp op_isA s_is (w0 _) v_bl rfl) (v_cmp op_isA s_is (w0 _) v_bl rfl)))
end
abbrev st__law_bounds : Stmt := top 45
abbrev N__law_bounds : List Str := ["_law_one", "_law_small"]
theorem sc__law_bounds : FnScope N__law_bounds ["_law_one"] (defScope st__law_bounds) := ⟨rfl, rfl, rfl, by decide +kernel, rfl, by decide +kernel, by decide +kernel⟩
section
variable {P : Program} {w : World} {K : PySem.W.Frag} {mg : Str → Option Value} {base : Heap}
theorem ok__law_bounds {fd : FuncData} (F : FunD K "_law_bounds" "_law_bounds" (defArgs st__law_bounds) (defBody st__law_bounds) (defScope st__law_bounds) [] [] (He.ga K "_law_bounds") fd) (n_abs : mg "abs" = none) (d__law_told : Def P w K mg base 1 "_law_told" ["_law_told_here", "_law_due"] [false, false] F__law_told) (d_is_arm_size : Def P w K mg base 5 "is_arm_size" ["thing"] [false] F_is_arm_size) (d_is_weight : Def P w K mg base 5 "is_weight" ["thing"] [false] F_is_weight) (d__law_top : Def P w K mg base 1 "_law_top" [] [] F__law_top) (d_is_factor : Def P w K mg base 4 "is_factor" ["thing"] [false] F_is_factor) :
    FnOk P w K mg base (L2.CX P w) 6 (He.ga K "_law_bounds") fd ["_law_one"] (spF K mg [false] F__law_bounds) := by
  refine fn_ok F sc__law_bounds rfl (fun cdv A outer s H E Γ hr hx hP tk po => ?_)
  have v0 : ∀ pos : Pos, PE (cxOf (L2.CX P w) P w K mg base N__law_bounds "_law_bounds" (defScope st__law_bounds) (He.ga K "_law_bounds") cdv A outer s H E) (.Name "_law_one" pos) (tVar 0) := fun pos => pv 0
  have p0 := hP 0 (by decide)
  have w0 : ∀ pos : Pos, PE (cxOf (L2.CX P w) P w K mg base N__law_bounds "_law_bounds" (defScope st__law_bounds) (He.ga K "_law_bounds") cdv A outer s H E) (.Name "_law_one" pos) (DE Γ (eVar 0)) := fun pos => v_var (v0 pos) p0
  have l_abs : Gl (cxOf (L2.CX P w) P w K mg base N__law_bounds "_law_bounds" (defScope st__law_bounds) (He.ga K "_law_bounds") cdv A outer s H E) "abs" := by rfl
  have r_abs : ("abs" : Str) ≠ "__name__" := by decide
  have q_abs : (("abs" : Str) == ("__debug__" : Str)) = false := by decide
  have p1 := hP 1 (by decide)
  have v1 : ∀ pos : Pos, PE (cxOf (L2.CX P w) P w K mg base N__law_bounds "_law_bounds" (defScope st__law_bounds) (He.ga K "_law_bounds") cdv A outer s H E) (.Name "_law_small" pos) (tVar 1) := fun pos => pv 1
  have w1 : ∀ pos : Pos, PE (cxOf (L2.CX P w) P w K mg base N__law_bounds "_law_bounds" (defScope st__law_bounds) (He.ga K "_law_bounds") cdv A outer s H E) (.Name "_law_small" pos) (DE Γ (eVar 1)) := fun pos => v_var (v1 pos) p1
  have hr5 := hr.mono (show 5 ≤ 5 by decide)
  have l_is_arm_size : Gl (cxOf (L2.CX P w) P w K mg base N__law_bounds "_law_bounds" (defScope st__law_bounds) (He.ga K "_law_bounds") cdv A outer s H E) "is_arm_size" := by rfl
  have q_is_arm_size : (("is_arm_size" : Str) == ("__debug__" : Str)) = false := by decide
  have hr1 := hr.mono (show 1 ≤ 5 by decide)
  have l__law_told : Gl (cxOf (L2.CX P w) P w K mg base N__law_bounds "_law_bounds" (defScope st__law_bounds) (He.ga K "_law_bounds") cdv A outer s H E) "_law_told" := by rfl
  have q__law_told : (("_law_told" : Str) == ("__debug__" : Str)) = false := by decide
  have l_is_weight : Gl (cxOf (L2.CX P w) P w K mg base N__law_bounds "_law_bounds" (defScope st__law_bounds) (He.ga K "_law_bounds") cdv A outer s H E) "is_weight" := by rfl
  have q_is_weight : (("is_weight" : Str) == ("__debug__" : Str)) = false := by decide
  have l__law_top : Gl (cxOf (L2.CX P w) P w K mg base N__law_bounds "_law_bounds" (defScope st__law_bounds) (He.ga K "_law_bounds") cdv A outer s H E) "_law_top" := by rfl
  have q__law_top : (("_law_top" : Str) == ("__debug__" : Str)) = false := by decide
  have hr4 := hr.mono (show 4 ≤ 5 by decide)
  have l_is_factor : Gl (cxOf (L2.CX P w) P w K mg base N__law_bounds "_law_bounds" (defScope st__law_bounds) (He.ga K "_law_bounds") cdv A outer s H E) "is_factor" := by rfl
  have q_is_factor : (("is_factor" : Str) == ("__debug__" : Str)) = false := by decide
  refine ss_cons (s_asg (ps_set (i := 1) sc__law_bounds.nd rfl (by first | exact Or.inl rfl | exact Or.inr rfl) (v_and hx (v_cmp op_le s_cmp (v_callB call_abs c_abs l_abs n_abs (by decide +kernel) (v_cons (v_ix hx (w0 _) v_int (fun _ _ => rfl)) v_nil star_Subscript) r_abs q_abs star_Subscript rfl) (v_op op_pow s_pow v_int v_int) rfl) (v_one (v_cmp op_le s_cmp (v_ix hx (w0 _) v_int (fun _ _ => rfl)) (v_op op_pow s_pow v_int v_int) rfl)))) p1) ?_
  refine ss_cons (s_if (PW.pt (w_or (t_not (t_tru hx (v_call hx tk d__law_told hr1 l__law_told (b_val (v_call hx tk d_is_arm_size hr5 l_is_arm_size (b_val (w0 _) b_nil star_Name) q_is_arm_size star_Name rfl) (b_val (v_and hx (w1 _) (v_one (v_cmp op_gt s_cmp (v_ix hx (w0 _) v_int (fun _ _ => rfl)) v_int rfl))) b_nil star_BoolOp) star_Call) q__law_told star_Call rfl) (fun _ => rfl))) (w_or1 (t_not (t_tru hx (v_call hx tk d__law_told hr1 l__law_told (b_val (v_call hx tk d_is_weight hr5 l_is_weight (b_val (w0 _) b_nil star_Name) q_is_weight star_Name rfl) (b_val (v_and hx (w1 _) (v_one (v_cmp op_ge s_cmp (v_ix hx (w0 _) v_int (fun _ _ => rfl)) v_int rfl))) b_nil star_BoolOp) star_Call) q__law_told star_Call rfl) (fun _ => rfl))))))
 (by exact ss_one (s_ret v_bl))
 ss_nil) ?_
  exact ss_one (s_ret (v_call hx tk d__law_told hr1 l__law_told (b_val (v_call hx tk d_is_factor hr4 l_is_factor (b_val (w0 _) b_nil star_Name) q_is_factor star_Name rfl) (b_val (v_and hx (v_chain op_lt op_le s_cmpB s_cmp v_int (v_ix hx (w0 _) v_int (fun _ _ => rfl)) (v_call0 (dvs := []) hx tk d__law_top.ok d__law_top.gm d__law_top.kp ⟨[], .nil, d__law_top.bi⟩ (fun _ => .nil) hr1 l__law_top q__law_top) (pe_chain op_lt op_le v_int (v_ix hx (w0 _) v_int (fun _ _ => rfl)) (v_call0 (dvs := []) hx tk d__law_top.ok d__law_top.gm d__law_top.kp ⟨[], .nil, d__law_top.bi⟩ (fun _ => .nil) hr1 l__law_top q__law_top))) (v_one (v_cmp op_le s_cmp (v_ix hx (w0 _) v_int (fun _ _ => rfl)) (v_call0 (dvs := []) hx tk d__law_top.ok d__law_top.gm d__law_top.kp ⟨[], .nil, d__law_top.bi⟩ (fun _ => .nil) hr1 l__law_top q__law_top) rfl))) b_nil star_BoolOp) star_Call) q__law_told star_Call rfl))
end
abbrev st_law : Stmt := top 46
abbrev N_law : List Str := ["_law_script", "_law_hand_here", "_law_rows", "_law_turn", "_law_top_here", "_law_bottom", "_law_due", "_law_one", "_law_two", "_law_end", "_law_odd_here", "_law_whole", "_law_under", "_law_upper", "_law_least", "_law_greatest"]
theorem sc_law : FnScope N_law ["_law_script"] (defScope st_law) := ⟨rfl, rfl, rfl, by decide +kernel, rfl, by decide +kernel, by decide +kernel⟩
section
variable {P : Program} {w : World} {K : PySem.W.Frag} {mg : Str → Option Value} {base : Heap}
theorem ok_law {fd : FuncData} (F : FunD K "law" "law" (defArgs st_law) (defBody st_law) (defScope st_law) [] [] (He.ga K "law") fd) (d__law_hand : Def P w K mg base 1 "_law_hand" ["_law_script"] [false] F__law_hand) (c_ZERO : Const K mg "ZERO" (.tup [.int 0, .int 1])) (c_ONE : Const K mg "ONE" (.tup [.int 1, .int 1])) (d_sum_of : Def P w K mg base 3 "sum_of" ["ratios"] [false] F_sum_of) (n_range : mg "range" = none) (d__law_number : Def P w K mg base 3 "_law_number" ["_law_hand_here"] [true] F__law_number) (d__law_ratio : Def P w K mg base 2 "_law_ratio" ["_law_top_here", "_law_bottom"] [false, false] F__law_ratio) (d__law_try : Def P w K mg base 4 "_law_try" ["_law_top_here", "_law_bottom"] [false, false] F__law_try) (d_make_ratio : Def P w K mg base 3 "make_ratio" ["top", "bottom"] [false, false] F_make_ratio) (b_make_ratio_1 : ∃ ds, Vals [V.int 1] ds ∧ Binds K d_make_ratio.fd ["top", "bottom"] ds) (d_is_ratio : Def P w K mg base 2 "is_ratio" ["thing"] [false] F_is_ratio) (d__law_odd : Def P w K mg base 3 "_law_odd" ["_law_hand_here", "_law_one"] [true, false] F__law_odd) (d__law_bounds : Def P w K mg base 6 "_law_bounds" ["_law_one"] [false] F__law_bounds) (d__law_tuples : Def P w K mg base 5 "_law_tuples" ["_law_thing"] [false] F__law_tuples) (d_plus : Def P w K mg base 2 "plus" ["one", "two"] [false, false] F_plus) (d__law_pair : Def P w K mg base 4 "_law_pair" ["_law_one", "_law_two"] [false, false] F__law_pair) (d__law_top : Def P w K mg base 1 "_law_top" [] [] F__law_top) (d__law_take : Def P w K mg base 2 "_law_take" ["_law_hand_here", "_law_many"] [true, false] F__law_take) (d__law_told : Def P w K mg base 1 "_law_told" ["_law_told_here", "_law_due"] [false, false] F__law_told) (d_is_arm_size : Def P w K mg base 5 "is_arm_size" ["thing"] [false] F_is_arm_size) (d_is_whole : Def P w K mg base 1 "is_whole" ["thing", "low", "high"] [false, false, false] F_is_whole) (b_is_whole_1 : ∃ ds, Vals [V.non, V.non] ds ∧ Binds K d_is_whole.fd ["thing", "low", "high"] ds) (b_is_whole_2 : ∃ ds, Vals [V.non] ds ∧ Binds K d_is_whole.fd ["thing", "low", "high"] ds) (k_is_whole_1_high : ∃ g, KBn K d_is_whole.fd ["thing", "low", "high"] 1 ["high"] g (fun vs zs => vs ++ ([V.non] ++ zs))) (d__law_sum : Def P w K mg base 4 "_law_sum" ["_law_rows"] [false] F__law_sum) (n_tuple : mg "tuple" = none) (d_least_of : Def P w K mg base 2 "least_of" ["ratios"] [false] F_least_of) (d_greatest_of : Def P w K mg base 2 "greatest_of" ["ratios"] [false] F_greatest_of) (d__law_less : Def P w K mg base 1 "_law_less" ["_law_one", "_law_other"] [false, false] F__law_less) :
    FnOk P w K mg base (L2.CX P w) 7 (He.ga K "law") fd ["_law_script"] (spF K mg [false] F_law) := by
  refine fn_ok F sc_law rfl (fun cdv A outer s H E Γ hr hx hP tk po => ?_)
  have v0 : ∀ pos : Pos, PE (cxOf (L2.CX P w) P w K mg base N_law "law" (defScope st_law) (He.ga K "law") cdv A outer s H E) (.Name "_law_script" pos) (tVar 0) := fun pos => pv 0
  have p0 := hP 0 (by decide)
  have w0 : ∀ pos : Pos, PE (cxOf (L2.CX P w) P w K mg base N_law "law" (defScope st_law) (He.ga K "law") cdv A outer s H E) (.Name "_law_script" pos) (DE Γ (eVar 0)) := fun pos => v_var (v0 pos) p0
  have hr1 := hr.mono (show 1 ≤ 6 by decide)
  have l__law_hand : Gl (cxOf (L2.CX P w) P w K mg base N_law "law" (defScope st_law) (He.ga K "law") cdv A outer s H E) "_law_hand" := by rfl
  have q__law_hand : (("_law_hand" : Str) == ("__debug__" : Str)) = false := by decide
  have p1 := hP 1 (by decide)
  have l_ZERO : Gl (cxOf (L2.CX P w) P w K mg base N_law "law" (defScope st_law) (He.ga K "law") cdv A outer s H E) "ZERO" := by rfl
  have q_ZERO : (("ZERO" : Str) == ("__debug__" : Str)) = false := by decide
  have l_ONE : Gl (cxOf (L2.CX P w) P w K mg base N_law "law" (defScope st_law) (He.ga K "law") cdv A outer s H E) "ONE" := by rfl
  have q_ONE : (("ONE" : Str) == ("__debug__" : Str)) = false := by decide
  have hr3 := hr.mono (show 3 ≤ 6 by decide)
  have l_sum_of : Gl (cxOf (L2.CX P w) P w K mg base N_law "law" (defScope st_law) (He.ga K "law") cdv A outer s H E) "sum_of" := by rfl
  have q_sum_of : (("sum_of" : Str) == ("__debug__" : Str)) = false := by decide
  have p2 := hP 2 (by decide)
  have p3 := hP 3 (by decide)
  have v1 : ∀ pos : Pos, PE (cxOf (L2.CX P w) P w K mg base N_law "law" (defScope st_law) (He.ga K "law") cdv A outer s H E) (.Name "_law_hand_here" pos) (tVar 1) := fun pos => pv 1
  have l__law_number : Gl (cxOf (L2.CX P w) P w K mg base N_law "law" (defScope st_law) (He.ga K "law") cdv A outer s H E) "_law_number" := by rfl
  have q__law_number : (("_law_number" : Str) == ("__debug__" : Str)) = false := by decide
  have p4 := hP 4 (by decide)
  have p5 := hP 5 (by decide)
  have v5 : ∀ pos : Pos, PE (cxOf (L2.CX P w) P w K mg base N_law "law" (defScope st_law) (He.ga K "law") cdv A outer s H E) (.Name "_law_bottom" pos) (tVar 5) := fun pos => pv 5
  have w5 : ∀ pos : Pos, PE (cxOf (L2.CX P w) P w K mg base N_law "law" (defScope st_law) (He.ga K "law") cdv A outer s H E) (.Name "_law_bottom" pos) (DE Γ (eVar 5)) := fun pos => v_var (v5 pos) p5
  have v4 : ∀ pos : Pos, PE (cxOf (L2.CX P w) P w K mg base N_law "law" (defScope st_law) (He.ga K "law") cdv A outer s H E) (.Name "_law_top_here" pos) (tVar 4) := fun pos => pv 4
  have w4 : ∀ pos : Pos, PE (cxOf (L2.CX P w) P w K mg base N_law "law" (defScope st_law) (He.ga K "law") cdv A outer s H E) (.Name "_law_top_here" pos) (DE Γ (eVar 4)) := fun pos => v_var (v4 pos) p4
  have hr2 := hr.mono (show 2 ≤ 6 by decide)
  have l__law_ratio : Gl (cxOf (L2.CX P w) P w K mg base N_law "law" (defScope st_law) (He.ga K "law") cdv A outer s H E) "_law_ratio" := by rfl
  have q__law_ratio : (("_law_ratio" : Str) == ("__debug__" : Str)) = false := by decide
  have p6 := hP 6 (by decide)
  have hr4 := hr.mono (show 4 ≤ 6 by decide)
  have l__law_try : Gl (cxOf (L2.CX P w) P w K mg base N_law "law" (defScope st_law) (He.ga K "law") cdv A outer s H E) "_law_try" := by rfl
  have q__law_try : (("_law_try" : Str) == ("__debug__" : Str)) = false := by decide
  have v6 : ∀ pos : Pos, PE (cxOf (L2.CX P w) P w K mg base N_law "law" (defScope st_law) (He.ga K "law") cdv A outer s H E) (.Name "_law_due" pos) (tVar 6) := fun pos => pv 6
  have w6 : ∀ pos : Pos, PE (cxOf (L2.CX P w) P w K mg base N_law "law" (defScope st_law) (He.ga K "law") cdv A outer s H E) (.Name "_law_due" pos) (DE Γ (eVar 6)) := fun pos => v_var (v6 pos) p6
  have l_make_ratio : Gl (cxOf (L2.CX P w) P w K mg base N_law "law" (defScope st_law) (He.ga K "law") cdv A outer s H E) "make_ratio" := by rfl
  have q_make_ratio : (("make_ratio" : Str) == ("__debug__" : Str)) = false := by decide
  have v2 : ∀ pos : Pos, PE (cxOf (L2.CX P w) P w K mg base N_law "law" (defScope st_law) (He.ga K "law") cdv A outer s H E) (.Name "_law_rows" pos) (tVar 2) := fun pos => pv 2
  have w2 : ∀ pos : Pos, PE (cxOf (L2.CX P w) P w K mg base N_law "law" (defScope st_law) (He.ga K "law") cdv A outer s H E) (.Name "_law_rows" pos) (DE Γ (eVar 2)) := fun pos => v_var (v2 pos) p2
  have p7 := hP 7 (by decide)
  have v7 : ∀ pos : Pos, PE (cxOf (L2.CX P w) P w K mg base N_law "law" (defScope st_law) (He.ga K "law") cdv A outer s H E) (.Name "_law_one" pos) (tVar 7) := fun pos => pv 7
  have w7 : ∀ pos : Pos, PE (cxOf (L2.CX P w) P w K mg base N_law "law" (defScope st_law) (He.ga K "law") cdv A outer s H E) (.Name "_law_one" pos) (DE Γ (eVar 7)) := fun pos => v_var (v7 pos) p7
  have l_is_ratio : Gl (cxOf (L2.CX P w) P w K mg base N_law "law" (defScope st_law) (He.ga K "law") cdv A outer s H E) "is_ratio" := by rfl
  have q_is_ratio : (("is_ratio" : Str) == ("__debug__" : Str)) = false := by decide
  have l__law_odd : Gl (cxOf (L2.CX P w) P w K mg base N_law "law" (defScope st_law) (He.ga K "law") cdv A outer s H E) "_law_odd" := by rfl
  have q__law_odd : (("_law_odd" : Str) == ("__debug__" : Str)) = false := by decide
  have hr6 := hr.mono (show 6 ≤ 6 by decide)
  have l__law_bounds : Gl (cxOf (L2.CX P w) P w K mg base N_law "law" (defScope st_law) (He.ga K "law") cdv A outer s H E) "_law_bounds" := by rfl
  have q__law_bounds : (("_law_bounds" : Str) == ("__debug__" : Str)) = false := by decide
  have l_plus : Gl (cxOf (L2.CX P w) P w K mg base N_law "law" (defScope st_law) (He.ga K "law") cdv A outer s H E) "plus" := by rfl
  have q_plus : (("plus" : Str) == ("__debug__" : Str)) = false := by decide
  have hr5 := hr.mono (show 5 ≤ 6 by decide)
  have l__law_tuples : Gl (cxOf (L2.CX P w) P w K mg base N_law "law" (defScope st_law) (He.ga K "law") cdv A outer s H E) "_law_tuples" := by rfl
  have q__law_tuples : (("_law_tuples" : Str) == ("__debug__" : Str)) = false := by decide
  have p8 := hP 8 (by decide)
  have v8 : ∀ pos : Pos, PE (cxOf (L2.CX P w) P w K mg base N_law "law" (defScope st_law) (He.ga K "law") cdv A outer s H E) (.Name "_law_two" pos) (tVar 8) := fun pos => pv 8
  have w8 : ∀ pos : Pos, PE (cxOf (L2.CX P w) P w K mg base N_law "law" (defScope st_law) (He.ga K "law") cdv A outer s H E) (.Name "_law_two" pos) (DE Γ (eVar 8)) := fun pos => v_var (v8 pos) p8
  have l__law_pair : Gl (cxOf (L2.CX P w) P w K mg base N_law "law" (defScope st_law) (He.ga K "law") cdv A outer s H E) "_law_pair" := by rfl
  have q__law_pair : (("_law_pair" : Str) == ("__debug__" : Str)) = false := by decide
  have l__law_top : Gl (cxOf (L2.CX P w) P w K mg base N_law "law" (defScope st_law) (He.ga K "law") cdv A outer s H E) "_law_top" := by rfl
  have q__law_top : (("_law_top" : Str) == ("__debug__" : Str)) = false := by decide
  have p9 := hP 9 (by decide)
  have v9 : ∀ pos : Pos, PE (cxOf (L2.CX P w) P w K mg base N_law "law" (defScope st_law) (He.ga K "law") cdv A outer s H E) (.Name "_law_end" pos) (tVar 9) := fun pos => pv 9
  have w9 : ∀ pos : Pos, PE (cxOf (L2.CX P w) P w K mg base N_law "law" (defScope st_law) (He.ga K "law") cdv A outer s H E) (.Name "_law_end" pos) (DE Γ (eVar 9)) := fun pos => v_var (v9 pos) p9
  have l__law_take : Gl (cxOf (L2.CX P w) P w K mg base N_law "law" (defScope st_law) (He.ga K "law") cdv A outer s H E) "_law_take" := by rfl
  have q__law_take : (("_law_take" : Str) == ("__debug__" : Str)) = false := by decide
  have p10 := hP 10 (by decide)
  have v10 : ∀ pos : Pos, PE (cxOf (L2.CX P w) P w K mg base N_law "law" (defScope st_law) (He.ga K "law") cdv A outer s H E) (.Name "_law_odd_here" pos) (tVar 10) := fun pos => pv 10
  have w10 : ∀ pos : Pos, PE (cxOf (L2.CX P w) P w K mg base N_law "law" (defScope st_law) (He.ga K "law") cdv A outer s H E) (.Name "_law_odd_here" pos) (DE Γ (eVar 10)) := fun pos => v_var (v10 pos) p10
  have l_is_arm_size : Gl (cxOf (L2.CX P w) P w K mg base N_law "law" (defScope st_law) (He.ga K "law") cdv A outer s H E) "is_arm_size" := by rfl
  have q_is_arm_size : (("is_arm_size" : Str) == ("__debug__" : Str)) = false := by decide
  have l__law_told : Gl (cxOf (L2.CX P w) P w K mg base N_law "law" (defScope st_law) (He.ga K "law") cdv A outer s H E) "_law_told" := by rfl
  have q__law_told : (("_law_told" : Str) == ("__debug__" : Str)) = false := by decide
  have l_is_whole : Gl (cxOf (L2.CX P w) P w K mg base N_law "law" (defScope st_law) (He.ga K "law") cdv A outer s H E) "is_whole" := by rfl
  have q_is_whole : (("is_whole" : Str) == ("__debug__" : Str)) = false := by decide
  have p11 := hP 11 (by decide)
  have p12 := hP 12 (by decide)
  have p13 := hP 13 (by decide)
  have v11 : ∀ pos : Pos, PE (cxOf (L2.CX P w) P w K mg base N_law "law" (defScope st_law) (He.ga K "law") cdv A outer s H E) (.Name "_law_whole" pos) (tVar 11) := fun pos => pv 11
  have w11 : ∀ pos : Pos, PE (cxOf (L2.CX P w) P w K mg base N_law "law" (defScope st_law) (He.ga K "law") cdv A outer s H E) (.Name "_law_whole" pos) (DE Γ (eVar 11)) := fun pos => v_var (v11 pos) p11
  have v12 : ∀ pos : Pos, PE (cxOf (L2.CX P w) P w K mg base N_law "law" (defScope st_law) (He.ga K "law") cdv A outer s H E) (.Name "_law_under" pos) (tVar 12) := fun pos => pv 12
  have w12 : ∀ pos : Pos, PE (cxOf (L2.CX P w) P w K mg base N_law "law" (defScope st_law) (He.ga K "law") cdv A outer s H E) (.Name "_law_under" pos) (DE Γ (eVar 12)) := fun pos => v_var (v12 pos) p12
  have v13 : ∀ pos : Pos, PE (cxOf (L2.CX P w) P w K mg base N_law "law" (defScope st_law) (He.ga K "law") cdv A outer s H E) (.Name "_law_upper" pos) (tVar 13) := fun pos => pv 13
  have w13 : ∀ pos : Pos, PE (cxOf (L2.CX P w) P w K mg base N_law "law" (defScope st_law) (He.ga K "law") cdv A outer s H E) (.Name "_law_upper" pos) (DE Γ (eVar 13)) := fun pos => v_var (v13 pos) p13
  have l__law_sum : Gl (cxOf (L2.CX P w) P w K mg base N_law "law" (defScope st_law) (He.ga K "law") cdv A outer s H E) "_law_sum" := by rfl
  have q__law_sum : (("_law_sum" : Str) == ("__debug__" : Str)) = false := by decide
  have l_tuple : Gl (cxOf (L2.CX P w) P w K mg base N_law "law" (defScope st_law) (He.ga K "law") cdv A outer s H E) "tuple" := by rfl
  have r_tuple : ("tuple" : Str) ≠ "__name__" := by decide
  have q_tuple : (("tuple" : Str) == ("__debug__" : Str)) = false := by decide
  have l_least_of : Gl (cxOf (L2.CX P w) P w K mg base N_law "law" (defScope st_law) (He.ga K "law") cdv A outer s H E) "least_of" := by rfl
  have q_least_of : (("least_of" : Str) == ("__debug__" : Str)) = false := by decide
  have p14 := hP 14 (by decide)
  have l_greatest_of : Gl (cxOf (L2.CX P w) P w K mg base N_law "law" (defScope st_law) (He.ga K "law") cdv A outer s H E) "greatest_of" := by rfl
  have q_greatest_of : (("greatest_of" : Str) == ("__debug__" : Str)) = false := by decide
  have p15 := hP 15 (by decide)
  have v14 : ∀ pos : Pos, PE (cxOf (L2.CX P w) P w K mg base N_law "law" (defScope st_law) (He.ga K "law") cdv A outer s H E) (.Name "_law_least" pos) (tVar 14) := fun pos => pv 14
  have w14 : ∀ pos : Pos, PE (cxOf (L2.CX P w) P w K mg base N_law "law" (defScope st_law) (He.ga K "law") cdv A outer s H E) (.Name "_law_least" pos) (DE Γ (eVar 14)) := fun pos => v_var (v14 pos) p14
  have v15 : ∀ pos : Pos, PE (cxOf (L2.CX P w) P w K mg base N_law "law" (defScope st_law) (He.ga K "law") cdv A outer s H E) (.Name "_law_greatest" pos) (tVar 15) := fun pos => pv 15
  have w15 : ∀ pos : Pos, PE (cxOf (L2.CX P w) P w K mg base N_law "law" (defScope st_law) (He.ga K "law") cdv A outer s H E) (.Name "_law_greatest" pos) (DE Γ (eVar 15)) := fun pos => v_var (v15 pos) p15
  have q__law_less : (("_law_less" : Str) == ("__debug__" : Str)) = false := by decide
  refine ss_cons (s_asgO (ps_set (i := 1) sc_law.nd rfl (by first | exact Or.inl rfl | exact Or.inr rfl) (f_call hx tk d__law_hand hr1 l__law_hand (b_val (w0 _) b_nil star_Name) q__law_hand star_Name rfl)) p1) ?_
  refine ss_cons (s_if (PW.pt (w_or (t_ne hx hr.units (v_const c_ZERO hx l_ZERO q_ZERO) (v_tup (v_cons v_int (v_cons v_int v_nil star_Constant) star_Constant)) rfl) (w_or (t_ne hx hr.units (v_const c_ONE hx l_ONE q_ONE) (v_tup (v_cons v_int (v_cons v_int v_nil star_Constant) star_Constant)) rfl) (w_or (t_ne hx hr.units (v_call hx tk d_sum_of hr3 l_sum_of (b_val (v_lst v_nil) b_nil star_List) q_sum_of star_List rfl) (v_tup (v_cons v_int (v_cons v_int v_nil star_Constant) star_Constant)) rfl) (w_or1 (t_ne hx hr.units (v_call hx tk d_sum_of hr3 l_sum_of (b_val (v_tup v_nil) b_nil star_Tuple) q_sum_of star_Tuple rfl) (v_tup (v_cons v_int (v_cons v_int v_nil star_Constant) star_Constant)) rfl))))))
 (by exact ss_one (s_ret v_bl))
 ss_nil) ?_
  refine ss_cons (s_asgO (ps_set (i := 2) sc_law.nd rfl (by first | exact Or.inl rfl | exact Or.inr rfl) (f_lst v_nil)) p2) ?_
  refine ss_cons (s_for (is := [3]) (ps_for po rfl (i_rng1 (pi_range1 (by rfl) n_range (v_cons v_int v_nil star_Constant))) (g_name (pg_name sc_law.nd rfl (by first | exact Or.inl rfl | exact Or.inr rfl)) p3)
 (by refine ss_cons (s_asg (ps_set (i := 4) sc_law.nd rfl (by first | exact Or.inl rfl | exact Or.inr rfl) (v_call hx tk d__law_number hr3 l__law_number (b_own (v1 _) b_nil star_Name) q__law_number star_Name rfl)) p4) ?_; refine ss_cons (s_asg (ps_set (i := 5) sc_law.nd rfl (by first | exact Or.inl rfl | exact Or.inr rfl) (v_call hx tk d__law_number hr3 l__law_number (b_own (v1 _) b_nil star_Name) q__law_number star_Name rfl)) p5) ?_; refine ss_cons (s_asg (ps_set (i := 6) sc_law.nd rfl (by first | exact Or.inl rfl | exact Or.inr rfl) (v_if (t_eq hx hr.units (w5 _) v_int rfl) v_str (v_call hx tk d__law_ratio hr2 l__law_ratio (b_val (w4 _) (b_val (w5 _) b_nil star_Name) star_Name) q__law_ratio star_Name rfl))) p6) ?_; refine ss_cons (s_if (PW.pt (w_or (t_ne hx hr.units (v_call hx tk d__law_try hr4 l__law_try (b_val (w4 _) (b_val (w5 _) b_nil star_Name) star_Name) q__law_try star_Name rfl) (w6 _) rfl) (w_or1 (t_ne hx hr.units (v_callD (dvs := [V.int 1]) hx tk d_make_ratio.ok d_make_ratio.gm d_make_ratio.kp b_make_ratio_1 (fun _ => (.cons (.int _) .nil)) hr3 l_make_ratio (b_val (w4 _) b_nil star_Name) q_make_ratio star_Name rfl) (v_tup (v_cons (w4 _) (v_cons v_int v_nil star_Constant) star_Name)) rfl))))
 (by exact ss_one (s_ret v_bl))
 ss_nil) ?_; exact ss_one (s_app hx (ps_expr (pe_bm PySem.F.plainAttrs_list PySem.F.slot_list_append PySem.F.type_list_append mt_append (v2 _) (pa_cons (v_call hx tk d__law_ratio hr2 l__law_ratio (b_val (w4 _) (b_val (v_if (t_tru hx (w5 _) (fun _ => rfl)) (w5 _) v_int) b_nil star_IfExp) star_Name) q__law_ratio star_Name rfl) pa_nil))))))) ?_
  refine ss_cons (s_for (is := [7]) (ps_for po rfl (i_seq hx (w2 _)) (g_name (pg_name sc_law.nd rfl (by first | exact Or.inl rfl | exact Or.inr rfl)) p7)
 (by refine ss_cons (s_if (PW.pt (w_or (t_cmp op_notA s_isnot (v_call hx tk d_is_ratio hr2 l_is_ratio (b_val (w7 _) b_nil star_Name) q_is_ratio star_Name rfl) v_bl rfl) (w_or (t_cmp op_notA s_isnot (v_call hx tk d_is_ratio hr2 l_is_ratio (b_val (v_call hx tk d__law_odd hr3 l__law_odd (b_own (v1 _) (b_val (w7 _) b_nil star_Name) star_Name) q__law_odd star_Name rfl) b_nil star_Call) q_is_ratio star_Call rfl) v_bl rfl) (w_or (t_not (t_tru hx (v_call hx tk d__law_bounds hr6 l__law_bounds (b_val (w7 _) b_nil star_Name) q__law_bounds star_Name rfl) (fun _ => rfl))) (w_or1 (t_not (t_tru hx (v_call hx tk d__law_tuples hr5 l__law_tuples (b_val (v_call hx tk d_plus hr2 l_plus (b_val (w7 _) (b_val (v_ixS hx (v2 _) v_int (fun _ _ => rfl)) b_nil star_Subscript) star_Name) q_plus star_Name rfl) b_nil star_Call) q__law_tuples star_Call rfl) (fun _ => rfl))))))))
 (by exact ss_one (s_ret v_bl))
 ss_nil) ?_; exact ss_one (s_for (is := [8]) (ps_for po rfl (i_seq hx (w2 _)) (g_name (pg_name sc_law.nd rfl (by first | exact Or.inl rfl | exact Or.inr rfl)) p8)
 (by exact ss_one (s_if (t_not (t_tru hx (v_call hx tk d__law_pair hr4 l__law_pair (b_val (w7 _) (b_val (w8 _) b_nil star_Name) star_Name) q__law_pair star_Name rfl) (fun _ => rfl)))
 (by exact ss_one (s_ret v_bl))
 ss_nil))))))) ?_
  refine ss_cons (s_for (is := [9]) (ps_for po rfl (i_seq hx (v_lst (v_cons (v_op op_pow s_pow v_int v_int) (v_cons (v_call0 (dvs := []) hx tk d__law_top.ok d__law_top.gm d__law_top.kp ⟨[], .nil, d__law_top.bi⟩ (fun _ => .nil) hr1 l__law_top q__law_top) v_nil star_Call) star_BinOp))) (g_name (pg_name sc_law.nd rfl (by first | exact Or.inl rfl | exact Or.inr rfl)) p9)
 (by exact ss_one (s_for (is := [7]) (ps_for po rfl (i_seq hx (v_lst (v_cons (v_tup (v_cons (w9 _) (v_cons v_int v_nil star_Constant) star_Name)) (v_cons (v_tup (v_cons (v_add hx (w9 _) v_int) (v_cons v_int v_nil star_Constant) star_BinOp)) (v_cons (v_tup (v_cons v_int (v_cons (w9 _) v_nil star_Name) star_Constant)) (v_cons (v_tup (v_cons v_int (v_cons (v_add hx (w9 _) v_int) v_nil star_BinOp) star_Constant)) (v_cons (v_tup (v_cons (v_un un_neg s_neg (w9 _)) (v_cons v_int v_nil star_Constant) star_UnaryOp)) (v_cons (v_tup (v_cons (v_op op_sub s_sub (v_un un_neg s_neg (w9 _)) v_int) (v_cons v_int v_nil star_Constant) star_BinOp)) (v_cons (v_tup (v_cons v_int (v_cons v_int v_nil star_Constant) star_Constant)) v_nil star_Tuple) star_Tuple) star_Tuple) star_Tuple) star_Tuple) star_Tuple) star_Tuple))) (g_name (pg_name sc_law.nd rfl (by first | exact Or.inl rfl | exact Or.inr rfl)) p7)
 (by exact ss_one (s_if (t_not (t_tru hx (v_call hx tk d__law_bounds hr6 l__law_bounds (b_val (w7 _) b_nil star_Name) q__law_bounds star_Name rfl) (fun _ => rfl)))
 (by exact ss_one (s_ret v_bl))
 ss_nil))))))) ?_
  refine ss_cons (s_asg (ps_set (i := 10) sc_law.nd rfl (by first | exact Or.inl rfl | exact Or.inr rfl) (v_ix hx (v_lst (v_cons v_bl (v_cons v_non (v_cons v_str (v_cons (v_tup (v_cons v_int (v_cons v_int v_nil star_Constant) star_Constant)) (v_cons (v_lst (v_cons v_int v_nil star_Constant)) v_nil star_List) star_Tuple) star_Constant) star_Constant) star_Constant)) (v_call hx tk d__law_take hr2 l__law_take (b_own (v1 _) (b_val v_int b_nil star_Constant) star_Name) q__law_take star_Name rfl) (fun _ _ => rfl))) p10) ?_
  refine ss_cons (s_if (PW.pt (w_or (t_ne hx hr.units (v_call hx tk d__law_try hr4 l__law_try (b_val (w10 _) (b_val v_int b_nil star_Constant) star_Name) q__law_try star_Name rfl) v_str rfl) (w_or1 (t_ne hx hr.units (v_call hx tk d__law_try hr4 l__law_try (b_val (v_ix hx (v_ixS hx (v2 _) v_int (fun _ _ => rfl)) v_int (fun _ _ => rfl)) (b_val (w10 _) b_nil star_Name) star_Subscript) q__law_try star_Subscript rfl) v_str rfl))))
 (by exact ss_one (s_ret v_bl))
 ss_nil) ?_
  refine ss_cons (s_if (PW.pt (w_or (t_not (t_tru hx (v_call hx tk d__law_told hr1 l__law_told (b_val (v_call hx tk d_is_arm_size hr5 l_is_arm_size (b_val (w10 _) b_nil star_Name) q_is_arm_size star_Name rfl) (b_val (v_eq hx hr.units (w10 _) (v_tup (v_cons v_int (v_cons v_int v_nil star_Constant) star_Constant)) rfl) b_nil star_Compare) star_Call) q__law_told star_Call rfl) (fun _ => rfl))) (w_or (t_cmp op_notA s_isnot (v_callD (dvs := [V.non, V.non]) hx tk d_is_whole.ok d_is_whole.gm d_is_whole.kp b_is_whole_1 (fun _ => (.cons (.non) (.cons (.non) .nil))) hr1 l_is_whole (b_val (w10 _) b_nil star_Name) q_is_whole star_Name rfl) v_bl rfl) (w_or1 (t_not (t_tru hx (v_call hx tk d__law_told hr1 l__law_told (b_val (v_call hx tk d_is_ratio hr2 l_is_ratio (b_val (w10 _) b_nil star_Name) q_is_ratio star_Name rfl) (b_val (v_eq hx hr.units (w10 _) (v_tup (v_cons v_int (v_cons v_int v_nil star_Constant) star_Constant)) rfl) b_nil star_Compare) star_Call) q__law_told star_Call rfl) (fun _ => rfl)))))))
 (by exact ss_one (s_ret v_bl))
 ss_nil) ?_
  refine ss_cons (s_asg (ps_set (i := 11) sc_law.nd rfl (by first | exact Or.inl rfl | exact Or.inr rfl) (v_ix hx (v_ixS hx (v2 _) v_int (fun _ _ => rfl)) v_int (fun _ _ => rfl))) p11) ?_
  refine ss_cons (s_asg (ps_set (i := 12) sc_law.nd rfl (by first | exact Or.inl rfl | exact Or.inr rfl) (v_ix hx (v_ixS hx (v2 _) v_int (fun _ _ => rfl)) v_int (fun _ _ => rfl))) p12) ?_
  refine ss_cons (s_asg (ps_set (i := 13) sc_law.nd rfl (by first | exact Or.inl rfl | exact Or.inr rfl) (v_ix hx (v_ixS hx (v2 _) v_int (fun _ _ => rfl)) v_int (fun _ _ => rfl))) p13) ?_
  refine ss_cons (s_if (PW.pt (w_or (t_cmp op_notA s_isnot (v_callD (dvs := [V.non, V.non]) hx tk d_is_whole.ok d_is_whole.gm d_is_whole.kp b_is_whole_1 (fun _ => (.cons (.non) (.cons (.non) .nil))) hr1 l_is_whole (b_val (w11 _) b_nil star_Name) q_is_whole star_Name rfl) v_bl rfl) (w_or1 (t_not (t_tru hx (v_call hx tk d__law_told hr1 l__law_told (b_val (v_callD (dvs := [V.non]) hx tk d_is_whole.ok d_is_whole.gm d_is_whole.kp b_is_whole_2 (fun _ => (.cons (.non) .nil)) hr1 l_is_whole (b_val (w11 _) (b_val (w12 _) b_nil star_Name) star_Name) q_is_whole star_Name rfl) (b_val (v_cmp op_ge s_cmp (w11 _) (w12 _) rfl) b_nil star_Compare) star_Call) q__law_told star_Call rfl) (fun _ => rfl))))))
 (by exact ss_one (s_ret v_bl))
 ss_nil) ?_
  refine ss_cons (s_if (PW.pt (w_or (t_not (t_tru hx (v_call hx tk d__law_told hr1 l__law_told (b_val (v_callK1 (fun vs zs => vs ++ ([.non] ++ zs)) (fun vs zs => vs ++ ([V.non] ++ zs)) hx d_is_whole.ok d_is_whole.gm d_is_whole.kp k_is_whole_1_high (fun _ _ _ _ _ r1 r2 => r1.append (Reps.append (.cons .non .nil) r2)) hr1 l_is_whole (w11 _) (w13 _) q_is_whole star_Name) (b_val (v_cmp op_le s_cmp (w11 _) (w13 _) rfl) b_nil star_Compare) star_Call) q__law_told star_Call rfl) (fun _ => rfl))) (w_or1 (t_cmp op_notA s_isnot (v_call hx tk d_is_whole hr1 l_is_whole (b_val (w11 _) (b_val (w11 _) (b_val (w11 _) b_nil star_Name) star_Name) star_Name) q_is_whole star_Name rfl) v_bl rfl))))
 (by exact ss_one (s_ret v_bl))
 ss_nil) ?_
  refine ss_cons (s_if (t_not (t_tru hx (v_call hx tk d__law_told hr1 l__law_told (b_val (v_call hx tk d_is_whole hr1 l_is_whole (b_val (w11 _) (b_val (w12 _) (b_val (w13 _) b_nil star_Name) star_Name) star_Name) q_is_whole star_Name rfl) (b_val (v_chain op_le op_le s_cmpB s_cmp (w12 _) (w11 _) (w13 _) (pe_chain op_le op_le (w12 _) (w11 _) (w13 _))) b_nil star_Compare) star_Call) q__law_told star_Call rfl) (fun _ => rfl)))
 (by exact ss_one (s_ret v_bl))
 ss_nil) ?_
  refine ss_cons (s_if (PW.pt (w_or (t_ne hx hr.units (v_call hx tk d_sum_of hr3 l_sum_of (b_val (w2 _) b_nil star_Name) q_sum_of star_Name rfl) (v_call hx tk d__law_sum hr4 l__law_sum (b_val (w2 _) b_nil star_Name) q__law_sum star_Name rfl) rfl) (w_or1 (t_ne hx hr.units (v_call hx tk d_sum_of hr3 l_sum_of (b_val (v_tupleC hx l_tuple n_tuple (by decide +kernel) (v_cons (v_add hx (w2 _) (w2 _)) v_nil star_BinOp) r_tuple q_tuple star_BinOp rfl) b_nil star_Call) q_sum_of star_Call rfl) (v_call hx tk d__law_sum hr4 l__law_sum (b_val (v_add hx (w2 _) (w2 _)) b_nil star_BinOp) q__law_sum star_BinOp rfl) rfl))))
 (by exact ss_one (s_ret v_bl))
 ss_nil) ?_
  refine ss_cons (s_asg (ps_set (i := 14) sc_law.nd rfl (by first | exact Or.inl rfl | exact Or.inr rfl) (v_call hx tk d_least_of hr2 l_least_of (b_val (w2 _) b_nil star_Name) q_least_of star_Name rfl)) p14) ?_
  refine ss_cons (s_asg (ps_set (i := 15) sc_law.nd rfl (by first | exact Or.inl rfl | exact Or.inr rfl) (v_call hx tk d_greatest_of hr2 l_greatest_of (b_val (v_tupleC hx l_tuple n_tuple (by decide +kernel) (v_cons (w2 _) v_nil star_Name) r_tuple q_tuple star_Name rfl) b_nil star_Call) q_greatest_of star_Call rfl)) p15) ?_
  refine ss_cons (s_if (PW.pt (w_or (t_notin hx (units65 hr) (w14 _) (w2 _) rfl) (w_or1 (t_notin hx (units65 hr) (w15 _) (w2 _) rfl))))
 (by exact ss_one (s_ret v_bl))
 ss_nil) ?_
  exact ss_one (s_ret (v_not hx (v_frz (f_lc (own := [("_law_one", 7)]) (is := [7]) rfl sc_law.nd hx (i_seq hx (w2 _)) (blkOk_by (own := [("_law_one", 7)]) (N := N_law) (sc := defScope st_law) (by decide +kernel)) (fun j hj => hP j (ownNot [7] [false] hj (by decide))) (by decide) (fun s0 H0 C0 cl0 fp0 Γ hx hΓ tk => blkP hΓ hP fun hP => ⟨(g_name (pg_name sc_law.nd rfl (by first | exact Or.inl rfl | exact Or.inr rfl)) (hP 7 (by decide))), (ts_one (PW.pt (w_or (t_tru hx (v_call hx tk d__law_less hr1 (by rfl) (b_val (v_var (pv 7) (hP 7 (by decide))) (b_val (v_var (pv 14) (hP 14 (by decide))) b_nil star_Name) star_Name) q__law_less star_Name rfl) (fun _ => rfl)) (w_or1 (t_tru hx (v_call hx tk d__law_less hr1 (by rfl) (b_val (v_var (pv 15) (hP 15 (by decide))) (b_val (v_var (pv 7) (hP 7 (by decide))) b_nil star_Name) star_Name) q__law_less star_Name rfl) (fun _ => rfl)))))), v_int⟩)))))
end
end K01
end

section
set_option Elab.async false
set_option linter.all false
set_option maxRecDepth 100000
set_option maxHeartbeats 4000000
set_option autoImplicit false
namespace K01
open PySem PySem.Spec PyProof.Rows L2 PL
abbrev st_BadRatio_init : Stmt := inClass (top 3) 0
def dd_is_whole : He.DefD := ⟨("is_whole", none), "is_whole", "is_whole", defArgs st_is_whole, defBody st_is_whole, defScope st_is_whole, [.non, .non], []⟩
def dd_is_ratio : He.DefD := ⟨("is_ratio", none), "is_ratio", "is_ratio", defArgs st_is_ratio, defBody st_is_ratio, defScope st_is_ratio, [], []⟩
def dd_is_within_bound : He.DefD := ⟨("is_within_bound", none), "is_within_bound", "is_within_bound", defArgs st_is_within_bound, defBody st_is_within_bound, defScope st_is_within_bound, [], []⟩
def dd_is_coordinate : He.DefD := ⟨("is_coordinate", none), "is_coordinate", "is_coordinate", defArgs st_is_coordinate, defBody st_is_coordinate, defScope st_is_coordinate, [], []⟩
def dd_is_arm_size : He.DefD := ⟨("is_arm_size", none), "is_arm_size", "is_arm_size", defArgs st_is_arm_size, defBody st_is_arm_size, defScope st_is_arm_size, [], []⟩
def dd_is_weight : He.DefD := ⟨("is_weight", none), "is_weight", "is_weight", defArgs st_is_weight, defBody st_is_weight, defScope st_is_weight, [], []⟩
def dd_is_factor : He.DefD := ⟨("is_factor", none), "is_factor", "is_factor", defArgs st_is_factor, defBody st_is_factor, defScope st_is_factor, [], []⟩
def dd__in_lowest_terms : He.DefD := ⟨("_in_lowest_terms", none), "_in_lowest_terms", "_in_lowest_terms", defArgs st__in_lowest_terms, defBody st__in_lowest_terms, defScope st__in_lowest_terms, [], []⟩
def dd_make_ratio : He.DefD := ⟨("make_ratio", none), "make_ratio", "make_ratio", defArgs st_make_ratio, defBody st_make_ratio, defScope st_make_ratio, [.int 1], []⟩
def dd_plus : He.DefD := ⟨("plus", none), "plus", "plus", defArgs st_plus, defBody st_plus, defScope st_plus, [], []⟩
def dd_minus : He.DefD := ⟨("minus", none), "minus", "minus", defArgs st_minus, defBody st_minus, defScope st_minus, [], []⟩
def dd_times : He.DefD := ⟨("times", none), "times", "times", defArgs st_times, defBody st_times, defScope st_times, [], []⟩
def dd_over : He.DefD := ⟨("over", none), "over", "over", defArgs st_over, defBody st_over, defScope st_over, [], []⟩
def dd_negative : He.DefD := ⟨("negative", none), "negative", "negative", defArgs st_negative, defBody st_negative, defScope st_negative, [], []⟩
def dd_compare : He.DefD := ⟨("compare", none), "compare", "compare", defArgs st_compare, defBody st_compare, defScope st_compare, [], []⟩
def dd_sum_of : He.DefD := ⟨("sum_of", none), "sum_of", "sum_of", defArgs st_sum_of, defBody st_sum_of, defScope st_sum_of, [], []⟩
def dd_least_of : He.DefD := ⟨("least_of", none), "least_of", "least_of", defArgs st_least_of, defBody st_least_of, defScope st_least_of, [], []⟩
def dd_greatest_of : He.DefD := ⟨("greatest_of", none), "greatest_of", "greatest_of", defArgs st_greatest_of, defBody st_greatest_of, defScope st_greatest_of, [], []⟩
def dd_floor_of : He.DefD := ⟨("floor_of", none), "floor_of", "floor_of", defArgs st_floor_of, defBody st_floor_of, defScope st_floor_of, [], []⟩
def dd_ratio_text : He.DefD := ⟨("ratio_text", none), "ratio_text", "ratio_text", defArgs st_ratio_text, defBody st_ratio_text, defScope st_ratio_text, [], []⟩
def dd__law_hand : He.DefD := ⟨("_law_hand", none), "_law_hand", "_law_hand", defArgs st__law_hand, defBody st__law_hand, defScope st__law_hand, [], []⟩
def dd__law_mixed : He.DefD := ⟨("_law_mixed", none), "_law_mixed", "_law_mixed", defArgs st__law_mixed, defBody st__law_mixed, defScope st__law_mixed, [], []⟩
def dd__law_take : He.DefD := ⟨("_law_take", none), "_law_take", "_law_take", defArgs st__law_take, defBody st__law_take, defScope st__law_take, [], []⟩
def dd__law_gcd : He.DefD := ⟨("_law_gcd", none), "_law_gcd", "_law_gcd", defArgs st__law_gcd, defBody st__law_gcd, defScope st__law_gcd, [], []⟩
def dd__law_ratio : He.DefD := ⟨("_law_ratio", none), "_law_ratio", "_law_ratio", defArgs st__law_ratio, defBody st__law_ratio, defScope st__law_ratio, [], []⟩
def dd__law_plus : He.DefD := ⟨("_law_plus", none), "_law_plus", "_law_plus", defArgs st__law_plus, defBody st__law_plus, defScope st__law_plus, [], []⟩
def dd__law_less : He.DefD := ⟨("_law_less", none), "_law_less", "_law_less", defArgs st__law_less, defBody st__law_less, defScope st__law_less, [], []⟩
def dd__law_sum : He.DefD := ⟨("_law_sum", none), "_law_sum", "_law_sum", defArgs st__law_sum, defBody st__law_sum, defScope st__law_sum, [], []⟩
def dd__law_tuples : He.DefD := ⟨("_law_tuples", none), "_law_tuples", "_law_tuples", defArgs st__law_tuples, defBody st__law_tuples, defScope st__law_tuples, [], []⟩
def dd__law_number : He.DefD := ⟨("_law_number", none), "_law_number", "_law_number", defArgs st__law_number, defBody st__law_number, defScope st__law_number, [], []⟩
def dd__law_top : He.DefD := ⟨("_law_top", none), "_law_top", "_law_top", defArgs st__law_top, defBody st__law_top, defScope st__law_top, [], []⟩
def dd__law_try : He.DefD := ⟨("_law_try", none), "_law_try", "_law_try", defArgs st__law_try, defBody st__law_try, defScope st__law_try, [], []⟩
def dd__law_odd : He.DefD := ⟨("_law_odd", none), "_law_odd", "_law_odd", defArgs st__law_odd, defBody st__law_odd, defScope st__law_odd, [], []⟩
def dd__law_pair : He.DefD := ⟨("_law_pair", none), "_law_pair", "_law_pair", defArgs st__law_pair, defBody st__law_pair, defScope st__law_pair, [], []⟩
def dd__law_told : He.DefD := ⟨("_law_told", none), "_law_told", "_law_told", defArgs st__law_told, defBody st__law_told, defScope st__law_told, [], []⟩
def dd__law_bounds : He.DefD := ⟨("_law_bounds", none), "_law_bounds", "_law_bounds", defArgs st__law_bounds, defBody st__law_bounds, defScope st__law_bounds, [], []⟩
def dd_law : He.DefD := ⟨("law", none), "law", "law", defArgs st_law, defBody st_law, defScope st_law, [], []⟩
def dx_BadRatio : He.DefD := ⟨("BadRatio", some "__init__"), "__init__", "BadRatio.__init__", defArgs st_BadRatio_init, defBody st_BadRatio_init, defScope st_BadRatio_init, [], []⟩
def fnl : List He.DefD := [dd_is_whole, dd_is_ratio, dd_is_within_bound, dd_is_coordinate, dd_is_arm_size, dd_is_weight, dd_is_factor, dd__in_lowest_terms, dd_make_ratio, dd_plus, dd_minus, dd_times, dd_over, dd_negative, dd_compare, dd_sum_of, dd_least_of, dd_greatest_of, dd_floor_of, dd_ratio_text, dd__law_hand, dd__law_mixed, dd__law_take, dd__law_gcd, dd__law_ratio, dd__law_plus, dd__law_less, dd__law_sum, dd__law_tuples, dd__law_number, dd__law_top, dd__law_try, dd__law_odd, dd__law_pair, dd__law_told, dd__law_bounds, dd_law, dx_BadRatio]
def exl (K : PySem.W.Frag) : Bool := (exB "BadRatio" ["what"] K) && ((bltB "gcd" "math.gcd" K) && ((He.tupB K "ONE" [.int 1, .int 1]) && ((He.tupB K "ZERO" [.int 0, .int 1]) && (true))))
theorem sx_BadRatio : FnScope ["self", "what"] ["self", "what"] (defScope st_BadRatio_init) := ⟨rfl, rfl, rfl, by decide +kernel, rfl, by decide +kernel, by decide +kernel⟩
theorem okx_BadRatio {P : Program} {w : World} {K : PySem.W.Frag} {mg : Str → Option Value} {base : Heap} {fd : FuncData} (F : FunD K "__init__" "BadRatio.__init__" (defArgs st_BadRatio_init) (defBody st_BadRatio_init) (defScope st_BadRatio_init) [] [] (He.ma K (He.ga K "BadRatio") "__init__") fd) (x : ExF K "BadRatio" ["what"]) :
    FnOk P w K mg base CX0 1 (He.ma K (He.ga K "BadRatio") "__init__") fd ["self", "what"] (spI (He.ga K "BadRatio") ["what"]) := by
  refine F.ok sx_BadRatio (fun vs H Q E h => ?_) (fun cdv A outer s H vs Q E hr h => ⟨_, PSs.nox (X := _) (pss_one (ps_ost (pv 0) (pv 1))), init1 x.T (x.no _ (by decide)) h⟩)
  obtain ⟨a, ws, rfl, hl, _⟩ := h
  show ws.length + 1 = _
  rw [hl] <;> rfl
def fal : List He.Fa := [.glo "law", .free "abs", .free "bool", .free "int", .free "isinstance", .free "len", .free "range", .free "str", .free "tuple", .int "LARGE" (1000000000000000000000000000000000000000000000000000000000000000000000000000000000000000000000000000000000000000000000000000000000000000000000000000000), .glo "ONE", .int "SMALL" (1000000000000), .glo "ZERO", .glo "is_whole", .glo "is_ratio", .glo "is_within_bound", .glo "is_coordinate", .glo "is_arm_size", .glo "is_weight", .glo "is_factor", .glo "_in_lowest_terms", .glo "make_ratio", .glo "plus", .glo "minus", .glo "times", .glo "over", .glo "negative", .glo "compare", .glo "sum_of", .glo "least_of", .glo "greatest_of", .glo "floor_of", .glo "ratio_text", .glo "_law_hand", .glo "_law_mixed", .glo "_law_take", .glo "_law_gcd", .glo "_law_ratio", .glo "_law_plus", .glo "_law_less", .glo "_law_sum", .glo "_law_tuples", .glo "_law_number", .glo "_law_top", .glo "_law_try", .glo "_law_odd", .glo "_law_pair", .glo "_law_told", .glo "_law_bounds", .exm "BadRatio" "BadRatio" true]
theorem facts {P : Program} {w : World} {K : PySem.W.Frag} {h : Heap} {mg : Str → Option Value} (X : K.In h) (G : h.Ns mainGlobals mg) (c : SaysX fal fnl exl K) :
    ∃ fd : FuncData, (∀ (s : Shared) (v : Value), BindsTo s fd ⟨[v], []⟩ [("_law_script", v)]) ∧ ∀ base : Heap, FnOk P w K mg base (L2.CX P w) 7 (He.ga K "law") fd ["_law_script"] (spF K mg [false] F_law) := by
  obtain ⟨cD, cE⟩ := c
  unfold exl at cE
  obtain ⟨x_BadRatio, cE⟩ := Bool.and_eq_true_iff.mp cE
  obtain ⟨x_gcd, cE⟩ := Bool.and_eq_true_iff.mp cE
  obtain ⟨x_ONE, cE⟩ := Bool.and_eq_true_iff.mp cE
  obtain ⟨x_ZERO, cE⟩ := Bool.and_eq_true_iff.mp cE
  obtain ⟨fd_is_whole, D_is_whole⟩ := cD.def_ 0 (d := dd_is_whole) rfl
  obtain ⟨fd_is_ratio, D_is_ratio⟩ := cD.def_ 1 (d := dd_is_ratio) rfl
  obtain ⟨fd_is_within_bound, D_is_within_bound⟩ := cD.def_ 2 (d := dd_is_within_bound) rfl
  obtain ⟨fd_is_coordinate, D_is_coordinate⟩ := cD.def_ 3 (d := dd_is_coordinate) rfl
  obtain ⟨fd_is_arm_size, D_is_arm_size⟩ := cD.def_ 4 (d := dd_is_arm_size) rfl
  obtain ⟨fd_is_weight, D_is_weight⟩ := cD.def_ 5 (d := dd_is_weight) rfl
  obtain ⟨fd_is_factor, D_is_factor⟩ := cD.def_ 6 (d := dd_is_factor) rfl
  obtain ⟨fd__in_lowest_terms, D__in_lowest_terms⟩ := cD.def_ 7 (d := dd__in_lowest_terms) rfl
  obtain ⟨fd_make_ratio, D_make_ratio⟩ := cD.def_ 8 (d := dd_make_ratio) rfl
  obtain ⟨fd_plus, D_plus⟩ := cD.def_ 9 (d := dd_plus) rfl
  obtain ⟨fd_minus, D_minus⟩ := cD.def_ 10 (d := dd_minus) rfl
  obtain ⟨fd_times, D_times⟩ := cD.def_ 11 (d := dd_times) rfl
  obtain ⟨fd_over, D_over⟩ := cD.def_ 12 (d := dd_over) rfl
  obtain ⟨fd_negative, D_negative⟩ := cD.def_ 13 (d := dd_negative) rfl
  obtain ⟨fd_compare, D_compare⟩ := cD.def_ 14 (d := dd_compare) rfl
  obtain ⟨fd_sum_of, D_sum_of⟩ := cD.def_ 15 (d := dd_sum_of) rfl
  obtain ⟨fd_least_of, D_least_of⟩ := cD.def_ 16 (d := dd_least_of) rfl
  obtain ⟨fd_greatest_of, D_greatest_of⟩ := cD.def_ 17 (d := dd_greatest_of) rfl
  obtain ⟨fd_floor_of, D_floor_of⟩ := cD.def_ 18 (d := dd_floor_of) rfl
  obtain ⟨fd_ratio_text, D_ratio_text⟩ := cD.def_ 19 (d := dd_ratio_text) rfl
  obtain ⟨fd__law_hand, D__law_hand⟩ := cD.def_ 20 (d := dd__law_hand) rfl
  obtain ⟨fd__law_mixed, D__law_mixed⟩ := cD.def_ 21 (d := dd__law_mixed) rfl
  obtain ⟨fd__law_take, D__law_take⟩ := cD.def_ 22 (d := dd__law_take) rfl
  obtain ⟨fd__law_gcd, D__law_gcd⟩ := cD.def_ 23 (d := dd__law_gcd) rfl
  obtain ⟨fd__law_ratio, D__law_ratio⟩ := cD.def_ 24 (d := dd__law_ratio) rfl
  obtain ⟨fd__law_plus, D__law_plus⟩ := cD.def_ 25 (d := dd__law_plus) rfl
  obtain ⟨fd__law_less, D__law_less⟩ := cD.def_ 26 (d := dd__law_less) rfl
  obtain ⟨fd__law_sum, D__law_sum⟩ := cD.def_ 27 (d := dd__law_sum) rfl
  obtain ⟨fd__law_tuples, D__law_tuples⟩ := cD.def_ 28 (d := dd__law_tuples) rfl
  obtain ⟨fd__law_number, D__law_number⟩ := cD.def_ 29 (d := dd__law_number) rfl
  obtain ⟨fd__law_top, D__law_top⟩ := cD.def_ 30 (d := dd__law_top) rfl
  obtain ⟨fd__law_try, D__law_try⟩ := cD.def_ 31 (d := dd__law_try) rfl
  obtain ⟨fd__law_odd, D__law_odd⟩ := cD.def_ 32 (d := dd__law_odd) rfl
  obtain ⟨fd__law_pair, D__law_pair⟩ := cD.def_ 33 (d := dd__law_pair) rfl
  obtain ⟨fd__law_told, D__law_told⟩ := cD.def_ 34 (d := dd__law_told) rfl
  obtain ⟨fd__law_bounds, D__law_bounds⟩ := cD.def_ 35 (d := dd__law_bounds) rfl
  obtain ⟨fd_law, D_law⟩ := cD.def_ 36 (d := dd_law) rfl
  obtain ⟨fx_BadRatio, X_BadRatio⟩ := cD.def_ 37 (d := dx_BadRatio) rfl
  have n_abs : mg "abs" = none := He.free_ok X G (cD.fact 1 (f := .free "abs") rfl)
  have n_bool : mg "bool" = none := He.free_ok X G (cD.fact 2 (f := .free "bool") rfl)
  have n_int : mg "int" = none := He.free_ok X G (cD.fact 3 (f := .free "int") rfl)
  have n_isinstance : mg "isinstance" = none := He.free_ok X G (cD.fact 4 (f := .free "isinstance") rfl)
  have n_len : mg "len" = none := He.free_ok X G (cD.fact 5 (f := .free "len") rfl)
  have n_range : mg "range" = none := He.free_ok X G (cD.fact 6 (f := .free "range") rfl)
  have n_str : mg "str" = none := He.free_ok X G (cD.fact 7 (f := .free "str") rfl)
  have n_tuple : mg "tuple" = none := He.free_ok X G (cD.fact 8 (f := .free "tuple") rfl)
  have g_gcd := bltB_ok X G x_gcd
  have c_LARGE := constI X G (cD.fact 9 (f := .int "LARGE" (1000000000000000000000000000000000000000000000000000000000000000000000000000000000000000000000000000000000000000000000000000000000000000000000000000000)) rfl)
  have c_ONE := constT2 X G (cD.fact 10 (f := .glo "ONE") rfl) x_ONE
  have c_SMALL := constI X G (cD.fact 11 (f := .int "SMALL" (1000000000000)) rfl)
  have c_ZERO := constT2 X G (cD.fact 12 (f := .glo "ZERO") rfl) x_ZERO
  have gm_is_whole : mg "is_whole" = some (.ref (He.ga K "is_whole")) := He.glo_ok X G (cD.fact 13 (f := .glo "is_whole") rfl)
  have gm_is_ratio : mg "is_ratio" = some (.ref (He.ga K "is_ratio")) := He.glo_ok X G (cD.fact 14 (f := .glo "is_ratio") rfl)
  have gm_is_within_bound : mg "is_within_bound" = some (.ref (He.ga K "is_within_bound")) := He.glo_ok X G (cD.fact 15 (f := .glo "is_within_bound") rfl)
  have gm_is_coordinate : mg "is_coordinate" = some (.ref (He.ga K "is_coordinate")) := He.glo_ok X G (cD.fact 16 (f := .glo "is_coordinate") rfl)
  have gm_is_arm_size : mg "is_arm_size" = some (.ref (He.ga K "is_arm_size")) := He.glo_ok X G (cD.fact 17 (f := .glo "is_arm_size") rfl)
  have gm_is_weight : mg "is_weight" = some (.ref (He.ga K "is_weight")) := He.glo_ok X G (cD.fact 18 (f := .glo "is_weight") rfl)
  have gm_is_factor : mg "is_factor" = some (.ref (He.ga K "is_factor")) := He.glo_ok X G (cD.fact 19 (f := .glo "is_factor") rfl)
  have gm__in_lowest_terms : mg "_in_lowest_terms" = some (.ref (He.ga K "_in_lowest_terms")) := He.glo_ok X G (cD.fact 20 (f := .glo "_in_lowest_terms") rfl)
  have gm_make_ratio : mg "make_ratio" = some (.ref (He.ga K "make_ratio")) := He.glo_ok X G (cD.fact 21 (f := .glo "make_ratio") rfl)
  have gm_plus : mg "plus" = some (.ref (He.ga K "plus")) := He.glo_ok X G (cD.fact 22 (f := .glo "plus") rfl)
  have gm_minus : mg "minus" = some (.ref (He.ga K "minus")) := He.glo_ok X G (cD.fact 23 (f := .glo "minus") rfl)
  have gm_times : mg "times" = some (.ref (He.ga K "times")) := He.glo_ok X G (cD.fact 24 (f := .glo "times") rfl)
  have gm_over : mg "over" = some (.ref (He.ga K "over")) := He.glo_ok X G (cD.fact 25 (f := .glo "over") rfl)
  have gm_negative : mg "negative" = some (.ref (He.ga K "negative")) := He.glo_ok X G (cD.fact 26 (f := .glo "negative") rfl)
  have gm_compare : mg "compare" = some (.ref (He.ga K "compare")) := He.glo_ok X G (cD.fact 27 (f := .glo "compare") rfl)
  have gm_sum_of : mg "sum_of" = some (.ref (He.ga K "sum_of")) := He.glo_ok X G (cD.fact 28 (f := .glo "sum_of") rfl)
  have gm_least_of : mg "least_of" = some (.ref (He.ga K "least_of")) := He.glo_ok X G (cD.fact 29 (f := .glo "least_of") rfl)
  have gm_greatest_of : mg "greatest_of" = some (.ref (He.ga K "greatest_of")) := He.glo_ok X G (cD.fact 30 (f := .glo "greatest_of") rfl)
  have gm_floor_of : mg "floor_of" = some (.ref (He.ga K "floor_of")) := He.glo_ok X G (cD.fact 31 (f := .glo "floor_of") rfl)
  have gm_ratio_text : mg "ratio_text" = some (.ref (He.ga K "ratio_text")) := He.glo_ok X G (cD.fact 32 (f := .glo "ratio_text") rfl)
  have gm__law_hand : mg "_law_hand" = some (.ref (He.ga K "_law_hand")) := He.glo_ok X G (cD.fact 33 (f := .glo "_law_hand") rfl)
  have gm__law_mixed : mg "_law_mixed" = some (.ref (He.ga K "_law_mixed")) := He.glo_ok X G (cD.fact 34 (f := .glo "_law_mixed") rfl)
  have gm__law_take : mg "_law_take" = some (.ref (He.ga K "_law_take")) := He.glo_ok X G (cD.fact 35 (f := .glo "_law_take") rfl)
  have gm__law_gcd : mg "_law_gcd" = some (.ref (He.ga K "_law_gcd")) := He.glo_ok X G (cD.fact 36 (f := .glo "_law_gcd") rfl)
  have gm__law_ratio : mg "_law_ratio" = some (.ref (He.ga K "_law_ratio")) := He.glo_ok X G (cD.fact 37 (f := .glo "_law_ratio") rfl)
  have gm__law_plus : mg "_law_plus" = some (.ref (He.ga K "_law_plus")) := He.glo_ok X G (cD.fact 38 (f := .glo "_law_plus") rfl)
  have gm__law_less : mg "_law_less" = some (.ref (He.ga K "_law_less")) := He.glo_ok X G (cD.fact 39 (f := .glo "_law_less") rfl)
  have gm__law_sum : mg "_law_sum" = some (.ref (He.ga K "_law_sum")) := He.glo_ok X G (cD.fact 40 (f := .glo "_law_sum") rfl)
  have gm__law_tuples : mg "_law_tuples" = some (.ref (He.ga K "_law_tuples")) := He.glo_ok X G (cD.fact 41 (f := .glo "_law_tuples") rfl)
  have gm__law_number : mg "_law_number" = some (.ref (He.ga K "_law_number")) := He.glo_ok X G (cD.fact 42 (f := .glo "_law_number") rfl)
  have gm__law_top : mg "_law_top" = some (.ref (He.ga K "_law_top")) := He.glo_ok X G (cD.fact 43 (f := .glo "_law_top") rfl)
  have gm__law_try : mg "_law_try" = some (.ref (He.ga K "_law_try")) := He.glo_ok X G (cD.fact 44 (f := .glo "_law_try") rfl)
  have gm__law_odd : mg "_law_odd" = some (.ref (He.ga K "_law_odd")) := He.glo_ok X G (cD.fact 45 (f := .glo "_law_odd") rfl)
  have gm__law_pair : mg "_law_pair" = some (.ref (He.ga K "_law_pair")) := He.glo_ok X G (cD.fact 46 (f := .glo "_law_pair") rfl)
  have gm__law_told : mg "_law_told" = some (.ref (He.ga K "_law_told")) := He.glo_ok X G (cD.fact 47 (f := .glo "_law_told") rfl)
  have gm__law_bounds : mg "_law_bounds" = some (.ref (He.ga K "_law_bounds")) := He.glo_ok X G (cD.fact 48 (f := .glo "_law_bounds") rfl)
  have gm_law : mg "law" = some (.ref (He.ga K "law")) := He.glo_ok X G (cD.fact 0 (f := .glo "law") rfl)
  have bx_BadRatio : Binds K fx_BadRatio ["self", "what"] [] := FunD.bindsN X_BadRatio (fun _ _ _ _ _ _ us hl => match us, hl with | [_, _], _ => rfl)
  have ef_BadRatio := exB_ok x_BadRatio
  have bi_is_whole : Binds K fd_is_whole ["thing", "low", "high"] [] := bindsAll D_is_whole (List.cons_ne_nil _ _) (fun _ _ _ _ _ _ _ us its h1 h2 => match us, its, h1, h2 with | [_, _, _], [_, _], _, _ => ⟨_, rfl, rfl⟩)
  have bi_is_ratio : Binds K fd_is_ratio ["thing"] [] := FunD.bindsN D_is_ratio (fun _ _ _ _ _ _ us hl => match us, hl with | [_], _ => rfl)
  have bi_is_within_bound : Binds K fd_is_within_bound ["thing", "bound"] [] := FunD.bindsN D_is_within_bound (fun _ _ _ _ _ _ us hl => match us, hl with | [_, _], _ => rfl)
  have bi_is_coordinate : Binds K fd_is_coordinate ["thing"] [] := FunD.bindsN D_is_coordinate (fun _ _ _ _ _ _ us hl => match us, hl with | [_], _ => rfl)
  have bi_is_arm_size : Binds K fd_is_arm_size ["thing"] [] := FunD.bindsN D_is_arm_size (fun _ _ _ _ _ _ us hl => match us, hl with | [_], _ => rfl)
  have bi_is_weight : Binds K fd_is_weight ["thing"] [] := FunD.bindsN D_is_weight (fun _ _ _ _ _ _ us hl => match us, hl with | [_], _ => rfl)
  have bi_is_factor : Binds K fd_is_factor ["thing"] [] := FunD.bindsN D_is_factor (fun _ _ _ _ _ _ us hl => match us, hl with | [_], _ => rfl)
  have bi__in_lowest_terms : Binds K fd__in_lowest_terms ["top", "bottom"] [] := FunD.bindsN D__in_lowest_terms (fun _ _ _ _ _ _ us hl => match us, hl with | [_, _], _ => rfl)
  have bi_make_ratio : Binds K fd_make_ratio ["top", "bottom"] [] := bindsAll D_make_ratio (List.cons_ne_nil _ _) (fun _ _ _ _ _ _ _ us its h1 h2 => match us, its, h1, h2 with | [_, _], [_], _, _ => ⟨_, rfl, rfl⟩)
  have bi_plus : Binds K fd_plus ["one", "two"] [] := FunD.bindsN D_plus (fun _ _ _ _ _ _ us hl => match us, hl with | [_, _], _ => rfl)
  have bi_minus : Binds K fd_minus ["one", "two"] [] := FunD.bindsN D_minus (fun _ _ _ _ _ _ us hl => match us, hl with | [_, _], _ => rfl)
  have bi_times : Binds K fd_times ["one", "two"] [] := FunD.bindsN D_times (fun _ _ _ _ _ _ us hl => match us, hl with | [_, _], _ => rfl)
  have bi_over : Binds K fd_over ["one", "two"] [] := FunD.bindsN D_over (fun _ _ _ _ _ _ us hl => match us, hl with | [_, _], _ => rfl)
  have bi_negative : Binds K fd_negative ["one"] [] := FunD.bindsN D_negative (fun _ _ _ _ _ _ us hl => match us, hl with | [_], _ => rfl)
  have bi_compare : Binds K fd_compare ["one", "two"] [] := FunD.bindsN D_compare (fun _ _ _ _ _ _ us hl => match us, hl with | [_, _], _ => rfl)
  have bi_sum_of : Binds K fd_sum_of ["ratios"] [] := FunD.bindsN D_sum_of (fun _ _ _ _ _ _ us hl => match us, hl with | [_], _ => rfl)
  have bi_least_of : Binds K fd_least_of ["ratios"] [] := FunD.bindsN D_least_of (fun _ _ _ _ _ _ us hl => match us, hl with | [_], _ => rfl)
  have bi_greatest_of : Binds K fd_greatest_of ["ratios"] [] := FunD.bindsN D_greatest_of (fun _ _ _ _ _ _ us hl => match us, hl with | [_], _ => rfl)
  have bi_floor_of : Binds K fd_floor_of ["one"] [] := FunD.bindsN D_floor_of (fun _ _ _ _ _ _ us hl => match us, hl with | [_], _ => rfl)
  have bi_ratio_text : Binds K fd_ratio_text ["one"] [] := FunD.bindsN D_ratio_text (fun _ _ _ _ _ _ us hl => match us, hl with | [_], _ => rfl)
  have bi__law_hand : Binds K fd__law_hand ["_law_script"] [] := FunD.bindsN D__law_hand (fun _ _ _ _ _ _ us hl => match us, hl with | [_], _ => rfl)
  have bi__law_mixed : Binds K fd__law_mixed ["_law_number_here", "_law_turn"] [] := FunD.bindsN D__law_mixed (fun _ _ _ _ _ _ us hl => match us, hl with | [_, _], _ => rfl)
  have bi__law_take : Binds K fd__law_take ["_law_hand_here", "_law_many"] [] := FunD.bindsN D__law_take (fun _ _ _ _ _ _ us hl => match us, hl with | [_, _], _ => rfl)
  have bi__law_gcd : Binds K fd__law_gcd ["_law_one", "_law_other"] [] := FunD.bindsN D__law_gcd (fun _ _ _ _ _ _ us hl => match us, hl with | [_, _], _ => rfl)
  have bi__law_ratio : Binds K fd__law_ratio ["_law_top_here", "_law_bottom"] [] := FunD.bindsN D__law_ratio (fun _ _ _ _ _ _ us hl => match us, hl with | [_, _], _ => rfl)
  have bi__law_plus : Binds K fd__law_plus ["_law_one", "_law_other"] [] := FunD.bindsN D__law_plus (fun _ _ _ _ _ _ us hl => match us, hl with | [_, _], _ => rfl)
  have bi__law_less : Binds K fd__law_less ["_law_one", "_law_other"] [] := FunD.bindsN D__law_less (fun _ _ _ _ _ _ us hl => match us, hl with | [_, _], _ => rfl)
  have bi__law_sum : Binds K fd__law_sum ["_law_rows"] [] := FunD.bindsN D__law_sum (fun _ _ _ _ _ _ us hl => match us, hl with | [_], _ => rfl)
  have bi__law_tuples : Binds K fd__law_tuples ["_law_thing"] [] := FunD.bindsN D__law_tuples (fun _ _ _ _ _ _ us hl => match us, hl with | [_], _ => rfl)
  have bi__law_number : Binds K fd__law_number ["_law_hand_here"] [] := FunD.bindsN D__law_number (fun _ _ _ _ _ _ us hl => match us, hl with | [_], _ => rfl)
  have bi__law_top : Binds K fd__law_top [] [] := FunD.bindsN D__law_top (fun _ _ _ _ _ _ us hl => match us, hl with | [], _ => rfl)
  have bi__law_try : Binds K fd__law_try ["_law_top_here", "_law_bottom"] [] := FunD.bindsN D__law_try (fun _ _ _ _ _ _ us hl => match us, hl with | [_, _], _ => rfl)
  have bi__law_odd : Binds K fd__law_odd ["_law_hand_here", "_law_one"] [] := FunD.bindsN D__law_odd (fun _ _ _ _ _ _ us hl => match us, hl with | [_, _], _ => rfl)
  have bi__law_pair : Binds K fd__law_pair ["_law_one", "_law_two"] [] := FunD.bindsN D__law_pair (fun _ _ _ _ _ _ us hl => match us, hl with | [_, _], _ => rfl)
  have bi__law_told : Binds K fd__law_told ["_law_told_here", "_law_due"] [] := FunD.bindsN D__law_told (fun _ _ _ _ _ _ us hl => match us, hl with | [_, _], _ => rfl)
  have bi__law_bounds : Binds K fd__law_bounds ["_law_one"] [] := FunD.bindsN D__law_bounds (fun _ _ _ _ _ _ us hl => match us, hl with | [_], _ => rfl)
  have bi_law : Binds K fd_law ["_law_script"] [] := FunD.bindsN D_law (fun _ _ _ _ _ _ us hl => match us, hl with | [_], _ => rfl)
  refine ⟨fd_law, fun s v => FunD.bindsA (ps := ["_law_script"]) D_law (fun _ _ _ _ _ _ us hl => match us, hl with | [_], _ => rfl) s [v] rfl, fun base => ?_⟩
  let e_BadRatio : ExcCl P w K mg base "BadRatio" ["what"] := ⟨_, _, _, _, ef_BadRatio.T, ef_BadRatio.iC, ef_BadRatio.tI, okx_BadRatio X_BadRatio ef_BadRatio, bx_BadRatio, PySem.W.mg_of X G ef_BadRatio.gC, ef_BadRatio.xf, ef_BadRatio.no⟩
  have m_BadRatio : PySem.W.exmOne K (.ref e_BadRatio.C) (.ref e_BadRatio.C) = some true := He.exm_ok (cD.fact 49 (f := .exm "BadRatio" "BadRatio" true) rfl)
  let d_is_whole : Def P w K mg base 1 "is_whole" ["thing", "low", "high"] [false, false, false] F_is_whole := ⟨_, _, ok_is_whole D_is_whole n_int n_isinstance n_bool, gm_is_whole, D_is_whole.kp, bi_is_whole⟩
  have b_is_whole_1 : ∃ ds, Vals [V.non, V.non] ds ∧ Binds K d_is_whole.fd ["thing", "low", "high"] ds := FunD.binds1 D_is_whole 1 0 (List.cons_ne_nil _ _) rfl (fun _ _ _ _ _ _ _ us its h1 h2 => match us, its, h1, h2 with | [_], [_, _], _, _ => ⟨_, rfl, rfl⟩)
  have b_is_whole_2 : ∃ ds, Vals [V.non] ds ∧ Binds K d_is_whole.fd ["thing", "low", "high"] ds := FunD.binds1 D_is_whole 2 1 (List.cons_ne_nil _ _) rfl (fun _ _ _ _ _ _ _ us its h1 h2 => match us, its, h1, h2 with | [_, _], [_, _], _, _ => ⟨_, rfl, rfl⟩)
  have k_is_whole_1_high : ∃ g, KBn K d_is_whole.fd ["thing", "low", "high"] 1 ["high"] g (fun vs zs => vs ++ ([V.non] ++ zs)) := kb1 D_is_whole 1 0 1 ["high"] (List.cons_ne_nil _ _) (fun _ _ _ _ _ _ _ us its ws h1 h2 h3 => match us, its, ws, h1, h2, h3 with | [_], [_, _], [_], _, _, _ => ⟨_, rfl, rfl⟩)
  let d_is_ratio : Def P w K mg base 2 "is_ratio" ["thing"] [false] F_is_ratio := ⟨_, _, ok_is_ratio D_is_ratio n_tuple n_isinstance n_len d_is_whole b_is_whole_1 b_is_whole_2 g_gcd, gm_is_ratio, D_is_ratio.kp, bi_is_ratio⟩
  let d_is_within_bound : Def P w K mg base 3 "is_within_bound" ["thing", "bound"] [false, false] F_is_within_bound := ⟨_, _, ok_is_within_bound D_is_within_bound d_is_ratio n_abs, gm_is_within_bound, D_is_within_bound.kp, bi_is_within_bound⟩
  let d_is_coordinate : Def P w K mg base 4 "is_coordinate" ["thing"] [false] F_is_coordinate := ⟨_, _, ok_is_coordinate D_is_coordinate d_is_within_bound c_SMALL, gm_is_coordinate, D_is_coordinate.kp, bi_is_coordinate⟩
  let d_is_arm_size : Def P w K mg base 5 "is_arm_size" ["thing"] [false] F_is_arm_size := ⟨_, _, ok_is_arm_size D_is_arm_size d_is_coordinate, gm_is_arm_size, D_is_arm_size.kp, bi_is_arm_size⟩
  let d_is_weight : Def P w K mg base 5 "is_weight" ["thing"] [false] F_is_weight := ⟨_, _, ok_is_weight D_is_weight d_is_coordinate, gm_is_weight, D_is_weight.kp, bi_is_weight⟩
  let d_is_factor : Def P w K mg base 4 "is_factor" ["thing"] [false] F_is_factor := ⟨_, _, ok_is_factor D_is_factor d_is_within_bound c_LARGE, gm_is_factor, D_is_factor.kp, bi_is_factor⟩
  let d__in_lowest_terms : Def P w K mg base 1 "_in_lowest_terms" ["top", "bottom"] [false, false] F__in_lowest_terms := ⟨_, _, ok__in_lowest_terms D__in_lowest_terms g_gcd, gm__in_lowest_terms, D__in_lowest_terms.kp, bi__in_lowest_terms⟩
  let d_make_ratio : Def P w K mg base 3 "make_ratio" ["top", "bottom"] [false, false] F_make_ratio := ⟨_, _, ok_make_ratio D_make_ratio d_is_whole b_is_whole_1 e_BadRatio d__in_lowest_terms, gm_make_ratio, D_make_ratio.kp, bi_make_ratio⟩
  have b_make_ratio_1 : ∃ ds, Vals [V.int 1] ds ∧ Binds K d_make_ratio.fd ["top", "bottom"] ds := FunD.binds1 D_make_ratio 1 0 (List.cons_ne_nil _ _) rfl (fun _ _ _ _ _ _ _ us its h1 h2 => match us, its, h1, h2 with | [_], [_], _, _ => ⟨_, rfl, rfl⟩)
  let d_plus : Def P w K mg base 2 "plus" ["one", "two"] [false, false] F_plus := ⟨_, _, ok_plus D_plus d__in_lowest_terms, gm_plus, D_plus.kp, bi_plus⟩
  let d_minus : Def P w K mg base 2 "minus" ["one", "two"] [false, false] F_minus := ⟨_, _, ok_minus D_minus d__in_lowest_terms, gm_minus, D_minus.kp, bi_minus⟩
  let d_times : Def P w K mg base 2 "times" ["one", "two"] [false, false] F_times := ⟨_, _, ok_times D_times d__in_lowest_terms, gm_times, D_times.kp, bi_times⟩
  let d_over : Def P w K mg base 3 "over" ["one", "two"] [false, false] F_over := ⟨_, _, ok_over D_over e_BadRatio d__in_lowest_terms, gm_over, D_over.kp, bi_over⟩
  let d_negative : Def P w K mg base 1 "negative" ["one"] [false] F_negative := ⟨_, _, ok_negative D_negative , gm_negative, D_negative.kp, bi_negative⟩
  let d_compare : Def P w K mg base 1 "compare" ["one", "two"] [false, false] F_compare := ⟨_, _, ok_compare D_compare , gm_compare, D_compare.kp, bi_compare⟩
  let d_sum_of : Def P w K mg base 3 "sum_of" ["ratios"] [false] F_sum_of := ⟨_, _, ok_sum_of D_sum_of c_ZERO d_plus, gm_sum_of, D_sum_of.kp, bi_sum_of⟩
  let d_least_of : Def P w K mg base 2 "least_of" ["ratios"] [false] F_least_of := ⟨_, _, ok_least_of D_least_of d_compare, gm_least_of, D_least_of.kp, bi_least_of⟩
  let d_greatest_of : Def P w K mg base 2 "greatest_of" ["ratios"] [false] F_greatest_of := ⟨_, _, ok_greatest_of D_greatest_of d_compare, gm_greatest_of, D_greatest_of.kp, bi_greatest_of⟩
  let d_floor_of : Def P w K mg base 1 "floor_of" ["one"] [false] F_floor_of := ⟨_, _, ok_floor_of D_floor_of , gm_floor_of, D_floor_of.kp, bi_floor_of⟩
  let d_ratio_text : Def P w K mg base 1 "ratio_text" ["one"] [false] F_ratio_text := ⟨_, _, ok_ratio_text D_ratio_text , gm_ratio_text, D_ratio_text.kp, bi_ratio_text⟩
  let d__law_hand : Def P w K mg base 1 "_law_hand" ["_law_script"] [false] F__law_hand := ⟨_, _, ok__law_hand D__law_hand n_len n_int n_abs, gm__law_hand, D__law_hand.kp, bi__law_hand⟩
  let d__law_mixed : Def P w K mg base 1 "_law_mixed" ["_law_number_here", "_law_turn"] [false, false] F__law_mixed := ⟨_, _, ok__law_mixed D__law_mixed n_int, gm__law_mixed, D__law_mixed.kp, bi__law_mixed⟩
  let d__law_take : Def P w K mg base 2 "_law_take" ["_law_hand_here", "_law_many"] [true, false] F__law_take := ⟨_, _, ok__law_take D__law_take n_len d__law_mixed n_int, gm__law_take, D__law_take.kp, bi__law_take⟩
  let d__law_gcd : Def P w K mg base 1 "_law_gcd" ["_law_one", "_law_other"] [false, false] F__law_gcd := ⟨_, _, ok__law_gcd D__law_gcd n_abs n_int, gm__law_gcd, D__law_gcd.kp, bi__law_gcd⟩
  let d__law_ratio : Def P w K mg base 2 "_law_ratio" ["_law_top_here", "_law_bottom"] [false, false] F__law_ratio := ⟨_, _, ok__law_ratio D__law_ratio d__law_gcd, gm__law_ratio, D__law_ratio.kp, bi__law_ratio⟩
  let d__law_plus : Def P w K mg base 3 "_law_plus" ["_law_one", "_law_other"] [false, false] F__law_plus := ⟨_, _, ok__law_plus D__law_plus d__law_ratio, gm__law_plus, D__law_plus.kp, bi__law_plus⟩
  let d__law_less : Def P w K mg base 1 "_law_less" ["_law_one", "_law_other"] [false, false] F__law_less := ⟨_, _, ok__law_less D__law_less , gm__law_less, D__law_less.kp, bi__law_less⟩
  let d__law_sum : Def P w K mg base 4 "_law_sum" ["_law_rows"] [false] F__law_sum := ⟨_, _, ok__law_sum D__law_sum d__law_plus, gm__law_sum, D__law_sum.kp, bi__law_sum⟩
  let d__law_tuples : Def P w K mg base 5 "_law_tuples" ["_law_thing"] [false] F__law_tuples := ⟨_, _, ok__law_tuples D__law_tuples gm__law_tuples bi__law_tuples n_tuple n_isinstance n_int n_bool 4, gm__law_tuples, D__law_tuples.kp, bi__law_tuples⟩
  let d__law_number : Def P w K mg base 3 "_law_number" ["_law_hand_here"] [true] F__law_number := ⟨_, _, ok__law_number D__law_number d__law_take n_range, gm__law_number, D__law_number.kp, bi__law_number⟩
  let d__law_top : Def P w K mg base 1 "_law_top" [] [] F__law_top := ⟨_, _, ok__law_top D__law_top , gm__law_top, D__law_top.kp, bi__law_top⟩
  let d__law_try : Def P w K mg base 4 "_law_try" ["_law_top_here", "_law_bottom"] [false, false] F__law_try := ⟨_, _, ok__law_try D__law_try d_make_ratio e_BadRatio m_BadRatio, gm__law_try, D__law_try.kp, bi__law_try⟩
  let d__law_odd : Def P w K mg base 3 "_law_odd" ["_law_hand_here", "_law_one"] [true, false] F__law_odd := ⟨_, _, ok__law_odd D__law_odd d__law_take, gm__law_odd, D__law_odd.kp, bi__law_odd⟩
  let d__law_pair : Def P w K mg base 4 "_law_pair" ["_law_one", "_law_two"] [false, false] F__law_pair := ⟨_, _, ok__law_pair D__law_pair d_plus d__law_ratio d_minus d_times d_negative d_over e_BadRatio m_BadRatio d_compare n_bool n_isinstance d_floor_of n_int d_ratio_text n_str, gm__law_pair, D__law_pair.kp, bi__law_pair⟩
  let d__law_told : Def P w K mg base 1 "_law_told" ["_law_told_here", "_law_due"] [false, false] F__law_told := ⟨_, _, ok__law_told D__law_told , gm__law_told, D__law_told.kp, bi__law_told⟩
  let d__law_bounds : Def P w K mg base 6 "_law_bounds" ["_law_one"] [false] F__law_bounds := ⟨_, _, ok__law_bounds D__law_bounds n_abs d__law_told d_is_arm_size d_is_weight d__law_top d_is_factor, gm__law_bounds, D__law_bounds.kp, bi__law_bounds⟩
  let d_law : Def P w K mg base 7 "law" ["_law_script"] [false] F_law := ⟨_, _, ok_law D_law d__law_hand c_ZERO c_ONE d_sum_of n_range d__law_number d__law_ratio d__law_try d_make_ratio b_make_ratio_1 d_is_ratio d__law_odd d__law_bounds d__law_tuples d_plus d__law_pair d__law_top d__law_take d__law_told d_is_arm_size d_is_whole b_is_whole_1 b_is_whole_2 k_is_whole_1_high d__law_sum n_tuple d_least_of d_greatest_of d__law_less, gm_law, D_law.kp, bi_law⟩
  exact d_law.ok
def loose0 : List Str := ["gcd", "ScaleError", "BadRatio", "ZERO", "ONE", "SMALL", "LARGE", "is_whole", "is_ratio", "is_within_bound", "is_coordinate", "is_arm_size", "is_weight", "is_factor", "make_ratio", "_in_lowest_terms", "plus", "minus", "times", "over"]
def loose1 : List Str := ["negative", "compare", "sum_of", "least_of", "greatest_of", "floor_of", "ratio_text", "_law_hand", "_law_mixed", "_law_take", "_law_gcd", "_law_ratio", "_law_plus", "_law_less", "_law_sum", "_law_tuples", "_law_number", "_law_top", "_law_try", "_law_odd"]
def loose2 : List Str := ["_law_pair", "_law_told", "_law_bounds"]
def looseA : List Str := loose0 ++ loose1 ++ loose2
abbrev rowR : PySem.W.OpenRow := PySem.W.OpenLaw.row PySem.Challenge.rw_wherelaid_k01_whole_ratios_and_their_bou
abbrev hk : PySem.W.Hook := hookX 5 fal fnl exl
def ob (s : PySem.W.SharedT) : He.AlD × Bool := obsX 5 fal fnl exl (HandSHeadRun.getT s)
theorem ob_eq (s : PySem.W.SharedT) : ob s = hk.obs s.abs := obsX_eq (HandSHeadRun.getT_eq s)
theorem run (w : World) : HandSHeadRun.RunEqI rowR (PySem.W.view rowR.prog [0, 46]) hk ob 20000 looseA w := by
  unfold HandSHeadRun.RunEqI
  kernel_rfl
end K01
end

section
set_option Elab.async false
set_option linter.all false
set_option maxRecDepth 100000
set_option maxHeartbeats 4000000
set_option autoImplicit false
namespace PL
open PySem PySem.Spec PyProof.Rows L2
/-! evaluation, step by step -/
theorem ev_ok {α β : Type} (a : α) (ρ : PEnv) (k : α → PEnv → ERes β) : (ERes.ok a ρ).bind k = k a ρ := rfl
theorem ev_exc {α β : Type} (c : Str) (fs : List (Str × PV)) (ρ : PEnv) (k : α → PEnv → ERes β) : (ERes.exc c fs ρ).bind k = .exc c fs ρ := rfl
theorem ev_bad {α β : Type} (k : α → PEnv → ERes β) : (ERes.bad).bind k = .bad := rfl
theorem ev_okS {α : Type} (a : α) (ρ : PEnv) (k : α → PEnv → SRes) : (ERes.ok a ρ).bindS k = k a ρ := rfl
theorem ev_excS {α : Type} (c : Str) (fs : List (Str × PV)) (ρ : PEnv) (k : α → PEnv → SRes) : (ERes.exc c fs ρ).bindS k = .exc c fs ρ := rfl
theorem ev_badS {α : Type} (k : α → PEnv → SRes) : (ERes.bad).bindS k = .bad := rfl
theorem ev_cg {α β : Type} {r r' : ERes α} (k : α → PEnv → ERes β) (h : r = r') : r.bind k = r'.bind k := by rw [h]
theorem ev_cgS {α : Type} {r r' : ERes α} (k : α → PEnv → SRes) (h : r = r') : r.bindS k = r'.bindS k := by rw [h]
def goV (s : Option Slot) (i : Nat) (ρ : PEnv) : ERes PV := match s with
  | some (.v p) => .ok p ρ
  | some (.own p) => .ok p (ρ.set i (.v p))
  | _ => .bad
theorem ev_var (i : Nat) (ρ : PEnv) : eVar i ρ = goV ρ[i]? i ρ := rfl
theorem ev_v (p : PV) (i : Nat) (ρ : PEnv) : goV (some (.v p)) i ρ = .ok p ρ := rfl
theorem ev_c (p : PV) (ρ : PEnv) : eC p ρ = .ok p ρ := rfl
theorem ev_op (g : PV → PV → Option PV) (fa fb : EF) (ρ : PEnv) : eOp g fa fb ρ = (fa ρ).bind fun p ρ1 => (fb ρ1).bind fun q ρ2 => oRes (g p q) ρ2 := rfl
theorem ev_un (g : PV → Option PV) (fa : EF) (ρ : PEnv) : eUn g fa ρ = (fa ρ).bind fun p ρ1 => oRes (g p) ρ1 := rfl
theorem ev_some (z : PV) (ρ : PEnv) : oRes (some z) ρ = .ok z ρ := rfl
def goC (o : Option PV) (fc : EF) (g' : PV → PV → Option PV) (q : PV) (ρ2 : PEnv) : ERes PV := match o with
  | some (.bl true) => (fc ρ2).bind fun r ρ3 => oRes (g' q r) ρ3
  | some (.bl false) => .ok (.bl false) ρ2
  | _ => .bad
theorem goC_cg {o o' : Option PV} (fc : EF) (g' : PV → PV → Option PV) (q : PV) (ρ2 : PEnv) (h : o = o') : goC o fc g' q ρ2 = goC o' fc g' q ρ2 := by rw [h]
theorem ev_ct (fc : EF) (g' : PV → PV → Option PV) (q : PV) (ρ2 : PEnv) : goC (some (.bl true)) fc g' q ρ2 = (fc ρ2).bind fun r ρ3 => oRes (g' q r) ρ3 := rfl
theorem ev_cf (fc : EF) (g' : PV → PV → Option PV) (q : PV) (ρ2 : PEnv) : goC (some (.bl false)) fc g' q ρ2 = .ok (.bl false) ρ2 := rfl
theorem ev_chain (g g' : PV → PV → Option PV) (fa fb fc : EF) (ρ : PEnv) : eChain g g' fa fb fc ρ = (fa ρ).bind fun p ρ1 => (fb ρ1).bind fun q ρ2 => goC (g p q) fc g' q ρ2 := rfl
theorem ev_nil (ρ : PEnv) : aNil ρ = .ok [] ρ := rfl
theorem ev_cons (fa : EF) (fr : AF) (ρ : PEnv) : aCons fa fr ρ = (fa ρ).bind fun p ρ1 => (fr ρ1).bind fun ps ρ2 => .ok (p :: ps) ρ2 := rfl
theorem ev_tup (fa : AF) (ρ : PEnv) : eTup fa ρ = (fa ρ).bind fun ps ρ1 => if decide (ps.length ≤ 100000) = true then .ok (.tup ps) ρ1 else .bad := rfl
theorem ev_lst (fa : AF) (ρ : PEnv) : eLst fa ρ = (fa ρ).bind fun ps ρ1 => if decide (ps.length ≤ 100000) = true then .ok (.lst ps) ρ1 else .bad := rfl
theorem ev_tru (f : EF) (ρ : PEnv) : tTru f ρ = (f ρ).bind fun p ρ1 => tRes (pTru p) ρ1 := rfl
theorem ev_tsome (b : Bool) (ρ : PEnv) : tRes (some b) ρ = .ok b ρ := rfl
theorem ev_bl (f : EF) (ρ : PEnv) : tBl f ρ = (f ρ).bind fun p ρ1 => match p with
  | .bl b => .ok b ρ1
  | _ => .bad := rfl
theorem ev_no (f : TF) (ρ : PEnv) : tNo f ρ = (f ρ).bind fun b ρ1 => .ok (!b) ρ1 := rfl
def goB {α : Type} (b : Bool) (x y : α) : α := if b = true then x else y
theorem goB_cg {α : Type} {b b' : Bool} (x y : α) (h : b = b') : goB b x y = goB b' x y := by rw [h]
theorem goB_t {α : Type} (x y : α) : goB true x y = x := rfl
theorem goB_f {α : Type} (x y : α) : goB false x y = y := rfl
theorem ev_an (f g : TF) (ρ : PEnv) : tAn f g ρ = (f ρ).bind fun b ρ1 => goB b (g ρ1) (.ok false ρ1) := rfl
theorem ev_oo (f g : TF) (ρ : PEnv) : tOo f g ρ = (f ρ).bind fun b ρ1 => goB b (.ok true ρ1) (g ρ1) := rfl
def goT (o : Option Bool) (x y : ERes PV) : ERes PV := match o with
  | some true => x
  | some false => y
  | none => .bad
theorem goT_cg {b b' : Option Bool} (x y : ERes PV) (h : b = b') : goT b x y = goT b' x y := by rw [h]
theorem goT_s (b : Bool) (x y : ERes PV) : goT (some b) x y = goB b x y := by cases b <;> rfl
theorem ev_and (fa fb : EF) (ρ : PEnv) : eAnd fa fb ρ = (fa ρ).bind fun p ρ1 => goT (pTru p) (fb ρ1) (.ok p ρ1) := rfl
theorem ev_or (fa fb : EF) (ρ : PEnv) : eOr fa fb ρ = (fa ρ).bind fun p ρ1 => goT (pTru p) (.ok p ρ1) (fb ρ1) := rfl
theorem ev_not (f : EF) (ρ : PEnv) : eNot f ρ = (f ρ).bind fun p ρ1 => match pTru p with
  | some k => .ok (.bl (!k)) ρ1
  | none => .bad := rfl
theorem ev_if (t : TF) (fa fb : EF) (ρ : PEnv) : eIf t fa fb ρ = (t ρ).bind fun b ρ1 => goB b (fa ρ1) (fb ρ1) := rfl
theorem ev_call (g : List PV → Option PV) (fa : AF) (ρ : PEnv) : eCall g fa ρ = (fa ρ).bind fun ps ρ1 => oRes (g ps) ρ1 := rfl
theorem ev_fmt (fa : EF) (ρ : PEnv) : eFmt fa ρ = (fa ρ).bind fun p ρ1 => oRes (pFmt p) ρ1 := rfl
theorem ev_asg (i : Nat) (f : EF) (ρ : PEnv) : sAsg i f ρ = (f ρ).bindS fun p ρ1 => .nx (ρ1.set i (.v p)) := rfl
theorem ev_asgO (i : Nat) (f : EF) (ρ : PEnv) : sAsgO i f ρ = (f ρ).bindS fun p ρ1 => .nx (ρ1.set i (.own p)) := rfl
theorem ev_asgG (g : GF) (f : EF) (ρ : PEnv) : sAsgG g f ρ = (f ρ).bindS fun p ρ1 => match g p ρ1 with
  | some ρ2 => .nx ρ2
  | none => .bad := rfl
theorem ev_gN (i : Nat) (p : PV) (ρ : PEnv) : gN i p ρ = some (ρ.set i (.v p)) := rfl
theorem ev_gsN (ρ : PEnv) : gsN [] ρ = some ρ := rfl
theorem ev_gsC (g : GF) (gs : GsF) (p : PV) (r : List PV) (ρ : PEnv) : gsC g gs (p :: r) ρ = match g p ρ with
    | some ρ' => gs r ρ'
    | none => none := rfl
theorem ev_gTp (n : Nat) (gs : GsF) (xs : List PV) (ρ : PEnv) : gTp n gs (.tup xs) ρ = goB (decide (xs.length = n)) (gs xs ρ) none := rfl
theorem ev_par (i j : Nat) (fa : AF) (ρ : PEnv) : sPar i j fa ρ = (fa ρ).bindS fun ps ρ1 => match ps with
  | [p, q] => .nx ((ρ1.set i (.v p)).set j (.v q))
  | _ => .bad := rfl
theorem ev_drop (f : EF) (ρ : PEnv) : sDrop f ρ = (f ρ).bindS fun _ ρ1 => .nx ρ1 := rfl
theorem ev_ret (f : EF) (ρ : PEnv) : sRet f ρ = (f ρ).bindS fun p ρ1 => .rt p ρ1 := rfl
theorem ev_retO (f : EF) (ρ : PEnv) : sRetO f ρ = (f ρ).bindS fun p ρ1 => .ro p ρ1 := rfl
theorem ev_pass (ρ : PEnv) : sPass ρ = .nx ρ := rfl
def goS (r : SRes) (g : SF) : SRes := match r with
  | .nx ρ1 => g ρ1
  | r => r
theorem goS_cg {r r' : SRes} (g : SF) (h : r = r') : goS r g = goS r' g := by rw [h]
theorem ev_seq (f g : SF) (ρ : PEnv) : sSeq f g ρ = goS (f ρ) g := rfl
theorem goS_nx (ρ : PEnv) (g : SF) : goS (.nx ρ) g = g ρ := rfl
theorem goS_rt (p : PV) (ρ : PEnv) (g : SF) : goS (.rt p ρ) g = .rt p ρ := rfl
theorem goS_ro (p : PV) (ρ : PEnv) (g : SF) : goS (.ro p ρ) g = .ro p ρ := rfl
theorem goS_exc (c : Str) (fs : List (Str × PV)) (ρ : PEnv) (g : SF) : goS (.exc c fs ρ) g = .exc c fs ρ := rfl
theorem goS_bk (ρ : PEnv) (g : SF) : goS (.bk ρ) g = .bk ρ := rfl
theorem goS_ct (ρ : PEnv) (g : SF) : goS (.ct ρ) g = .ct ρ := rfl
theorem ev_sif (t : TF) (f g : SF) (ρ : PEnv) : sIf t f g ρ = (t ρ).bindS fun b ρ1 => goB b (f ρ1) (g ρ1) := rfl
theorem ev_raise (c : Str) (ns : List Str) (fa : AF) (ρ : PEnv) : sRaise c ns fa ρ = (fa ρ).bindS fun ps ρ1 => if decide (ps.length = ns.length ∧ ns.length ≤ 100) = true then .exc c ((ns.zip ps).reverse) ρ1 else .bad := rfl
theorem ev_xf (fs : List (Str × PV)) (f : Str) (ρ : PEnv) : eXf fs f ρ = oRes (fs.lookup f) ρ := rfl
theorem ev_for (fi : IF) (g : GF) (body : SF) (ρ : PEnv) : sFor fi g body ρ = (fi ρ).bindS fun ps ρ1 => forL g body ps ρ1 := rfl
theorem ev_while (fuel : PEnv → Nat) (t : TF) (body : SF) (ρ : PEnv) : sWhile fuel t body ρ = whileL t body (fuel ρ) ρ := rfl
theorem ev_iseq (f : EF) (ρ : PEnv) : iSeq f ρ = (f ρ).bind fun p ρ1 => match p with
  | .lst xs => .ok xs ρ1
  | .tup xs => .ok xs ρ1
  | .scr xs => .ok xs ρ1
  | _ => .bad := rfl
theorem ev_iarg (g : List PV → Option (List PV)) (fa : AF) (ρ : PEnv) : iArg g fa ρ = (fa ρ).bind fun ps ρ1 => lRes (g ps) ρ1 := rfl
theorem ev_lsome (z : List PV) (ρ : PEnv) : lRes (some z) ρ = .ok z ρ := rfl
theorem ev_callF (ms : List Bool) (F : FF) (fa : AF2) (ρ : PEnv) : eCallF ms F fa ρ = (fa ρ).bind fun as ρ1 => callE ms F as ρ1 := rfl
theorem ev_callD (ms : List Bool) (F : FF) (dps : List PV) (fa : AF2) (ρ : PEnv) : eCallD ms F dps fa ρ = (fa ρ).bind fun as ρ1 => callE ms F (as ++ dps.map AV.val) ρ1 := rfl
theorem ev_call0 (ms : List Bool) (F : FF) (dps : List PV) (ρ : PEnv) : eCall0 ms F dps ρ = callE ms F (dps.map AV.val) ρ := rfl
theorem ev_callO (ms : List Bool) (F : FF) (fa : AF2) (ρ : PEnv) : eCallO ms F fa ρ = (fa ρ).bind fun as ρ1 => callO ms F as ρ1 := rfl
theorem ev_bnil (ρ : PEnv) : bNil ρ = .ok [] ρ := rfl
theorem ev_bval (fa : EF) (fr : AF2) (ρ : PEnv) : bVal fa fr ρ = (fa ρ).bind fun p ρ1 => (fr ρ1).bind fun as ρ2 => .ok (AV.val p :: as) ρ2 := rfl
theorem ev_bown (i : Nat) (fr : AF2) (ρ : PEnv) : bOwn i fr ρ = match ρ[i]? with
  | some (.own _) => (fr ρ).bind fun as ρ2 => .ok (AV.own i :: as) ρ2
  | _ => .bad := rfl
def goF (r : FRes) (as : List AV) (ρ : PEnv) : ERes PV := match r with
    | .ret p os => match putO as os ρ with
      | some ρ' => .ok p ρ'
      | none => .bad
    | .exc c fs os => match putO as os ρ with
      | some ρ' => .exc c fs ρ'
      | none => .bad
    | _ => .bad
theorem goF_cg {r r' : FRes} (as : List AV) (ρ : PEnv) (h : r = r') : goF r as ρ = goF r' as ρ := by rw [h]
/-- calls of values alone -/
theorem collect_vals : ∀ (ps : List PV) (ρ : PEnv), collect (ps.map AV.val) ρ = some ps
  | [], _ => rfl
  | p :: ps, ρ => by
    show (match collect (ps.map AV.val) ρ with | some ps => some (p :: ps) | none => none) = _
    rw [collect_vals ps ρ]
theorem putO_vals : ∀ (ps : List PV) (ρ : PEnv), putO (ps.map AV.val) [] ρ = some ρ
  | [], _ => rfl
  | p :: ps, ρ => putO_vals ps ρ
theorem idx_vals : ∀ ps : List PV, idx (ps.map AV.val) = []
  | [] => rfl
  | p :: ps => idx_vals ps
def goR (r : FRes) (ρ : PEnv) : ERes PV := match r with
    | .ret p [] => .ok p ρ
    | .exc c fs [] => .exc c fs ρ
    | _ => .bad
theorem goR_cg {r r' : FRes} (ρ : PEnv) (h : r = r') : goR r ρ = goR r' ρ := by rw [h]
theorem goR_ret (p : PV) (ρ : PEnv) : goR (.ret p []) ρ = .ok p ρ := rfl
theorem goR_exc (c : Str) (fs : List (Str × PV)) (ρ : PEnv) : goR (.exc c fs []) ρ = .exc c fs ρ := rfl
theorem ce_vals (F : FF) (ps : List PV) (ms : List Bool) (ρ : PEnv) (h : ms = ps.map fun _ => false) (hn : ∀ p os, F ps = .ret p os → os = []) (hx : ∀ c fs os, F ps = .exc c fs os → os = []) : callE ms F (ps.map AV.val) ρ = goR (F ps) ρ := by
  unfold callE
  rw [collect_vals]
  have e : (decide ((ps.map AV.val).map AV.isOwn = ms) && decide ((idx (ps.map AV.val)).Nodup)) = true := by
    rw [idx_vals, h]
    simp [AV.isOwn]
  simp only [e, if_true]
  cases hf : F ps with
  | ret p os => rw [hn _ _ hf]; simp only [putO_vals, goR]
  | exc c fs os => rw [hx _ _ _ hf]; simp only [putO_vals, goR]
  | reo p os => rfl
  | bad => rfl

def okA : List AV → List Bool → Bool
  | [], [] => true
  | .val _ :: as, false :: ms => okA as ms
  | .own i :: as, true :: ms => !(idx as).contains i && okA as ms
  | _, _ => false
theorem okA_eq : ∀ (as : List AV) (ms : List Bool), okA as ms = (decide (as.map AV.isOwn = ms) && decide ((idx as).Nodup))
  | [], [] => by simp [okA, idx]
  | [], _ :: _ => by simp [okA]
  | .val _ :: as, false :: ms => by
    simp [okA, idx, AV.isOwn, okA_eq as ms]
    try rfl
  | .own i :: as, true :: ms => by
    simp only [okA, idx, AV.isOwn, okA_eq as ms, List.map_cons, List.nodup_cons, List.cons.injEq, true_and, List.contains_eq_mem]
    by_cases h1 : i ∈ idx as <;> by_cases h2 : as.map AV.isOwn = ms <;> simp [h1, h2]
  | .val _ :: as, true :: ms => by simp [okA, AV.isOwn]
  | .own _ :: as, false :: ms => by simp [okA, AV.isOwn]
  | .val _ :: as, [] => by simp [okA]
  | .own _ :: as, [] => by simp [okA]
def goA (o : Option (List PV)) (ms : List Bool) (F : FF) (as : List AV) (ρ : PEnv) : ERes PV := match o with
  | some ps => goB (okA as ms) (goF (F ps) as ρ) .bad
  | none => .bad
theorem goA_s (ps : List PV) (ms : List Bool) (F : FF) (as : List AV) (ρ : PEnv) : goA (some ps) ms F as ρ = goB (okA as ms) (goF (F ps) as ρ) .bad := rfl
theorem ev_callE (ms : List Bool) (F : FF) (as : List AV) (ρ : PEnv) : callE ms F as ρ = goA (collect as ρ) ms F as ρ := by
  unfold callE goA goB goF
  rw [okA_eq]
  cases collect as ρ <;> rfl
def goFO (r : FRes) (as : List AV) (ρ : PEnv) : ERes PV := match r with
    | .reo p os => match putO as os ρ with
      | some ρ' => .ok p ρ'
      | none => .bad
    | .exc c fs os => match putO as os ρ with
      | some ρ' => .exc c fs ρ'
      | none => .bad
    | _ => .bad
theorem goFO_cg {r r' : FRes} (as : List AV) (ρ : PEnv) (h : r = r') : goFO r as ρ = goFO r' as ρ := by rw [h]
def goAO (o : Option (List PV)) (ms : List Bool) (F : FF) (as : List AV) (ρ : PEnv) : ERes PV := match o with
  | some ps => goB (okA as ms) (goFO (F ps) as ρ) .bad
  | none => .bad
theorem goAO_s (ps : List PV) (ms : List Bool) (F : FF) (as : List AV) (ρ : PEnv) : goAO (some ps) ms F as ρ = goB (okA as ms) (goFO (F ps) as ρ) .bad := rfl
theorem ev_callOE (ms : List Bool) (F : FF) (as : List AV) (ρ : PEnv) : callO ms F as ρ = goAO (collect as ρ) ms F as ρ := by
  unfold callO goAO goB goFO
  rw [okA_eq]
  cases collect as ρ <;> rfl
def goP (o : Option PEnv) (k : PEnv → ERes PV) : ERes PV := match o with
  | some ρ => k ρ
  | none => .bad
theorem goP_s (ρ : PEnv) (k : PEnv → ERes PV) : goP (some ρ) k = k ρ := rfl
theorem goF_ret (p : PV) (os : List PV) (as : List AV) (ρ : PEnv) : goF (.ret p os) as ρ = goP (putO as os ρ) fun ρ' => .ok p ρ' := rfl
theorem goF_exc (c : Str) (fs : List (Str × PV)) (os : List PV) (as : List AV) (ρ : PEnv) : goF (.exc c fs os) as ρ = goP (putO as os ρ) fun ρ' => .exc c fs ρ' := rfl
theorem goFO_reo (p : PV) (os : List PV) (as : List AV) (ρ : PEnv) : goFO (.reo p os) as ρ = goP (putO as os ρ) fun ρ' => .ok p ρ' := rfl
theorem goFO_exc (c : Str) (fs : List (Str × PV)) (os : List PV) (as : List AV) (ρ : PEnv) : goFO (.exc c fs os) as ρ = goP (putO as os ρ) fun ρ' => .exc c fs ρ' := rfl
theorem co_nil (ρ : PEnv) : collect [] ρ = some [] := rfl
theorem co_val (p : PV) (as : List AV) (ρ : PEnv) : collect (.val p :: as) ρ = (collect as ρ).map (p :: ·) := by
  show (match collect as ρ with | some ps => some (p :: ps) | none => none) = _
  cases collect as ρ <;> rfl
def goOwn (s : Option Slot) (o : Option (List PV)) : Option (List PV) := match s with
  | some (.own p) => (match o with | some ps => some (p :: ps) | none => none)
  | _ => none
theorem co_own (i : Nat) (as : List AV) (ρ : PEnv) : collect (.own i :: as) ρ = goOwn ρ[i]? (collect as ρ) := rfl
theorem co_go (p : PV) (ps : List PV) : goOwn (some (.own p)) (some ps) = some (p :: ps) := rfl
theorem co_map (p : PV) (ps : List PV) : (some ps).map (p :: ·) = some (p :: ps) := rfl
theorem pu_nil (ρ : PEnv) : putO [] [] ρ = some ρ := rfl
theorem pu_val (p : PV) (as : List AV) (os : List PV) (ρ : PEnv) : putO (.val p :: as) os ρ = putO as os ρ := rfl
theorem pu_own (i : Nat) (o : PV) (as : List AV) (os : List PV) (ρ : PEnv) : putO (.own i :: as) (o :: os) ρ = putO as os (ρ.set i (.own o)) := rfl
theorem oa_nil : okA [] [] = true := rfl
theorem oa_val (p : PV) (as : List AV) (ms : List Bool) : okA (.val p :: as) (false :: ms) = okA as ms := rfl
theorem oa_own (i : Nat) (as : List AV) (ms : List Bool) : okA (.own i :: as) (true :: ms) = (!(idx as).contains i && okA as ms) := rfl
theorem ix_nil : idx [] = [] := rfl
theorem ix_val (p : PV) (as : List AV) : idx (.val p :: as) = idx as := rfl
theorem ix_own (i : Nat) (as : List AV) : idx (.own i :: as) = i :: idx as := rfl
/-! a def's run -/
def goRun (ms : List Bool) (r : SRes) : FRes := match r with
  | .nx ρ => match ownsOf ms ρ with
    | some os => .ret .non os
    | none => .bad
  | .rt p ρ => match ownsOf ms ρ with
    | some os => .ret p os
    | none => .bad
  | .ro p ρ => match ownsOf ms ρ with
    | some os => .reo p os
    | none => .bad
  | .exc c fs ρ => match ownsOf ms ρ with
    | some os => .exc c fs os
    | none => .bad
  | _ => .bad
theorem ev_run (ms : List Bool) (n : Nat) (B : SF) (ps : List PV) : runF ms n B ps = goRun ms (B (slotsOf ms ps ++ List.replicate (n - ms.length) .no)) := rfl
def goO (o : Option (List PV)) (k : List PV → FRes) : FRes := match o with
  | some os => k os
  | none => .bad
theorem goO_s (os : List PV) (k : List PV → FRes) : goO (some os) k = k os := rfl
theorem gr_nx (ms : List Bool) (ρ : PEnv) : goRun ms (.nx ρ) = goO (ownsOf ms ρ) fun os => .ret .non os := rfl
theorem gr_rt (ms : List Bool) (p : PV) (ρ : PEnv) : goRun ms (.rt p ρ) = goO (ownsOf ms ρ) fun os => .ret p os := rfl
theorem gr_ro (ms : List Bool) (p : PV) (ρ : PEnv) : goRun ms (.ro p ρ) = goO (ownsOf ms ρ) fun os => .reo p os := rfl
theorem gr_exc (ms : List Bool) (c : Str) (fs : List (Str × PV)) (ρ : PEnv) : goRun ms (.exc c fs ρ) = goO (ownsOf ms ρ) fun os => .exc c fs os := rfl
theorem ow_nil (ρ : PEnv) : ownsOf [] ρ = some [] := by cases ρ <;> rfl
theorem ow_f (ms : List Bool) (s : Slot) (ρ : PEnv) : ownsOf (false :: ms) (s :: ρ) = ownsOf ms ρ := rfl
theorem ow_t (ms : List Bool) (p : PV) (ρ : PEnv) : ownsOf (true :: ms) (.own p :: ρ) = (ownsOf ms ρ).map (p :: ·) := by
  show (match ownsOf ms ρ with | some os => some (p :: os) | none => none) = _
  cases ownsOf ms ρ <;> rfl
theorem sl_nil (ps : List PV) : slotsOf [] ps = [] := by cases ps <;> rfl
theorem sl_f (ms : List Bool) (p : PV) (ps : List PV) : slotsOf (false :: ms) (p :: ps) = .v p :: slotsOf ms ps := rfl
theorem sl_t (ms : List Bool) (p : PV) (ps : List PV) : slotsOf (true :: ms) (p :: ps) = .own p :: slotsOf ms ps := rfl
theorem rp_s (n : Nat) (s : Slot) : List.replicate (n + 1) s = s :: List.replicate n s := rfl
theorem rp_0 (s : Slot) : List.replicate 0 s = [] := rfl
/-! isinstance -/
def isT (p : PV) (b : String) : Option PV := match tyName p with
    | some a => if decide (b ∈ tyIs) = true then some (.bl (isaT a b)) else none
    | none => none
theorem isi_int_int (i : Int) : pIsi [.int i, .atm (.ty "int")] = some (.bl true) := rfl
theorem isi_int_bool (i : Int) : pIsi [.int i, .atm (.ty "bool")] = some (.bl false) := rfl
theorem isi_int_tup (i : Int) : pIsi [.int i, .atm (.ty "tuple")] = some (.bl false) := rfl
theorem isi_int_lst (i : Int) : pIsi [.int i, .atm (.ty "list")] = some (.bl false) := rfl
theorem isi_int_str (i : Int) : pIsi [.int i, .atm (.ty "str")] = some (.bl false) := rfl
theorem isi_bl_int (i : Bool) : pIsi [.bl i, .atm (.ty "int")] = some (.bl true) := rfl
theorem isi_bl_bool (i : Bool) : pIsi [.bl i, .atm (.ty "bool")] = some (.bl true) := rfl
theorem isi_bl_tup (i : Bool) : pIsi [.bl i, .atm (.ty "tuple")] = some (.bl false) := rfl
theorem isi_bl_lst (i : Bool) : pIsi [.bl i, .atm (.ty "list")] = some (.bl false) := rfl
theorem isi_bl_str (i : Bool) : pIsi [.bl i, .atm (.ty "str")] = some (.bl false) := rfl
theorem isi_tup_int (i : List PV) : pIsi [.tup i, .atm (.ty "int")] = some (.bl false) := rfl
theorem isi_tup_bool (i : List PV) : pIsi [.tup i, .atm (.ty "bool")] = some (.bl false) := rfl
theorem isi_tup_tup (i : List PV) : pIsi [.tup i, .atm (.ty "tuple")] = some (.bl true) := rfl
theorem isi_tup_lst (i : List PV) : pIsi [.tup i, .atm (.ty "list")] = some (.bl false) := rfl
theorem isi_tup_str (i : List PV) : pIsi [.tup i, .atm (.ty "str")] = some (.bl false) := rfl
theorem isi_lst_int (i : List PV) : pIsi [.lst i, .atm (.ty "int")] = some (.bl false) := rfl
theorem isi_lst_bool (i : List PV) : pIsi [.lst i, .atm (.ty "bool")] = some (.bl false) := rfl
theorem isi_lst_tup (i : List PV) : pIsi [.lst i, .atm (.ty "tuple")] = some (.bl false) := rfl
theorem isi_lst_lst (i : List PV) : pIsi [.lst i, .atm (.ty "list")] = some (.bl true) := rfl
theorem isi_lst_str (i : List PV) : pIsi [.lst i, .atm (.ty "str")] = some (.bl false) := rfl
theorem isi_str_int (i : Str) : pIsi [.str i, .atm (.ty "int")] = some (.bl false) := rfl
theorem isi_str_bool (i : Str) : pIsi [.str i, .atm (.ty "bool")] = some (.bl false) := rfl
theorem isi_str_tup (i : Str) : pIsi [.str i, .atm (.ty "tuple")] = some (.bl false) := rfl
theorem isi_str_lst (i : Str) : pIsi [.str i, .atm (.ty "list")] = some (.bl false) := rfl
theorem isi_str_str (i : Str) : pIsi [.str i, .atm (.ty "str")] = some (.bl true) := rfl
theorem isi_non_int : pIsi [.non, .atm (.ty "int")] = some (.bl false) := rfl
theorem isi_non_bool : pIsi [.non, .atm (.ty "bool")] = some (.bl false) := rfl
theorem isi_non_tup : pIsi [.non, .atm (.ty "tuple")] = some (.bl false) := rfl
theorem isi_non_lst : pIsi [.non, .atm (.ty "list")] = some (.bl false) := rfl
theorem isi_non_str : pIsi [.non, .atm (.ty "str")] = some (.bl false) := rfl
theorem pt_bl (b : Bool) : pTru (.bl b) = some b := rfl
theorem pt_int (i : Int) : pTru (.int i) = some (i != 0) := rfl
theorem pt_non : pTru .non = some false := rfl
theorem pt_tup (xs : List PV) : pTru (.tup xs) = some (!xs.isEmpty) := rfl
theorem pt_lst (xs : List PV) : pTru (.lst xs) = some (!xs.isEmpty) := rfl
theorem pc_ii (f : Int → Int → Bool) (i j : Int) : pCmp f (.int i) (.int j) = some (.bl (f i j)) := rfl
theorem pa_ii (i j : Int) : pAddA (.int i) (.int j) = some (.int (i + j)) := rfl
theorem psb_ii (i j : Int) : pSub (.int i) (.int j) = some (.int (i - j)) := rfl
theorem pn_i (i : Int) : pNeg (.int i) = some (.int (-i)) := rfl
theorem pab_i (i : Int) : pAbs [.int i] = some (.int (i.natAbs : Int)) := by
  show some (PV.int (if i < 0 then -i else i)) = _
  by_cases h : i < 0
  · rw [if_pos h]; congr 2; omega
  · rw [if_neg h]; congr 2; omega
theorem pi_i (i : Int) : pInt [.int i] = some (.int i) := rfl
theorem pg_ii (i j : Int) : pGcd [.int i, .int j] = some (.int ((Nat.gcd i.natAbs j.natAbs : Nat) : Int)) := rfl
theorem pl_l (xs : List PV) : pLen [.lst xs] = some (.int xs.length) := rfl
theorem pl_t (xs : List PV) : pLen [.tup xs] = some (.int xs.length) := rfl
theorem pl_s (xs : List PV) : pLen [.scr xs] = some (.int xs.length) := rfl
/-- numbers within a bound -/
def Sm (n : Nat) (i : Int) : Prop := i.natAbs < 2 ^ n
theorem log2_lt {a n : Nat} (h : a < 2 ^ n) : a.log2 < n ∨ a = 0 := by
  rcases Nat.eq_zero_or_pos a with e | e
  · exact .inr e
  · exact .inl ((Nat.log2_lt (by omega)).mpr h)
theorem l20 : Nat.log2 0 = 0 := by decide
theorem pm_ii {i j : Int} (hi : i.natAbs < 2 ^ 400000) (hj : j.natAbs < 2 ^ 400000) : pMul (.int i) (.int j) = some (.int (i * j)) := by
  have e1 : i.natAbs.log2 ≤ 400000 := by
    rcases log2_lt hi with h | h
    · omega
    · rw [h, l20]; decide
  have e2 : j.natAbs.log2 ≤ 400000 := by
    rcases log2_lt hj with h | h
    · omega
    · rw [h, l20]; decide
  have e3 : decide (i.natAbs.log2 + j.natAbs.log2 < 1000000) = true := by simp only [decide_eq_true_eq]; omega
  show (if (decide ((-(2 ^ 64) < i ∧ i < 2 ^ 64) ∨ (-(2 ^ 64) < j ∧ j < 2 ^ 64)) || decide (i.natAbs.log2 + j.natAbs.log2 < 1000000)) = true then some (PV.int (i * j)) else none) = _
  rw [e3, Bool.or_true, if_pos rfl]
theorem pd_ii {i j : Int} (h0 : j ≠ 0) (hj : j.natAbs < 2 ^ 8999) : pDiv (.int i) (.int j) = some (.int (i.fdiv j)) := by
  have e2 : j.natAbs.log2 < 9000 := by
    rcases log2_lt hj with h | h
    · omega
    · rw [h, l20]; decide
  unfold pDiv
  have e3 : decide (j ≠ 0 ∧ j.natAbs.log2 < 9000) = true := by simp only [decide_eq_true_eq]; exact ⟨h0, e2⟩
  simp only [e3, if_true]
theorem pmo_ii {i j : Int} (h0 : j ≠ 0) : pMod (.int i) (.int j) = some (.int (i.fmod j)) := by
  unfold pMod
  simp [h0]
theorem atI_nat {α : Type} (xs : List α) (n : Nat) : atI xs (n : Int) = xs[n]? := by
  unfold atI ixN
  rw [if_pos (by omega)]
  by_cases h : n < xs.length
  · rw [if_pos (by omega)]; rfl
  · rw [if_neg (by omega), List.getElem?_eq_none (by omega)]; rfl
theorem at_0 (xs : List PV) : pIx (.tup xs) (.int 0) = xs[0]? := atI_nat xs 0
theorem at_1 (xs : List PV) : pIx (.tup xs) (.int 1) = xs[1]? := atI_nat xs 1
theorem at_2 (xs : List PV) : pIx (.tup xs) (.int 2) = xs[2]? := atI_nat xs 2
theorem at_3 (xs : List PV) : pIx (.tup xs) (.int 3) = xs[3]? := atI_nat xs 3
theorem atl_0 (xs : List PV) : pIx (.lst xs) (.int 0) = xs[0]? := atI_nat xs 0
theorem atl_1 (xs : List PV) : pIx (.lst xs) (.int 1) = xs[1]? := atI_nat xs 1
theorem atl_2 (xs : List PV) : pIx (.lst xs) (.int 2) = xs[2]? := atI_nat xs 2
theorem atl_3 (xs : List PV) : pIx (.lst xs) (.int 3) = xs[3]? := atI_nat xs 3
end PL
end

section
set_option Elab.async false
set_option linter.all false
set_option maxRecDepth 100000
set_option maxHeartbeats 4000000
set_option autoImplicit false
namespace PL
open PySem PySem.Spec PyProof.Rows L2
/-! == of numbers and of pairs -/
theorem pe_ii (i j : Int) : pEq (.int i) (.int j) = some (.bl (decide (i = j))) := by
  have e : pEqB (.int i) (.int j) = some (i == j) := rfl
  unfold pEq; rw [e]; rfl
theorem pne_ii (i j : Int) : pNe (.int i) (.int j) = some (.bl (!decide (i = j))) := by
  have e : pEqB (.int i) (.int j) = some (i == j) := rfl
  unfold pNe; rw [e]; rfl
theorem pb_rr (a b c d : Int) : pEqB (.tup [.int a, .int b]) (.tup [.int c, .int d]) = some (decide (a = c) && decide (b = d)) := by
  have e : pEqB (.tup [.int a, .int b]) (.tup [.int c, .int d]) = some ((a == c) && ((b == d) && true)) := by
    simp [pEqB, toD, toDs, SeqAt.shaped, PyData.canLay0, PyData.canLayAll0, PyData.depth, PyData.depthAll, PyData.eqv, PyData.eqvAll]
  rw [e, Bool.and_true]; rfl
theorem pe_rr (a b c d : Int) : pEq (.tup [.int a, .int b]) (.tup [.int c, .int d]) = some (.bl (decide (a = c) && decide (b = d))) := by
  unfold pEq; rw [pb_rr]
theorem pne_rr (a b c d : Int) : pNe (.tup [.int a, .int b]) (.tup [.int c, .int d]) = some (.bl (!(decide (a = c) && decide (b = d)))) := by
  unfold pNe; rw [pb_rr]
theorem pe_ss {x y : Str} (hx : PyData.strOk x = true) (hy : PyData.strOk y = true) : pEq (.str x) (.str y) = some (.bl (x == y)) := by
  simp [pEq, pEqB, toD, SeqAt.shaped, PyData.canLay0, PyData.depth, PyData.eqv, hx, hy]
theorem pne_ss {x y : Str} (hx : PyData.strOk x = true) (hy : PyData.strOk y = true) : pNe (.str x) (.str y) = some (.bl (!(x == y))) := by
  simp [pNe, pEqB, toD, SeqAt.shaped, PyData.canLay0, PyData.depth, PyData.eqv, hx, hy]
/-! fractions -/
def sg (t b : Int) : Int := if b < 0 then -((Nat.gcd t.natAbs b.natAbs : Nat) : Int) else ((Nat.gcd t.natAbs b.natAbs : Nat) : Int)
def rt (t b : Int) : Int := t.fdiv (sg t b)
def rb (t b : Int) : Int := b.fdiv (sg t b)
def rd (t b : Int) : PV := .tup [.int (rt t b), .int (rb t b)]
theorem sg_ne {t b : Int} (h : b ≠ 0) : sg t b ≠ 0 := by
  have : 0 < Nat.gcd t.natAbs b.natAbs := Nat.gcd_pos_of_pos_right _ (by omega)
  unfold sg; split <;> omega
theorem sg_abs (t b : Int) : (sg t b).natAbs = Nat.gcd t.natAbs b.natAbs := by
  unfold sg; split <;> simp
theorem sg_le {t b : Int} (h : b ≠ 0) : (sg t b).natAbs ≤ b.natAbs := by
  rw [sg_abs]; exact Nat.gcd_le_right _ (by omega)
theorem rd_t (t b : Int) : sg t b * rt t b = t := by
  have h : sg t b ∣ t := Int.natAbs_dvd_natAbs.mp (by rw [sg_abs]; exact Nat.gcd_dvd_left _ _)
  unfold rt
  exact Int.mul_fdiv_cancel' h
theorem rd_b (t b : Int) : sg t b * rb t b = b := by
  have h : sg t b ∣ b := Int.natAbs_dvd_natAbs.mp (by rw [sg_abs]; exact Nat.gcd_dvd_right _ _)
  unfold rb
  exact Int.mul_fdiv_cancel' h
theorem rb_pos {t b : Int} (h : b ≠ 0) : 0 < rb t b := by
  have h1 := rd_b t b
  have h2 : 0 < Nat.gcd t.natAbs b.natAbs := Nat.gcd_pos_of_pos_right _ (by omega)
  rcases Int.lt_trichotomy (rb t b) 0 with h3 | h3 | h3
  · exfalso
    unfold sg at h1
    split at h1
    · rename_i hb
      have := Int.mul_pos_of_neg_of_neg (a := -((Nat.gcd t.natAbs b.natAbs : Nat) : Int)) (b := rb t b) (by omega) h3
      omega
    · rename_i hb
      have := Int.mul_neg_of_pos_of_neg (a := ((Nat.gcd t.natAbs b.natAbs : Nat) : Int)) (b := rb t b) (by omega) h3
      omega
  · rw [h3] at h1; simp at h1; omega
  · exact h3
theorem rd_gcd {t b : Int} (h : b ≠ 0) : Nat.gcd (rt t b).natAbs (rb t b).natAbs = 1 := by
  have h2 : 0 < Nat.gcd t.natAbs b.natAbs := Nat.gcd_pos_of_pos_right _ (by omega)
  have e1 : t.natAbs = (sg t b).natAbs * (rt t b).natAbs := by rw [← Int.natAbs_mul, rd_t]
  have e2 : b.natAbs = (sg t b).natAbs * (rb t b).natAbs := by rw [← Int.natAbs_mul, rd_b]
  have e3 : Nat.gcd t.natAbs b.natAbs = Nat.gcd t.natAbs b.natAbs * Nat.gcd (rt t b).natAbs (rb t b).natAbs := by
    have e4 : Nat.gcd t.natAbs b.natAbs = Nat.gcd ((sg t b).natAbs * (rt t b).natAbs) ((sg t b).natAbs * (rb t b).natAbs) := by rw [← e1, ← e2]
    rw [Nat.gcd_mul_left, sg_abs] at e4
    exact e4
  exact Nat.eq_of_mul_eq_mul_left h2 (by rw [Nat.mul_one]; exact e3.symm)
theorem rt_le {t b : Int} (h : b ≠ 0) : (rt t b).natAbs ≤ t.natAbs := by
  have e1 : t.natAbs = (sg t b).natAbs * (rt t b).natAbs := by rw [← Int.natAbs_mul, rd_t]
  have h2 : 0 < (sg t b).natAbs := by have := sg_ne (t := t) h; omega
  rw [e1]
  exact Nat.le_mul_of_pos_left _ h2
theorem rb_le {t b : Int} (h : b ≠ 0) : (rb t b).natAbs ≤ b.natAbs := by
  have e1 : b.natAbs = (sg t b).natAbs * (rb t b).natAbs := by rw [← Int.natAbs_mul, rd_b]
  have h2 : 0 < (sg t b).natAbs := by have := sg_ne (t := t) h; omega
  have h3 : (rb t b).natAbs ≤ (sg t b).natAbs * (rb t b).natAbs := Nat.le_mul_of_pos_left _ h2
  omega
/-! sizes -/
def Bd (n : Nat) (i : Int) : Prop := i.natAbs < 2 ^ n
theorem Bd.mono {m n : Nat} {i : Int} (h : Bd m i) (l : m ≤ n) : Bd n i := Nat.lt_of_lt_of_le h (Nat.pow_le_pow_right (by decide) l)
theorem Bd.mul {m n : Nat} {i j : Int} (h : Bd m i) (k : Bd n j) : Bd (m + n) (i * j) := by
  unfold Bd at *
  rw [Int.natAbs_mul, Nat.pow_add]
  exact Nat.mul_lt_mul_of_lt_of_lt h k
theorem Bd.add {m : Nat} {i j : Int} (h : Bd m i) (k : Bd m j) : Bd (m + 1) (i + j) := by
  unfold Bd at *
  have : (i + j).natAbs ≤ i.natAbs + j.natAbs := Int.natAbs_add_le _ _
  rw [Nat.pow_succ]; omega
theorem Bd.neg {m : Nat} {i : Int} (h : Bd m i) : Bd m (-i) := by unfold Bd at *; rwa [Int.natAbs_neg]
theorem Bd.sub {m : Nat} {i j : Int} (h : Bd m i) (k : Bd m j) : Bd (m + 1) (i - j) := by rw [Int.sub_eq_add_neg]; exact h.add k.neg
theorem pm_bd {m n : Nat} {i j : Int} (h : Bd m i) (k : Bd n j) (l : m ≤ 400000 := by omega) (l' : n ≤ 400000 := by omega) : pMul (.int i) (.int j) = some (.int (i * j)) := pm_ii (h.mono l) (k.mono l')
theorem pd_bd {m : Nat} {i j : Int} (h0 : j ≠ 0) (h : Bd m j) (l : m ≤ 8999 := by omega) : pDiv (.int i) (.int j) = some (.int (i.fdiv j)) := pd_ii h0 (h.mono l)
theorem sg_bd {m : Nat} {t b : Int} (h0 : b ≠ 0) (h : Bd m b) : Bd m (sg t b) := Nat.lt_of_le_of_lt (sg_le h0) h
theorem rt_bd {m : Nat} {t b : Int} (h0 : b ≠ 0) (h : Bd m t) : Bd m (rt t b) := Nat.lt_of_le_of_lt (rt_le h0) h
theorem rb_bd {m : Nat} {t b : Int} (h0 : b ≠ 0) (h : Bd m b) : Bd m (rb t b) := Nat.lt_of_le_of_lt (rb_le h0) h

/-! texts of numbers -/
theorem sok_of (s : String) : PyData.strOk (Str.ofString s) = true := by
  unfold PyData.strOk
  rw [Str.ofString_eq_toList]
  simp only [Array.all_eq_true_iff_forall_mem, List.mem_toArray, List.mem_map, decide_eq_true_eq]
  rintro x ⟨c, _, rfl⟩
  have h := c.valid
  rcases h with h | h
  · have h1 : c.toNat < 0xd800 := h; omega
  · have h1 : c.toNat < 0x110000 := h.2; exact h1
theorem sok_app {a b : Str} (ha : PyData.strOk a = true) (hb : PyData.strOk b = true) : PyData.strOk (a ++ b) = true := by
  have e : (a ++ b).cps = a.cps ++ b.cps := rfl
  unfold PyData.strOk at *
  rw [e, Array.all_append, ha, hb]; rfl
theorem len_of (s : String) : (Str.ofString s).length = s.toList.length := by
  rw [Str.ofString_eq_toList]
  simp [Str.length]
theorem len_app (a b : Str) : (a ++ b).length = a.length + b.length := by
  have e : (a ++ b).cps = a.cps ++ b.cps := rfl
  unfold Str.length
  rw [e]; simp
theorem nat_len {n k : Nat} (hk : 0 < k) (h : n < 10 ^ k) : (toString n).toList.length ≤ k := by
  have := (Nat.length_toDigits_le_iff (b := 10) (n := n) (by decide) hk).mpr h
  simpa [toString, Nat.repr] using this
theorem int_len {i : Int} {k : Nat} (hk : 0 < k) (h : i.natAbs < 10 ^ k) : (Str.ofString (toString i)).length ≤ k + 1 := by
  rw [len_of]
  cases i with
  | ofNat n =>
    have := nat_len hk (n := n) (by simpa using h)
    show (toString n).toList.length ≤ k + 1
    omega
  | negSucc n =>
    have := nat_len hk (n := n + 1) (by simpa [Int.natAbs_negSucc] using h)
    show (("-" : String) ++ toString (n + 1)).toList.length ≤ k + 1
    rw [String.toList_append, List.length_append]
    have e : ("-" : String).toList.length = 1 := rfl
    omega
end PL
end

section
set_option Elab.async false
set_option linter.all false
set_option maxRecDepth 100000
set_option maxHeartbeats 4000000
set_option autoImplicit false
set_option exponentiation.threshold 2000
namespace K01
open PySem PySem.Spec PyProof.Rows L2 PL
local macro_rules | `(tactic| simp! [$l:simpLemma,*]) => `(tactic| simp (config := { decide := false, zeta := false }) only [ev_ok, ev_exc, ev_bad, ev_okS, ev_excS, ev_badS, ev_var, ev_v, ev_c, ev_op, ev_un, ev_some, ev_ct, ev_cf, ev_chain, ev_nil, ev_cons, ev_tup, ev_lst, ev_tru, ev_tsome, ev_bl, ev_no, goB_t, goB_f, ev_an, ev_oo, goT_s, ev_and, ev_or, ev_not, ev_if, ev_call, ev_fmt, ev_asg, ev_asgO, ev_asgG, ev_gN, ev_gsN, ev_gsC, ev_gTp, ev_par, ev_drop, ev_ret, ev_retO, ev_pass, ev_seq, goS_nx, goS_rt, goS_ro, goS_exc, goS_bk, goS_ct, ev_sif, ev_raise, ev_xf, ev_for, ev_while, ev_iseq, ev_iarg, ev_lsome, ev_callF, ev_callD, ev_call0, ev_callO, ev_bnil, ev_bval, ev_bown, ev_callE, goA_s, ev_callOE, goAO_s, goP_s, goF_ret, goF_exc, goFO_reo, goFO_exc, co_nil, co_val, co_own, co_go, co_map, pu_nil, pu_val, pu_own, oa_nil, oa_val, oa_own, ix_nil, ix_val, ix_own, ev_run, goO_s, gr_nx, gr_rt, gr_ro, gr_exc, ow_nil, ow_f, ow_t, sl_nil, sl_f, sl_t, rp_s, rp_0,
  isi_int_int, isi_int_bool, isi_int_tup, isi_int_lst, isi_int_str, isi_bl_int, isi_bl_bool, isi_bl_tup, isi_bl_lst, isi_bl_str, isi_tup_int, isi_tup_bool, isi_tup_tup, isi_tup_lst, isi_tup_str, isi_lst_int, isi_lst_bool, isi_lst_tup, isi_lst_lst, isi_lst_str, isi_str_int, isi_str_bool, isi_str_tup, isi_str_lst, isi_str_str, isi_non_int, isi_non_bool, isi_non_tup, isi_non_lst, isi_non_str,
  pt_bl, pt_int, pt_non, pt_tup, pt_lst, pc_ii, pa_ii, psb_ii, pn_i, pab_i, pi_i, pg_ii, pl_l, pl_t, pl_s, at_0, at_1, at_2, at_3, atl_0, atl_1, atl_2, atl_3,
  List.cons_append, List.nil_append, List.append_nil, List.map_cons, List.map_nil, List.length_cons, List.length_nil, List.getElem?_cons_zero, List.getElem?_cons_succ, List.set_cons_zero, List.set_cons_succ, Nat.reduceAdd, Nat.reduceSub, Nat.reduceLeDiff, Nat.zero_add, Nat.reduceEqDiff, Nat.reduceLT, ↓reduceIte, Int.cast_ofNat_Int, Int.natCast_zero, Int.natCast_one, Int.reduceEq, Int.reduceLT, Int.reduceLE, Int.reduceGT, eq_self, goF_ret, goR_ret, decide_true, decide_false, if_true, Bool.not_true, Bool.not_false, Bool.true_and, Bool.and_true, List.contains_nil, List.zip_cons_cons, List.zip_nil_left, List.reverse_cons, List.reverse_nil, $l,*])
/-! is_whole -/
theorem whole_0 (i : Int) : F_is_whole [.int i, .non, .non] = .ret (.bl true) [] := by
  unfold F_is_whole B_is_whole
  simp! [pIs, isNon]
theorem whole_lo (i j : Int) : F_is_whole [.int i, .int j, .non] = .ret (.bl (decide (j ≤ i))) [] := by
  unfold F_is_whole B_is_whole
  by_cases h : j ≤ i
  · simp! [pIs, isNon, h]
  · simp! [pIs, isNon, h]
theorem whole_hi (i j : Int) : F_is_whole [.int i, .non, .int j] = .ret (.bl (decide (i ≤ j))) [] := by
  unfold F_is_whole B_is_whole
  simp! [pIs, isNon]
theorem whole_lh (i j k : Int) : F_is_whole [.int i, .int j, .int k] = .ret (.bl (decide (j ≤ i) && decide (i ≤ k))) [] := by
  unfold F_is_whole B_is_whole
  by_cases h : j ≤ i
  · simp! [pIs, isNon, h]
  · simp! [pIs, isNon, h, Bool.false_and]
theorem whole_bl (b : Bool) (x y : PV) : F_is_whole [.bl b, x, y] = .ret (.bl false) [] := by
  unfold F_is_whole B_is_whole
  simp! []
theorem whole_tup (b : List PV) (x y : PV) : F_is_whole [.tup b, x, y] = .ret (.bl false) [] := by
  unfold F_is_whole B_is_whole
  simp! []
theorem whole_lst (b : List PV) (x y : PV) : F_is_whole [.lst b, x, y] = .ret (.bl false) [] := by
  unfold F_is_whole B_is_whole
  simp! []
theorem whole_str (b : Str) (x y : PV) : F_is_whole [.str b, x, y] = .ret (.bl false) [] := by
  unfold F_is_whole B_is_whole
  simp! []
theorem whole_non (x y : PV) : F_is_whole [.non, x, y] = .ret (.bl false) [] := by
  unfold F_is_whole B_is_whole
  simp! []
/-! is_ratio -/
def isr (t b : Int) : Bool := decide (1 ≤ b) && decide (Nat.gcd t.natAbs b.natAbs = 1)
theorem isr_pair (t b : Int) : F_is_ratio [.tup [.int t, .int b]] = .ret (.bl (isr t b)) [] := by
  unfold F_is_ratio B_is_ratio isr
  by_cases h : 1 ≤ b
  · simp! [pne_ii, pe_ii, whole_0, whole_lo, h, goR_ret]
    congr 2
    exact decide_eq_decide.mpr (by omega)
  · simp! [pne_ii, pe_ii, whole_0, whole_lo, h, goR_ret, Bool.false_and]
theorem low_ev {t b : Int} (h : b ≠ 0) (hb : Bd 8999 b) : F__in_lowest_terms [.int t, .int b] = .ret (rd t b) [] := by
  unfold F__in_lowest_terms B__in_lowest_terms
  have hs := sg_ne (t := t) h
  have hd := pd_bd hs (sg_bd (t := t) h hb) (i := t)
  have hd2 := pd_bd hs (sg_bd (t := t) h hb) (i := b)
  by_cases c : b < 0
  · have e : sg t b = -((Nat.gcd t.natAbs b.natAbs : Nat) : Int) := if_pos c
    rw [e] at hd hd2
    simp! [c, hd, hd2]
    unfold rd rt rb
    rw [e]
  · have e : sg t b = ((Nat.gcd t.natAbs b.natAbs : Nat) : Int) := if_neg c
    rw [e] at hd hd2
    simp! [c, hd, hd2]
    unfold rd rt rb
    rw [e]

abbrev R (t b : Int) : PV := .tup [.int t, .int b]
theorem nz {b d : Int} (h : b ≠ 0) (k : d ≠ 0) : b * d ≠ 0 := Int.mul_ne_zero h k
theorem plus_ev {a b c d : Int} {m n : Nat} (hb : b ≠ 0) (hd : d ≠ 0) (h1 : Bd m a) (h2 : Bd m b) (h3 : Bd n c) (h4 : Bd n d) (l : m + n ≤ 8999) : F_plus [R a b, R c d] = .ret (rd (a * d + c * b) (b * d)) [] := by
  unfold F_plus B_plus
  have e1 := pm_bd h1 h4
  have e2 := pm_bd h3 h2
  have e3 := pm_bd h2 h4
  have e4 := low_ev (t := a * d + c * b) (nz hb hd) ((h2.mul h4).mono (by omega))
  simp! [e1, e2, e3, e4]
theorem minus_ev {a b c d : Int} {m n : Nat} (hb : b ≠ 0) (hd : d ≠ 0) (h1 : Bd m a) (h2 : Bd m b) (h3 : Bd n c) (h4 : Bd n d) (l : m + n ≤ 8999) : F_minus [R a b, R c d] = .ret (rd (a * d - c * b) (b * d)) [] := by
  unfold F_minus B_minus
  have e1 := pm_bd h1 h4
  have e2 := pm_bd h3 h2
  have e3 := pm_bd h2 h4
  have e4 := low_ev (t := a * d - c * b) (nz hb hd) ((h2.mul h4).mono (by omega))
  simp! [e1, e2, e3, e4]
theorem times_ev {a b c d : Int} {m n : Nat} (hb : b ≠ 0) (hd : d ≠ 0) (h1 : Bd m a) (h2 : Bd m b) (h3 : Bd n c) (h4 : Bd n d) (l : m + n ≤ 8999) : F_times [R a b, R c d] = .ret (rd (a * c) (b * d)) [] := by
  unfold F_times B_times
  have e1 := pm_bd h1 h3
  have e3 := pm_bd h2 h4
  have e4 := low_ev (t := a * c) (nz hb hd) ((h2.mul h4).mono (by omega))
  simp! [e1, e3, e4]
theorem over_ev {a b c d : Int} {m n : Nat} (hb : b ≠ 0) (hc : c ≠ 0) (h1 : Bd m a) (h2 : Bd m b) (h3 : Bd n c) (h4 : Bd n d) (l : m + n ≤ 8999) : F_over [R a b, R c d] = .ret (rd (a * d) (b * c)) [] := by
  unfold F_over B_over
  have e1 := pm_bd h1 h4
  have e3 := pm_bd h2 h3
  have e4 := low_ev (t := a * d) (nz hb hc) ((h2.mul h3).mono (by omega))
  simp! [e1, e3, e4, pe_ii, hc]
theorem over_zero {a b d : Int} : F_over [R a b, R 0 d] = .exc "BadRatio" [("what", .str "zero")] [] := by
  unfold F_over B_over
  simp! [pe_ii]
  rfl
theorem neg_ev (a b : Int) : F_negative [R a b] = .ret (R (-a) b) [] := by
  unfold F_negative B_negative
  simp! []
def sgn (x y : Int) : Int := if x < y then -1 else if y < x then 1 else 0
theorem cmp_ev {a b c d : Int} {m n : Nat} (h1 : Bd m a) (h2 : Bd m b) (h3 : Bd n c) (h4 : Bd n d) (l : m + n ≤ 8999) : F_compare [R a b, R c d] = .ret (.int (sgn (a * d) (c * b))) [] := by
  unfold F_compare B_compare sgn
  have e1 := pm_bd h1 h4
  have e2 := pm_bd h3 h2
  by_cases c1 : a * d < c * b
  · simp! [e1, e2, c1]
  · by_cases c2 : c * b < a * d
    · simp! [e1, e2, c1, c2]
      try rfl
    · simp! [e1, e2, c1, c2]
      try rfl
theorem ev_wl (t : TF) (body : SF) (n : Nat) (ρ : PEnv) : whileL t body (n + 1) ρ = (t ρ).bindS fun b ρ1 => goB b (match body ρ1 with
      | .nx ρ2 => whileL t body n ρ2
      | .ct ρ2 => whileL t body n ρ2
      | .bk ρ2 => .nx ρ2
      | r => r) (.nx ρ1) := rfl
theorem gcd_loop : ∀ (n : Nat) (a b : Nat), b < n → whileL (tTru (eVar 1)) (sPar 0 1 (aCons (eVar 1) (aCons (eOp pMod (eCall pInt (aCons (eVar 0) (aNil))) (eVar 1)) (aNil)))) n [.v (.int a), .v (.int b)] = .nx [.v (.int (Nat.gcd a b : Nat)), .v (.int 0)]
  | 0, a, b, h => by omega
  | n + 1, a, b, h => by
    rw [ev_wl]
    by_cases hb : b = 0
    · subst hb
      simp! [Nat.gcd_zero_right]
      rfl
    · have hm : pMod (.int (a : Int)) (.int (b : Int)) = some (.int ((a % b : Nat) : Int)) := by
        rw [pmo_ii (by omega), Int.fmod_eq_emod_of_nonneg _ (by omega)]
        rfl
      have ht : ((b : Int) != 0) = true := by simp [hb]
      simp! [ht, hm]
      rw [gcd_loop n b (a % b) (by have := Nat.mod_lt a (Nat.pos_of_ne_zero hb); omega)]
      congr 5
      rw [Nat.gcd_comm b, ← Nat.gcd_rec, Nat.gcd_comm]
theorem gcd_ev (a b : Int) : F__law_gcd [.int a, .int b] = .ret (.int ((Nat.gcd a.natAbs b.natAbs : Nat) : Int)) [] := by
  unfold F__law_gcd B__law_gcd
  simp! []
  rw [gcd_loop _ _ _ (by simp)]
  simp! []
theorem lrat_ev {t b : Int} (h : b ≠ 0) (hb : Bd 8999 b) : F__law_ratio [.int t, .int b] = .ret (rd t b) [] := by
  unfold F__law_ratio B__law_ratio
  have hs := sg_ne (t := t) h
  have hd := pd_bd hs (sg_bd (t := t) h hb) (i := t)
  have hd2 := pd_bd hs (sg_bd (t := t) h hb) (i := b)
  by_cases c : b < 0
  · have e : sg t b = -((Nat.gcd t.natAbs b.natAbs : Nat) : Int) := if_pos c
    rw [e] at hd hd2
    simp! [c, hd, hd2, gcd_ev]
    unfold rd rt rb
    rw [e]
  · have e : sg t b = ((Nat.gcd t.natAbs b.natAbs : Nat) : Int) := if_neg c
    rw [e] at hd hd2
    simp! [c, hd, hd2, gcd_ev]
    unfold rd rt rb
    rw [e]
theorem lplus_ev {a b c d : Int} {m n : Nat} (hb : b ≠ 0) (hd : d ≠ 0) (h1 : Bd m a) (h2 : Bd m b) (h3 : Bd n c) (h4 : Bd n d) (l : m + n ≤ 8999) : F__law_plus [R a b, R c d] = .ret (rd (a * d + c * b) (b * d)) [] := by
  unfold F__law_plus B__law_plus
  have e1 := pm_bd h1 h4
  have e2 := pm_bd h3 h2
  have e3 := pm_bd h2 h4
  have e4 := lrat_ev (t := a * d + c * b) (nz hb hd) ((h2.mul h4).mono (by omega))
  simp! [e1, e2, e3, e4]
theorem less_ev {a b c d : Int} {m n : Nat} (h1 : Bd m a) (h2 : Bd m b) (h3 : Bd n c) (h4 : Bd n d) (l : m + n ≤ 8999) : F__law_less [R a b, R c d] = .ret (.bl (decide (a * d < c * b))) [] := by
  unfold F__law_less B__law_less
  have e1 := pm_bd h1 h4
  have e2 := pm_bd h3 h2
  simp! [e1, e2]
theorem told_ev (x y : Bool) : F__law_told [.bl x, .bl y] = .ret (.bl (x == y)) [] := by
  unfold F__law_told B__law_told
  cases x <;> cases y <;> rfl
end K01
end

section
set_option Elab.async false
set_option linter.all false
set_option maxRecDepth 100000
set_option maxHeartbeats 4000000
set_option autoImplicit false
set_option exponentiation.threshold 2000
namespace K01
open PySem PySem.Spec PyProof.Rows L2 PL
local macro_rules | `(tactic| simp! [$l:simpLemma,*]) => `(tactic| simp (config := { decide := false, zeta := false }) only [ev_ok, ev_exc, ev_bad, ev_okS, ev_excS, ev_badS, ev_var, ev_v, ev_c, ev_op, ev_un, ev_some, ev_ct, ev_cf, ev_chain, ev_nil, ev_cons, ev_tup, ev_lst, ev_tru, ev_tsome, ev_bl, ev_no, goB_t, goB_f, ev_an, ev_oo, goT_s, ev_and, ev_or, ev_not, ev_if, ev_call, ev_fmt, ev_asg, ev_asgO, ev_asgG, ev_gN, ev_gsN, ev_gsC, ev_gTp, ev_par, ev_drop, ev_ret, ev_retO, ev_pass, ev_seq, goS_nx, goS_rt, goS_ro, goS_exc, goS_bk, goS_ct, ev_sif, ev_raise, ev_xf, ev_for, ev_while, ev_iseq, ev_iarg, ev_lsome, ev_callF, ev_callD, ev_call0, ev_callO, ev_bnil, ev_bval, ev_bown, ev_callE, goA_s, ev_callOE, goAO_s, goP_s, goF_ret, goF_exc, goFO_reo, goFO_exc, co_nil, co_val, co_own, co_go, co_map, pu_nil, pu_val, pu_own, oa_nil, oa_val, oa_own, ix_nil, ix_val, ix_own, ev_run, goO_s, gr_nx, gr_rt, gr_ro, gr_exc, ow_nil, ow_f, ow_t, sl_nil, sl_f, sl_t, rp_s, rp_0,
  isi_int_int, isi_int_bool, isi_int_tup, isi_int_lst, isi_int_str, isi_bl_int, isi_bl_bool, isi_bl_tup, isi_bl_lst, isi_bl_str, isi_tup_int, isi_tup_bool, isi_tup_tup, isi_tup_lst, isi_tup_str, isi_lst_int, isi_lst_bool, isi_lst_tup, isi_lst_lst, isi_lst_str, isi_str_int, isi_str_bool, isi_str_tup, isi_str_lst, isi_str_str, isi_non_int, isi_non_bool, isi_non_tup, isi_non_lst, isi_non_str,
  pt_bl, pt_int, pt_non, pt_tup, pt_lst, pc_ii, pa_ii, psb_ii, pn_i, pab_i, pi_i, pg_ii, pl_l, pl_t, pl_s, at_0, at_1, at_2, at_3, atl_0, atl_1, atl_2, atl_3,
  List.cons_append, List.nil_append, List.append_nil, List.map_cons, List.map_nil, List.length_cons, List.length_nil, List.getElem?_cons_zero, List.getElem?_cons_succ, List.set_cons_zero, List.set_cons_succ, Nat.reduceAdd, Nat.reduceSub, Nat.reduceLeDiff, Nat.zero_add, Nat.reduceEqDiff, Nat.reduceLT, ↓reduceIte, Int.cast_ofNat_Int, Int.natCast_zero, Int.natCast_one, Int.reduceEq, Int.reduceLT, Int.reduceLE, Int.reduceGT, eq_self, goF_ret, goR_ret, decide_true, decide_false, if_true, Bool.not_true, Bool.not_false, Bool.true_and, Bool.and_true, List.contains_nil, List.zip_cons_cons, List.zip_nil_left, List.reverse_cons, List.reverse_nil, $l,*])
def badR (x : String) : FRes := .exc "BadRatio" [("what", .str (Str.ofString x))] []
theorem make_ev {t b : Int} (h : b ≠ 0) (hb : Bd 8999 b) : F_make_ratio [.int t, .int b] = .ret (rd t b) [] := by
  unfold F_make_ratio B_make_ratio
  simp! [whole_0, pe_ii, h, low_ev h hb]
theorem make_zero (t : Int) : F_make_ratio [.int t, .int 0] = badR "bottom" := by
  unfold F_make_ratio B_make_ratio badR
  simp! [whole_0, pe_ii]
  rfl
theorem ev_try (i : Nat) (m : Str → Option Bool) (body : SF) (suite : List (Str × PV) → SF) (ρ : PEnv) : sTry i m body suite ρ = match body ρ with
  | .exc c fs ρ1 => match m c with
    | some true => if decide (i < ρ1.length) = true then noSlot i (suite fs (ρ1.set i .no)) else .bad
    | some false => .exc c fs ρ1
    | none => .bad
  | r => r := rfl
theorem try_ev {t b : Int} (h : b ≠ 0) (hb : Bd 8999 b) : F__law_try [.int t, .int b] = .ret (rd t b) [] := by
  unfold F__law_try B__law_try
  simp! [ev_try, make_ev h hb]
theorem try_bad {p q : PV} {x : String} (h : F_make_ratio [p, q] = badR x) (hl : (Str.ofString x).length ≤ 1000) : F__law_try [p, q] = .ret (.str ("refused " ++ Str.ofString x)) [] := by
  unfold F__law_try B__law_try
  unfold badR at h
  have e : onlyC "BadRatio" "BadRatio" = some true := rfl
  have e2 : List.lookup ("what" : Str) [(("what" : Str), PV.str (Str.ofString x))] = some (.str (Str.ofString x)) := rfl
  have e3 : pAddA (.str "refused ") (.str (Str.ofString x)) = some (.str ("refused " ++ Str.ofString x)) := by
    have : ("refused " : Str).length = 8 := by decide +kernel
    show (if decide (("refused " : Str).length + (Str.ofString x).length ≤ 100000) = true then _ else _) = _
    rw [if_pos (by simp only [decide_eq_true_eq]; omega)]
  simp! [ev_try, h, e, e2, e3, noSlot]
/-! bounds -/
theorem within_ev (t b m : Int) : F_is_within_bound [R t b, .int m] = .ret (.bl (isr t b && (decide ((t.natAbs : Int) ≤ m) && decide (b ≤ m)))) [] := by
  unfold F_is_within_bound B_is_within_bound
  by_cases h : isr t b = true
  · by_cases h2 : (t.natAbs : Int) ≤ m
    · simp! [isr_pair, h, h2]
    · simp! [isr_pair, h, h2, Bool.false_and]
  · simp only [Bool.not_eq_true] at h
    simp! [isr_pair, h, Bool.false_and]
theorem coord_ev (t b : Int) : F_is_coordinate [R t b] = .ret (.bl (isr t b && (decide ((t.natAbs : Int) ≤ 1000000000000) && decide (b ≤ 1000000000000)))) [] := by
  unfold F_is_coordinate B_is_coordinate
  simp! [within_ev]
theorem arm_ev (t b : Int) : F_is_arm_size [R t b] = .ret (.bl (isr t b && (decide ((t.natAbs : Int) ≤ 1000000000000) && decide (b ≤ 1000000000000)) && decide (0 < t))) [] := by
  unfold F_is_arm_size B_is_arm_size
  cases h : (isr t b && (decide ((t.natAbs : Int) ≤ 1000000000000) && decide (b ≤ 1000000000000)))
  · simp! [coord_ev, h, Bool.false_and]
  · simp! [coord_ev, h]
theorem weight_ev (t b : Int) : F_is_weight [R t b] = .ret (.bl (isr t b && (decide ((t.natAbs : Int) ≤ 1000000000000) && decide (b ≤ 1000000000000)) && decide (0 ≤ t))) [] := by
  unfold F_is_weight B_is_weight
  cases h : (isr t b && (decide ((t.natAbs : Int) ≤ 1000000000000) && decide (b ≤ 1000000000000)))
  · simp! [coord_ev, h, Bool.false_and]
  · simp! [coord_ev, h]
abbrev LG : Int := 1000000000000000000000000000000000000000000000000000000000000000000000000000000000000000000000000000000000000000000000000000000000000000000000000000000
theorem factor_ev (t b : Int) : F_is_factor [R t b] = .ret (.bl (isr t b && (decide ((t.natAbs : Int) ≤ LG) && decide (b ≤ LG)) && decide (0 < t))) [] := by
  unfold F_is_factor B_is_factor
  cases h : (isr t b && (decide ((t.natAbs : Int) ≤ LG) && decide (b ≤ LG)))
  · simp! [within_ev, h, Bool.false_and]
  · simp! [within_ev, h]
theorem top_ev : F__law_top [] = .ret (.int LG) [] := by kernel_rfl
theorem pow12 : pPow (.int 10) (.int 12) = some (.int 1000000000000) := by kernel_rfl
end K01
end

section
set_option Elab.async false
set_option linter.all false
set_option maxRecDepth 100000
set_option maxHeartbeats 4000000
set_option autoImplicit false
set_option exponentiation.threshold 2000
namespace K01
open PySem PySem.Spec PyProof.Rows L2 PL
local macro_rules | `(tactic| simp! [$l:simpLemma,*]) => `(tactic| simp (config := { decide := false, zeta := false }) only [ev_ok, ev_exc, ev_bad, ev_okS, ev_excS, ev_badS, ev_var, ev_v, ev_c, ev_op, ev_un, ev_some, ev_ct, ev_cf, ev_chain, ev_nil, ev_cons, ev_tup, ev_lst, ev_tru, ev_tsome, ev_bl, ev_no, goB_t, goB_f, ev_an, ev_oo, goT_s, ev_and, ev_or, ev_not, ev_if, ev_call, ev_fmt, ev_asg, ev_asgO, ev_asgG, ev_gN, ev_gsN, ev_gsC, ev_gTp, ev_par, ev_drop, ev_ret, ev_retO, ev_pass, ev_seq, goS_nx, goS_rt, goS_ro, goS_exc, goS_bk, goS_ct, ev_sif, ev_raise, ev_xf, ev_for, ev_while, ev_iseq, ev_iarg, ev_lsome, ev_callF, ev_callD, ev_call0, ev_callO, ev_bnil, ev_bval, ev_bown, ev_callE, goA_s, ev_callOE, goAO_s, goP_s, goF_ret, goF_exc, goFO_reo, goFO_exc, co_nil, co_val, co_own, co_go, co_map, pu_nil, pu_val, pu_own, oa_nil, oa_val, oa_own, ix_nil, ix_val, ix_own, ev_run, goO_s, gr_nx, gr_rt, gr_ro, gr_exc, ow_nil, ow_f, ow_t, sl_nil, sl_f, sl_t, rp_s, rp_0,
  isi_int_int, isi_int_bool, isi_int_tup, isi_int_lst, isi_int_str, isi_bl_int, isi_bl_bool, isi_bl_tup, isi_bl_lst, isi_bl_str, isi_tup_int, isi_tup_bool, isi_tup_tup, isi_tup_lst, isi_tup_str, isi_lst_int, isi_lst_bool, isi_lst_tup, isi_lst_lst, isi_lst_str, isi_str_int, isi_str_bool, isi_str_tup, isi_str_lst, isi_str_str, isi_non_int, isi_non_bool, isi_non_tup, isi_non_lst, isi_non_str,
  pt_bl, pt_int, pt_non, pt_tup, pt_lst, pc_ii, pa_ii, psb_ii, pn_i, pab_i, pi_i, pg_ii, pl_l, pl_t, pl_s, at_0, at_1, at_2, at_3, atl_0, atl_1, atl_2, atl_3,
  List.cons_append, List.nil_append, List.append_nil, List.map_cons, List.map_nil, List.length_cons, List.length_nil, List.getElem?_cons_zero, List.getElem?_cons_succ, List.set_cons_zero, List.set_cons_succ, Nat.reduceAdd, Nat.reduceSub, Nat.reduceLeDiff, Nat.zero_add, Nat.reduceEqDiff, Nat.reduceLT, ↓reduceIte, Int.cast_ofNat_Int, Int.natCast_zero, Int.natCast_one, Int.reduceEq, Int.reduceLT, Int.reduceLE, Int.reduceGT, eq_self, goF_ret, goR_ret, decide_true, decide_false, if_true, Bool.not_true, Bool.not_false, Bool.true_and, Bool.and_true, List.contains_nil, List.zip_cons_cons, List.zip_nil_left, List.reverse_cons, List.reverse_nil, $l,*])
theorem bounds_ev {t b : Int} (h : isr t b = true) : F__law_bounds [R t b] = .ret (.bl true) [] := by
  unfold F__law_bounds B__law_bounds
  by_cases h1 : 0 < t
  · have e : (t.natAbs : Int) = t := by omega
    have h4 : 0 ≤ t := by omega
    by_cases h2 : t ≤ 1000000000000 <;> by_cases h3 : b ≤ 1000000000000 <;> by_cases h5 : t ≤ LG <;> by_cases h6 : b ≤ LG <;>
      simp! [arm_ev, weight_ev, factor_ev, top_ev, pow12, told_ev, h, e, h1, h2, h3, h4, h5, h6, Bool.false_and, Bool.and_false, beq_self_eq_true]
  · by_cases h4 : 0 ≤ t
    · by_cases h2 : (t.natAbs : Int) ≤ 1000000000000 <;> by_cases h3 : b ≤ 1000000000000 <;>
        simp! [arm_ev, weight_ev, factor_ev, top_ev, pow12, told_ev, h, h1, h2, h3, h4, Bool.false_and, Bool.and_false, beq_self_eq_true]
    · by_cases h2 : (t.natAbs : Int) ≤ 1000000000000 <;> by_cases h3 : b ≤ 1000000000000 <;>
        simp! [arm_ev, weight_ev, factor_ev, top_ev, pow12, told_ev, h, h1, h2, h3, h4, Bool.false_and, Bool.and_false, beq_self_eq_true]
theorem floor_ev {t b : Int} (h : b ≠ 0) (hb : Bd 8999 b) : F_floor_of [R t b] = .ret (.int (t.fdiv b)) [] := by
  unfold F_floor_of B_floor_of
  have e := pd_bd h hb (i := t)
  simp! [e]
theorem fl_bd {m : Nat} {t b : Int} (h : 0 < b) (k : Bd m t) : Bd m (t.fdiv b) := by
  rw [Int.fdiv_eq_ediv_of_nonneg _ (by omega)]
  exact Nat.lt_of_le_of_lt (Int.natAbs_ediv_le_natAbs _ _) k
theorem fl_lo {t b : Int} (h : 0 < b) : t.fdiv b * b ≤ t := by
  rw [Int.fdiv_eq_ediv_of_nonneg _ (by omega)]
  exact Int.ediv_mul_le _ (by omega)
theorem fl_hi {t b : Int} (h : 0 < b) : t < (t.fdiv b + 1) * b := by
  rw [Int.fdiv_eq_ediv_of_nonneg _ (by omega)]
  exact Int.lt_ediv_add_one_mul_self _ h
/-! texts -/
def tx (i : Int) : Str := Str.ofString (toString i)
theorem tx_ok (i : Int) : PyData.strOk (tx i) = true := sok_of _
theorem e_app (x : Str) : Str.empty ++ x = x := by
  cases x
  show Str.mk (#[] ++ _) = _
  simp
theorem fmt_i {i : Int} (h : Bd 1919 i) : pFmt (.int i) = some (.str (tx i)) := by
  have : i.natAbs.log2 < 1920 := by
    rcases log2_lt h with h | h
    · omega
    · rw [h, l20]; decide
  show (if decide (i.natAbs.log2 < 1920) = true then some (PV.str (toString i)) else none) = _
  rw [if_pos (decide_eq_true this)]; rfl
theorem str_i {i : Int} (h : Bd 1919 i) : pStr [.int i] = some (.str (tx i)) := fmt_i h
theorem tx_len {i : Int} (h : Bd 1919 i) : (tx i).length ≤ 1000 := by
  have := int_len (i := i) (k := 600) (by decide) (Nat.lt_trans h (by decide +kernel))
  unfold tx
  omega
theorem ev_js0 (acc : Str) (ρ : PEnv) : eJs [] acc ρ = .ok (.str acc) ρ := rfl
theorem ev_js (f : EF) (fs : List EF) (acc : Str) (ρ : PEnv) : eJs (f :: fs) acc ρ = (f ρ).bind fun p ρ1 => match p with
    | .str y => goB (decide ((acc ++ y).length ≤ 100000)) (eJs fs (acc ++ y) ρ1) .bad
    | _ => .bad := rfl
def rtx (t b : Int) : Str := if b = 1 then tx t else (tx t ++ "/") ++ tx b
theorem sl1 : ("/" : Str).length = 1 := by decide +kernel
theorem rtx_ev {t b : Int} (h1 : Bd 1919 t) (h2 : Bd 1919 b) : F_ratio_text [R t b] = .ret (.str (rtx t b)) [] := by
  unfold F_ratio_text B_ratio_text rtx
  have l1 := tx_len h1
  have l2 := tx_len h2
  by_cases c : b = 1
  · simp! [pe_ii, c, fmt_i h1]
  · have g1 : decide ((tx t).length ≤ 100000) = true := by simp only [decide_eq_true_eq]; omega
    have g2 : decide ((tx t ++ "/").length ≤ 100000) = true := by simp only [decide_eq_true_eq, len_app, sl1]; omega
    have g3 : decide ((tx t ++ "/" ++ tx b).length ≤ 100000) = true := by simp only [decide_eq_true_eq, len_app, sl1]; omega
    simp! [pe_ii, c, fmt_i h1, fmt_i h2, ev_js0, ev_js, e_app, g1, g2, g3]
theorem rtx_law {t b : Int} (h1 : Bd 1919 t) (h2 : Bd 1919 b) (c : b ≠ 1) : pAddA (.str (tx t)) (.str "/") = some (.str (tx t ++ "/")) ∧ pAddA (.str (tx t ++ "/")) (.str (tx b)) = some (.str (tx t ++ "/" ++ tx b)) := by
  have l1 := tx_len h1
  have l2 := tx_len h2
  constructor
  · show (if decide ((tx t).length + ("/" : Str).length ≤ 100000) = true then _ else _) = _
    rw [if_pos (by simp only [decide_eq_true_eq, sl1]; omega)]
  · show (if decide ((tx t ++ "/").length + (tx b).length ≤ 100000) = true then _ else _) = _
    rw [if_pos (by simp only [decide_eq_true_eq, len_app, sl1]; omega)]
theorem rtx_ok (t b : Int) : PyData.strOk (rtx t b) = true := by
  unfold rtx
  split
  · exact tx_ok _
  · exact sok_app (sok_app (tx_ok _) (sok_of "/")) (tx_ok _)
end K01
end

section
set_option Elab.async false
set_option linter.all false
set_option maxRecDepth 100000
set_option maxHeartbeats 4000000
set_option autoImplicit false
set_option exponentiation.threshold 2000
namespace K01
open PySem PySem.Spec PyProof.Rows L2 PL
local macro_rules | `(tactic| simp! [$l:simpLemma,*]) => `(tactic| simp (config := { decide := false, zeta := false }) only [ev_ok, ev_exc, ev_bad, ev_okS, ev_excS, ev_badS, ev_var, ev_v, ev_c, ev_op, ev_un, ev_some, ev_ct, ev_cf, ev_chain, ev_nil, ev_cons, ev_tup, ev_lst, ev_tru, ev_tsome, ev_bl, ev_no, goB_t, goB_f, ev_an, ev_oo, goT_s, ev_and, ev_or, ev_not, ev_if, ev_call, ev_fmt, ev_asg, ev_asgO, ev_asgG, ev_gN, ev_gsN, ev_gsC, ev_gTp, ev_par, ev_drop, ev_ret, ev_retO, ev_pass, ev_seq, goS_nx, goS_rt, goS_ro, goS_exc, goS_bk, goS_ct, ev_sif, ev_raise, ev_xf, ev_for, ev_while, ev_iseq, ev_iarg, ev_lsome, ev_callF, ev_callD, ev_call0, ev_callO, ev_bnil, ev_bval, ev_bown, ev_callE, goA_s, ev_callOE, goAO_s, goP_s, goF_ret, goF_exc, goFO_reo, goFO_exc, co_nil, co_val, co_own, co_go, co_map, pu_nil, pu_val, pu_own, oa_nil, oa_val, oa_own, ix_nil, ix_val, ix_own, ev_run, goO_s, gr_nx, gr_rt, gr_ro, gr_exc, ow_nil, ow_f, ow_t, sl_nil, sl_f, sl_t, rp_s, rp_0,
  isi_int_int, isi_int_bool, isi_int_tup, isi_int_lst, isi_int_str, isi_bl_int, isi_bl_bool, isi_bl_tup, isi_bl_lst, isi_bl_str, isi_tup_int, isi_tup_bool, isi_tup_tup, isi_tup_lst, isi_tup_str, isi_lst_int, isi_lst_bool, isi_lst_tup, isi_lst_lst, isi_lst_str, isi_str_int, isi_str_bool, isi_str_tup, isi_str_lst, isi_str_str, isi_non_int, isi_non_bool, isi_non_tup, isi_non_lst, isi_non_str,
  pt_bl, pt_int, pt_non, pt_tup, pt_lst, pc_ii, pa_ii, psb_ii, pn_i, pab_i, pi_i, pg_ii, pl_l, pl_t, pl_s, at_0, at_1, at_2, at_3, atl_0, atl_1, atl_2, atl_3,
  List.cons_append, List.nil_append, List.append_nil, List.map_cons, List.map_nil, List.length_cons, List.length_nil, List.getElem?_cons_zero, List.getElem?_cons_succ, List.set_cons_zero, List.set_cons_succ, Nat.reduceAdd, Nat.reduceSub, Nat.reduceLeDiff, Nat.zero_add, Nat.reduceEqDiff, Nat.reduceLT, ↓reduceIte, Int.cast_ofNat_Int, Int.natCast_zero, Int.natCast_one, Int.reduceEq, Int.reduceLT, Int.reduceLE, Int.reduceGT, eq_self, goF_ret, goR_ret, decide_true, decide_false, if_true, Bool.not_true, Bool.not_false, Bool.true_and, Bool.and_true, List.contains_nil, List.zip_cons_cons, List.zip_nil_left, List.reverse_cons, List.reverse_nil, $l,*])
theorem rd_pne (t b t' b' : Int) (h : t = t') (h' : b = b') : pNe (rd t b) (rd t' b') = some (.bl false) := by
  subst h h'
  unfold rd
  rw [pne_rr]; simp
theorem sgn_neg (x y : Int) : sgn y x = -sgn x y := by
  unfold sgn
  by_cases h1 : x < y <;> by_cases h2 : y < x <;> simp [h1, h2] <;> omega
theorem z_ok : PyData.strOk ("zero" : Str) = true := sok_of "zero"
theorem pair_ev {a b c d : Int} (hb : 0 < b) (hd : 0 < d) (h1 : Bd 200 a) (h2 : Bd 200 b) (h3 : Bd 200 c) (h4 : Bd 200 d) : F__law_pair [R a b, R c d] = .ret (.bl true) [] := by
  unfold F__law_pair B__law_pair
  have hb0 : b ≠ 0 := by omega
  have hd0 : d ≠ 0 := by omega
  have e1 := pm_bd h1 h4
  have e2 := pm_bd h3 h2
  have e3 := pm_bd h2 h4
  have e4 := pm_bd h1 h3
  have e5 := plus_ev hb0 hd0 h1 h2 h3 h4 (by omega)
  have e6 := minus_ev hb0 hd0 h1 h2 h3 h4 (by omega)
  have e7 := times_ev hb0 hd0 h1 h2 h3 h4 (by omega)
  have bl : Bd 401 (b * d) := (h2.mul h4).mono (by omega)
  have e8 := lrat_ev (t := a * d + c * b) (nz hb0 hd0) (bl.mono (by omega))
  have e9 := lrat_ev (t := a * d - c * b) (nz hb0 hd0) (bl.mono (by omega))
  have e10 := lrat_ev (t := a * c) (nz hb0 hd0) (bl.mono (by omega))
  have p1 := rd_pne (a * d + c * b) (b * d) _ _ rfl rfl
  have p2 := rd_pne (a * d - c * b) (b * d) _ _ rfl rfl
  have p3 := rd_pne (a * c) (b * d) _ _ rfl rfl
  have c1 := cmp_ev h1 h2 h3 h4 (by omega)
  have c2 := cmp_ev h3 h4 h1 h2 (by omega)
  rw [sgn_neg] at c2
  have f1 := floor_ev (t := a) hb0 (h2.mono (by omega))
  have f2 := fl_lo (t := a) hb
  have f3 := fl_hi (t := a) hb
  have fb := fl_bd hb h1
  have f4 := pm_bd fb h2
  have fb1 : Bd 201 (a.fdiv b + 1) := fb.add (by unfold Bd; decide)
  have f5 := pm_bd fb1 h2
  have r1 := rtx_ev (h1.mono (by omega)) (h2.mono (by omega))
  have r2 := str_i (h1.mono (by omega) : Bd 1919 a)
  have r3 := str_i (h2.mono (by omega) : Bd 1919 b)
  have r4 := rtx_law (h1.mono (by omega)) (h2.mono (by omega) : Bd 1919 b)
  have r5 := pe_ss (rtx_ok a b) (rtx_ok a b)
  have o0 : onlyC "BadRatio" "BadRatio" = some true := rfl
  have o1 : List.lookup ("what" : Str) [(("what" : Str), PV.str (Str.ofString "zero"))] = some (.str (Str.ofString "zero")) := rfl
  have z1 := pne_ss z_ok z_ok
  have f6 : decide (a.fdiv b * b ≤ a) = true := decide_eq_true f2
  have f7 : decide (a < (a.fdiv b + 1) * b) = true := decide_eq_true f3
  have Q : (decide (a * d = c * b) = true ∧ sgn (a * d) (c * b) = 0) ∨ (decide (a * d = c * b) = false ∧ decide (a * d < c * b) = true ∧ sgn (a * d) (c * b) = -1) ∨ (decide (a * d = c * b) = false ∧ decide (a * d < c * b) = false ∧ sgn (a * d) (c * b) = 1) := by
    unfold sgn
    rcases Int.lt_trichotomy (a * d) (c * b) with q | q | q
    · exact .inr (.inl ⟨decide_eq_false (by omega), decide_eq_true q, by rw [if_pos q]⟩)
    · exact .inl ⟨decide_eq_true q, by rw [if_neg (by omega), if_neg (by omega)]⟩
    · exact .inr (.inr ⟨decide_eq_false (by omega), decide_eq_false (by omega), by rw [if_neg (by omega), if_pos q]⟩)
  have over2 : c ≠ 0 → F_over [R a b, R c d] = .ret (rd (a * d) (c * b)) [] := fun hc => by
    rw [Int.mul_comm c b]
    exact over_ev hb0 hc h1 h2 h3 h4 (by omega)
  have e11 : c ≠ 0 → F__law_ratio [.int (a * d), .int (c * b)] = .ret (rd (a * d) (c * b)) [] := fun hc =>
    lrat_ev (t := a * d) (nz hc hb0) ((h3.mul h2).mono (by omega))
  have p4 := rd_pne (a * d) (c * b) _ _ rfl rfl
  have ov0 : c = 0 → F_over [R a b, R c d] = .exc "BadRatio" [("what", .str "zero")] [] := fun hc => by subst hc; exact over_zero
  have B1 : (decide (b = 1) = true ∧ rtx a b = tx a) ∨ (decide (b = 1) = false ∧ rtx a b = tx a ++ "/" ++ tx b ∧ b ≠ 1) := by
    unfold rtx
    by_cases hb1 : b = 1
    · exact .inl ⟨decide_eq_true hb1, if_pos hb1⟩
    · exact .inr ⟨decide_eq_false hb1, if_neg hb1, hb1⟩
  have C1 : (decide (c = 0) = true ∧ F_over [R a b, R c d] = .exc "BadRatio" [("what", .str "zero")] []) ∨ (decide (c = 0) = false ∧ F_over [R a b, R c d] = .ret (rd (a * d) (c * b)) [] ∧ F__law_ratio [.int (a * d), .int (c * b)] = .ret (rd (a * d) (c * b)) []) := by
    by_cases hc : c = 0
    · exact .inl ⟨decide_eq_true hc, ov0 hc⟩
    · exact .inr ⟨decide_eq_false hc, over2 hc, e11 hc⟩
  rcases C1 with ⟨k1, k2⟩ | ⟨k1, k2, k3⟩
  · rcases Q with ⟨q1, q3⟩ | ⟨q1, q2, q3⟩ | ⟨q1, q2, q3⟩
    all_goals
      rcases B1 with ⟨b1, b2⟩ | ⟨b1, b2, b3⟩
      · rw [b2] at r1 r5
        simp only [q3] at c1 c2
        first
          | (simp! [q2, e1, e2, e3, e4, e5, e6, e7, e8, e9, e10, p1, p2, p3, p4, c1, c2, f1, f4, f5, f6, f7, r1, r2, r3, r5, b1, k1, k2, o0, o1, z1, ev_try, noSlot, pe_ii, pne_ii, pne_rr, neg_ev, q1, Bool.and_self, beq_self_eq_true, Int.neg_neg, Int.neg_zero]; done)
          | (simp! [e1, e2, e3, e4, e5, e6, e7, e8, e9, e10, p1, p2, p3, p4, c1, c2, f1, f4, f5, f6, f7, r1, r2, r3, r5, b1, k1, k2, o0, o1, z1, ev_try, noSlot, pe_ii, pne_ii, pne_rr, neg_ev, q1, Bool.and_self, beq_self_eq_true, Int.neg_neg, Int.neg_zero]; done)
      · rw [b2] at r1 r5
        simp only [q3] at c1 c2
        first
          | (simp! [q2, e1, e2, e3, e4, e5, e6, e7, e8, e9, e10, p1, p2, p3, p4, c1, c2, f1, f4, f5, f6, f7, r1, r2, r3, r5, b1, k1, k2, o0, o1, z1, ev_try, noSlot, pe_ii, pne_ii, pne_rr, neg_ev, q1, Bool.and_self, beq_self_eq_true, Int.neg_neg, Int.neg_zero, r4 b3]; done)
          | (simp! [e1, e2, e3, e4, e5, e6, e7, e8, e9, e10, p1, p2, p3, p4, c1, c2, f1, f4, f5, f6, f7, r1, r2, r3, r5, b1, k1, k2, o0, o1, z1, ev_try, noSlot, pe_ii, pne_ii, pne_rr, neg_ev, q1, Bool.and_self, beq_self_eq_true, Int.neg_neg, Int.neg_zero, r4 b3]; done)
  · rcases Q with ⟨q1, q3⟩ | ⟨q1, q2, q3⟩ | ⟨q1, q2, q3⟩
    all_goals
      rcases B1 with ⟨b1, b2⟩ | ⟨b1, b2, b3⟩
      · rw [b2] at r1 r5
        simp only [q3] at c1 c2
        first
          | (simp! [q2, e1, e2, e3, e4, e5, e6, e7, e8, e9, e10, p1, p2, p3, p4, c1, c2, f1, f4, f5, f6, f7, r1, r2, r3, r5, b1, k1, k2, o0, o1, z1, ev_try, noSlot, pe_ii, pne_ii, pne_rr, neg_ev, q1, Bool.and_self, beq_self_eq_true, Int.neg_neg, Int.neg_zero, k3]; done)
          | (simp! [e1, e2, e3, e4, e5, e6, e7, e8, e9, e10, p1, p2, p3, p4, c1, c2, f1, f4, f5, f6, f7, r1, r2, r3, r5, b1, k1, k2, o0, o1, z1, ev_try, noSlot, pe_ii, pne_ii, pne_rr, neg_ev, q1, Bool.and_self, beq_self_eq_true, Int.neg_neg, Int.neg_zero, k3]; done)
      · rw [b2] at r1 r5
        simp only [q3] at c1 c2
        first
          | (simp! [q2, e1, e2, e3, e4, e5, e6, e7, e8, e9, e10, p1, p2, p3, p4, c1, c2, f1, f4, f5, f6, f7, r1, r2, r3, r5, b1, k1, k2, o0, o1, z1, ev_try, noSlot, pe_ii, pne_ii, pne_rr, neg_ev, q1, Bool.and_self, beq_self_eq_true, Int.neg_neg, Int.neg_zero, k3, r4 b3]; done)
          | (simp! [e1, e2, e3, e4, e5, e6, e7, e8, e9, e10, p1, p2, p3, p4, c1, c2, f1, f4, f5, f6, f7, r1, r2, r3, r5, b1, k1, k2, o0, o1, z1, ev_try, noSlot, pe_ii, pne_ii, pne_rr, neg_ev, q1, Bool.and_self, beq_self_eq_true, Int.neg_neg, Int.neg_zero, k3, r4 b3]; done)
end K01
end

section
set_option Elab.async false
set_option linter.all false
set_option maxRecDepth 100000
set_option maxHeartbeats 4000000
set_option autoImplicit false
set_option exponentiation.threshold 2000
namespace K01
open PySem PySem.Spec PyProof.Rows L2 PL
local macro_rules | `(tactic| simp! [$l:simpLemma,*]) => `(tactic| simp (config := { decide := false, zeta := false }) only [ev_ok, ev_exc, ev_bad, ev_okS, ev_excS, ev_badS, ev_var, ev_v, ev_c, ev_op, ev_un, ev_some, ev_ct, ev_cf, ev_chain, ev_nil, ev_cons, ev_tup, ev_lst, ev_tru, ev_tsome, ev_bl, ev_no, goB_t, goB_f, ev_an, ev_oo, goT_s, ev_and, ev_or, ev_not, ev_if, ev_call, ev_fmt, ev_asg, ev_asgO, ev_asgG, ev_gN, ev_gsN, ev_gsC, ev_gTp, ev_par, ev_drop, ev_ret, ev_retO, ev_pass, ev_seq, goS_nx, goS_rt, goS_ro, goS_exc, goS_bk, goS_ct, ev_sif, ev_raise, ev_xf, ev_for, ev_while, ev_iseq, ev_iarg, ev_lsome, ev_callF, ev_callD, ev_call0, ev_callO, ev_bnil, ev_bval, ev_bown, ev_callE, goA_s, ev_callOE, goAO_s, goP_s, goF_ret, goF_exc, goFO_reo, goFO_exc, co_nil, co_val, co_own, co_go, co_map, pu_nil, pu_val, pu_own, oa_nil, oa_val, oa_own, ix_nil, ix_val, ix_own, ev_run, goO_s, gr_nx, gr_rt, gr_ro, gr_exc, ow_nil, ow_f, ow_t, sl_nil, sl_f, sl_t, rp_s, rp_0,
  isi_int_int, isi_int_bool, isi_int_tup, isi_int_lst, isi_int_str, isi_bl_int, isi_bl_bool, isi_bl_tup, isi_bl_lst, isi_bl_str, isi_tup_int, isi_tup_bool, isi_tup_tup, isi_tup_lst, isi_tup_str, isi_lst_int, isi_lst_bool, isi_lst_tup, isi_lst_lst, isi_lst_str, isi_str_int, isi_str_bool, isi_str_tup, isi_str_lst, isi_str_str, isi_non_int, isi_non_bool, isi_non_tup, isi_non_lst, isi_non_str,
  pt_bl, pt_int, pt_non, pt_tup, pt_lst, pc_ii, pa_ii, psb_ii, pn_i, pab_i, pi_i, pg_ii, pl_l, pl_t, pl_s, at_0, at_1, at_2, at_3, atl_0, atl_1, atl_2, atl_3,
  List.cons_append, List.nil_append, List.append_nil, List.map_cons, List.map_nil, List.length_cons, List.length_nil, List.getElem?_cons_zero, List.getElem?_cons_succ, List.set_cons_zero, List.set_cons_succ, Nat.reduceAdd, Nat.reduceSub, Nat.reduceLeDiff, Nat.zero_add, Nat.reduceEqDiff, Nat.reduceLT, ↓reduceIte, Int.cast_ofNat_Int, Int.natCast_zero, Int.natCast_one, Int.reduceEq, Int.reduceLT, Int.reduceLE, Int.reduceGT, eq_self, goF_ret, goR_ret, decide_true, decide_false, if_true, Bool.not_true, Bool.not_false, Bool.true_and, Bool.and_true, List.contains_nil, List.zip_cons_cons, List.zip_nil_left, List.reverse_cons, List.reverse_nil, $l,*])
abbrev Q : Type := Int × Int
abbrev RQ (q : Q) : PV := R q.1 q.2
def qs (l : List Q) : List PV := l.map RQ
/-- a ratio of at most so many digits -/
structure Ok (m : Nat) (q : Q) : Prop where
  pos : 0 < q.2
  top : Bd m q.1
  bot : Bd m q.2
theorem Ok.mono {m n : Nat} {q : Q} (h : Ok m q) (l : m ≤ n) : Ok n q := ⟨h.pos, h.top.mono l, h.bot.mono l⟩
def addQ (p q : Q) : Q := (rt (p.1 * q.2 + q.1 * p.2) (p.2 * q.2), rb (p.1 * q.2 + q.1 * p.2) (p.2 * q.2))
theorem addQ_ok {m n : Nat} {p q : Q} (h : Ok m p) (k : Ok n q) : Ok (m + n + 1) (addQ p q) := by
  have h0 : p.2 * q.2 ≠ 0 := Int.mul_ne_zero (by have := h.pos; omega) (by have := k.pos; omega)
  refine ⟨rb_pos h0, rt_bd h0 ?_, rb_bd h0 ((h.bot.mul k.bot).mono (by omega))⟩
  have := (h.top.mul k.bot)
  have e := k.top.mul h.bot
  rw [Nat.add_comm n m] at e
  exact this.add e
theorem plus_q {m n : Nat} {p q : Q} (h : Ok m p) (k : Ok n q) (l : m + n ≤ 8999) : F_plus [RQ p, RQ q] = .ret (RQ (addQ p q)) [] :=
  plus_ev (by have := h.pos; omega) (by have := k.pos; omega) h.top h.bot k.top k.bot l
theorem lplus_q {m n : Nat} {p q : Q} (h : Ok m p) (k : Ok n q) (l : m + n ≤ 8999) : F__law_plus [RQ p, RQ q] = .ret (RQ (addQ p q)) [] :=
  lplus_ev (by have := h.pos; omega) (by have := k.pos; omega) h.top h.bot k.top k.bot l
theorem ev_fl0 (g : GF) (body : SF) (ρ : PEnv) : forL g body [] ρ = .nx ρ := rfl
def goL (r : SRes) (g : GF) (body : SF) (ps : List PV) : SRes := match r with
      | .nx ρ2 => forL g body ps ρ2
      | .ct ρ2 => forL g body ps ρ2
      | .bk ρ2 => .nx ρ2
      | r => r
theorem goL_cg {r r' : SRes} (g : GF) (body : SF) (ps : List PV) (h : r = r') : goL r g body ps = goL r' g body ps := by rw [h]
theorem goL_nx (ρ : PEnv) (g : GF) (body : SF) (ps : List PV) : goL (.nx ρ) g body ps = forL g body ps ρ := rfl
theorem goL_rt (p : PV) (ρ : PEnv) (g : GF) (body : SF) (ps : List PV) : goL (.rt p ρ) g body ps = .rt p ρ := rfl
theorem ev_flN (i : Nat) (body : SF) (p : PV) (ps : List PV) (ρ : PEnv) : forL (gN i) body (p :: ps) ρ = goL (body (ρ.set i (.v p))) (gN i) body ps := rfl
theorem sum_loop {m : Nat} (X : PV) : ∀ (l : List Q) (k : Nat) (acc : Q) (s : Slot), (∀ q ∈ l, Ok m q) → Ok k acc → k + l.length * (m + 1) ≤ 8000 → m ≤ 900 →
    ∃ s', forL (gN 2) (sAsg 1 (eCallF [false, false] F_plus (bVal (eVar 1) (bVal (eVar 2) (bNil))))) (qs l) [.v X, .v (RQ acc), s] = .nx [.v X, .v (RQ (l.foldl addQ acc)), s']
  | [], k, acc, s, _, _, _, _ => ⟨s, rfl⟩
  | q :: l, k, acc, s, h, ha, hl, hm => by
    have hq := h q (.head _)
    have hk : k + m ≤ 8000 := by simp only [List.length_cons, Nat.add_mul, Nat.one_mul] at hl; omega
    obtain ⟨s', e⟩ := sum_loop X l (k + m + 1) (addQ acc q) (.v (RQ q)) (fun q h1 => h q (.tail _ h1)) (addQ_ok ha hq) (by simp only [List.length_cons, Nat.add_mul, Nat.mul_add, Nat.one_mul, Nat.mul_one] at hl ⊢; omega) hm
    refine ⟨s', ?_⟩
    show forL _ _ (RQ q :: qs l) _ = _
    rw [ev_flN]
    simp! [plus_q ha hq (by omega), goL_nx]
    exact e
theorem lsum_loop {m : Nat} (X : PV) : ∀ (l : List Q) (k : Nat) (acc : Q) (s : Slot), (∀ q ∈ l, Ok m q) → Ok k acc → k + l.length * (m + 1) ≤ 8000 → m ≤ 900 →
    ∃ s', forL (gN 2) (sAsg 1 (eCallF [false, false] F__law_plus (bVal (eVar 1) (bVal (eVar 2) (bNil))))) (qs l) [.v X, .v (RQ acc), s] = .nx [.v X, .v (RQ (l.foldl addQ acc)), s']
  | [], k, acc, s, _, _, _, _ => ⟨s, rfl⟩
  | q :: l, k, acc, s, h, ha, hl, hm => by
    have hq := h q (.head _)
    have hk : k + m ≤ 8000 := by simp only [List.length_cons, Nat.add_mul, Nat.one_mul] at hl; omega
    obtain ⟨s', e⟩ := lsum_loop X l (k + m + 1) (addQ acc q) (.v (RQ q)) (fun q h1 => h q (.tail _ h1)) (addQ_ok ha hq) (by simp only [List.length_cons, Nat.add_mul, Nat.mul_add, Nat.one_mul, Nat.mul_one] at hl ⊢; omega) hm
    refine ⟨s', ?_⟩
    show forL _ _ (RQ q :: qs l) _ = _
    rw [ev_flN]
    simp! [lplus_q ha hq (by omega), goL_nx]
    exact e
def sumQ (l : List Q) : Q := l.foldl addQ (0, 1)
theorem z_ok1 : Ok 1 (0, 1) := ⟨by decide, by unfold Bd; decide, by unfold Bd; decide⟩
theorem sum_l {m : Nat} {l : List Q} (h : ∀ q ∈ l, Ok m q) (hl : l.length ≤ 7) (hm : m ≤ 900) : F_sum_of [.lst (qs l)] = .ret (RQ (sumQ l)) [] := by
  obtain ⟨s', e⟩ := sum_loop (.lst (qs l)) l 1 (0, 1) .no h z_ok1 (by have := Nat.mul_le_mul hl (show m + 1 ≤ 901 by omega); omega) hm
  unfold F_sum_of B_sum_of
  simp! []
  rw [e]
  simp! []
  rfl
theorem sum_t {m : Nat} {l : List Q} (h : ∀ q ∈ l, Ok m q) (hl : l.length ≤ 7) (hm : m ≤ 900) : F_sum_of [.tup (qs l)] = .ret (RQ (sumQ l)) [] := by
  obtain ⟨s', e⟩ := sum_loop (.tup (qs l)) l 1 (0, 1) .no h z_ok1 (by have := Nat.mul_le_mul hl (show m + 1 ≤ 901 by omega); omega) hm
  unfold F_sum_of B_sum_of
  simp! []
  rw [e]
  simp! []
  rfl
theorem lsum_l {m : Nat} {l : List Q} (h : ∀ q ∈ l, Ok m q) (hl : l.length ≤ 7) (hm : m ≤ 900) : F__law_sum [.lst (qs l)] = .ret (RQ (sumQ l)) [] := by
  obtain ⟨s', e⟩ := lsum_loop (.lst (qs l)) l 1 (0, 1) .no h z_ok1 (by have := Nat.mul_le_mul hl (show m + 1 ≤ 901 by omega); omega) hm
  unfold F__law_sum B__law_sum
  simp! []
  rw [e]
  simp! []
  rfl
/-! order -/
def Le (p q : Q) : Prop := p.1 * q.2 ≤ q.1 * p.2
theorem Le.trans {p q r : Q} (hp : 0 < p.2) (hq : 0 < q.2) (hr : 0 < r.2) (h : Le p q) (k : Le q r) : Le p r := by
  unfold Le at *
  have h1 : p.1 * q.2 * r.2 ≤ q.1 * p.2 * r.2 := Int.mul_le_mul_of_nonneg_right h (by omega)
  have h2 : q.1 * r.2 * p.2 ≤ r.1 * q.2 * p.2 := Int.mul_le_mul_of_nonneg_right k (by omega)
  have e1 : q.1 * p.2 * r.2 = q.1 * r.2 * p.2 := by rw [Int.mul_assoc, Int.mul_assoc, Int.mul_comm p.2]
  have e2 : p.1 * q.2 * r.2 = p.1 * r.2 * q.2 := by rw [Int.mul_assoc, Int.mul_assoc, Int.mul_comm q.2]
  have e3 : r.1 * q.2 * p.2 = r.1 * p.2 * q.2 := by rw [Int.mul_assoc, Int.mul_assoc, Int.mul_comm q.2]
  exact Int.le_of_mul_le_mul_right (by omega : p.1 * r.2 * q.2 ≤ r.1 * p.2 * q.2) hq
theorem Le.refl (p : Q) : Le p p := Int.le_refl _
theorem cmp_q {m n : Nat} {p q : Q} (h : Ok m p) (k : Ok n q) (l : m + n ≤ 8999) : F_compare [RQ p, RQ q] = .ret (.int (sgn (p.1 * q.2) (q.1 * p.2))) [] := cmp_ev h.top h.bot k.top k.bot l
theorem least_loop {m : Nat} (hm : m ≤ 900) (X : PV) : ∀ (l : List Q) (acc : Q) (s : Slot), (∀ q ∈ l, Ok m q) → Ok m acc →
    ∃ s' r, forL (gN 2) (sIf (tBl (eOp (pCmp fun i j => decide (i < j)) (eCallF [false, false] F_compare (bVal (eVar 2) (bVal (eVar 1) (bNil)))) (eC (.int 0)))) (sAsg 1 (eVar 2)) (sPass)) (qs l) [.v X, .v (RQ acc), s] = .nx [.v X, .v (RQ r), s'] ∧ (r = acc ∨ r ∈ l) ∧ Le r acc ∧ ∀ q ∈ l, Le r q
  | [], acc, s, _, _ => ⟨s, acc, rfl, .inl rfl, Le.refl _, fun _ h => nomatch h⟩
  | q :: l, acc, s, h, ha => by
    have hq := h q (.head _)
    have ht := fun q h1 => h q (.tail _ h1)
    show ∃ s' r, forL _ _ (RQ q :: qs l) _ = _ ∧ _
    by_cases c : q.1 * acc.2 < acc.1 * q.2
    · obtain ⟨s', r, e, h1, h2, h3⟩ := least_loop hm X l q (.v (RQ q)) ht hq
      have hr : Ok m r := by
        rcases h1 with rfl | h1
        · exact hq
        · exact ht _ h1
      refine ⟨s', r, ?_, ?_, Le.trans hr.pos hq.pos ha.pos h2 (Int.le_of_lt c), ?_⟩
      · rw [ev_flN]
        have e1 : sgn (q.1 * acc.2) (acc.1 * q.2) = -1 := by unfold sgn; rw [if_pos c]
        have e2 : decide ((-1 : Int) < 0) = true := rfl
        simp! [cmp_q hq ha (by omega), e1, e2, goL_nx]
        exact e
      · rcases h1 with rfl | h1
        · exact .inr (.head _)
        · exact .inr (.tail _ h1)
      · intro q' h4
        rcases List.mem_cons.mp h4 with rfl | h4
        · exact h2
        · exact h3 _ h4
    · obtain ⟨s', r, e, h1, h2, h3⟩ := least_loop hm X l acc (.v (RQ q)) ht ha
      have hr : Ok m r := by
        rcases h1 with rfl | h1
        · exact ha
        · exact ht _ h1
      refine ⟨s', r, ?_, ?_, h2, ?_⟩
      · rw [ev_flN]
        have e2 : decide (sgn (q.1 * acc.2) (acc.1 * q.2) < 0) = false := by
          unfold sgn; rw [if_neg c]; split <;> rfl
        simp! [cmp_q hq ha (by omega), e2, goL_nx]
        exact e
      · rcases h1 with rfl | h1
        · exact .inl rfl
        · exact .inr (.tail _ h1)
      · intro q' h4
        rcases List.mem_cons.mp h4 with rfl | h4
        · exact Le.trans hr.pos ha.pos hq.pos h2 (Int.not_lt.mp c)
        · exact h3 _ h4
theorem great_loop {m : Nat} (hm : m ≤ 900) (X : PV) : ∀ (l : List Q) (acc : Q) (s : Slot), (∀ q ∈ l, Ok m q) → Ok m acc →
    ∃ s' r, forL (gN 2) (sIf (tBl (eOp (pCmp fun i j => decide (j < i)) (eCallF [false, false] F_compare (bVal (eVar 2) (bVal (eVar 1) (bNil)))) (eC (.int 0)))) (sAsg 1 (eVar 2)) (sPass)) (qs l) [.v X, .v (RQ acc), s] = .nx [.v X, .v (RQ r), s'] ∧ (r = acc ∨ r ∈ l) ∧ Le acc r ∧ ∀ q ∈ l, Le q r
  | [], acc, s, _, _ => ⟨s, acc, rfl, .inl rfl, Le.refl _, fun _ h => nomatch h⟩
  | q :: l, acc, s, h, ha => by
    have hq := h q (.head _)
    have ht := fun q h1 => h q (.tail _ h1)
    show ∃ s' r, forL _ _ (RQ q :: qs l) _ = _ ∧ _
    by_cases c : acc.1 * q.2 < q.1 * acc.2
    · obtain ⟨s', r, e, h1, h2, h3⟩ := great_loop hm X l q (.v (RQ q)) ht hq
      have hr : Ok m r := by
        rcases h1 with rfl | h1
        · exact hq
        · exact ht _ h1
      refine ⟨s', r, ?_, ?_, Le.trans ha.pos hq.pos hr.pos (Int.le_of_lt c) h2, ?_⟩
      · rw [ev_flN]
        have e1 : sgn (q.1 * acc.2) (acc.1 * q.2) = 1 := by unfold sgn; rw [if_neg (by omega), if_pos c]
        have e2 : decide ((0 : Int) < 1) = true := rfl
        simp! [cmp_q hq ha (by omega), e1, e2, goL_nx]
        exact e
      · rcases h1 with rfl | h1
        · exact .inr (.head _)
        · exact .inr (.tail _ h1)
      · intro q' h4
        rcases List.mem_cons.mp h4 with rfl | h4
        · exact h2
        · exact h3 _ h4
    · obtain ⟨s', r, e, h1, h2, h3⟩ := great_loop hm X l acc (.v (RQ q)) ht ha
      have hr : Ok m r := by
        rcases h1 with rfl | h1
        · exact ha
        · exact ht _ h1
      refine ⟨s', r, ?_, ?_, h2, ?_⟩
      · rw [ev_flN]
        have e2 : decide (0 < sgn (q.1 * acc.2) (acc.1 * q.2)) = false := by
          unfold sgn; split
          · rfl
          · rfl
        simp! [cmp_q hq ha (by omega), e2, goL_nx]
        exact e
      · rcases h1 with rfl | h1
        · exact .inl rfl
        · exact .inr (.tail _ h1)
      · intro q' h4
        rcases List.mem_cons.mp h4 with rfl | h4
        · exact Le.trans hq.pos ha.pos hr.pos (Int.not_lt.mp c) h2
        · exact h3 _ h4
theorem least_ev {m : Nat} (hm : m ≤ 900) {x : Q} {l : List Q} (h : ∀ q ∈ x :: l, Ok m q) : ∃ r, F_least_of [.lst (qs (x :: l))] = .ret (RQ r) [] ∧ r ∈ x :: l ∧ ∀ q ∈ x :: l, Le r q := by
  obtain ⟨s', r, e, h1, h2, h3⟩ := least_loop hm (.lst (qs (x :: l))) (x :: l) x .no h (h x (.head _))
  refine ⟨r, ?_, ?_, h3⟩
  · unfold F_least_of B_least_of
    have e0 : (qs (x :: l))[0]? = some (RQ x) := rfl
    simp! [e0]
    rw [e]
    simp! []
  · rcases h1 with rfl | h1
    · exact .head _
    · exact h1
theorem great_ev {m : Nat} (hm : m ≤ 900) {x : Q} {l : List Q} (h : ∀ q ∈ x :: l, Ok m q) : ∃ r, F_greatest_of [.tup (qs (x :: l))] = .ret (RQ r) [] ∧ r ∈ x :: l ∧ ∀ q ∈ x :: l, Le q r := by
  obtain ⟨s', r, e, h1, h2, h3⟩ := great_loop hm (.tup (qs (x :: l))) (x :: l) x .no h (h x (.head _))
  refine ⟨r, ?_, ?_, h3⟩
  · unfold F_greatest_of B_greatest_of
    have e0 : (qs (x :: l))[0]? = some (RQ x) := rfl
    simp! [e0]
    rw [e]
    simp! []
  · rcases h1 with rfl | h1
    · exact .head _
    · exact h1
end K01
end

section
set_option Elab.async false
set_option linter.all false
set_option maxRecDepth 100000
set_option maxHeartbeats 4000000
set_option autoImplicit false
set_option exponentiation.threshold 2000
namespace K01
open PySem PySem.Spec PyProof.Rows L2 PL
local macro_rules | `(tactic| simp! [$l:simpLemma,*]) => `(tactic| simp (config := { decide := false, zeta := false }) only [ev_ok, ev_exc, ev_bad, ev_okS, ev_excS, ev_badS, ev_var, ev_v, ev_c, ev_op, ev_un, ev_some, ev_ct, ev_cf, ev_chain, ev_nil, ev_cons, ev_tup, ev_lst, ev_tru, ev_tsome, ev_bl, ev_no, goB_t, goB_f, ev_an, ev_oo, goT_s, ev_and, ev_or, ev_not, ev_if, ev_call, ev_fmt, ev_asg, ev_asgO, ev_asgG, ev_gN, ev_gsN, ev_gsC, ev_gTp, ev_par, ev_drop, ev_ret, ev_retO, ev_pass, ev_seq, goS_nx, goS_rt, goS_ro, goS_exc, goS_bk, goS_ct, ev_sif, ev_raise, ev_xf, ev_for, ev_while, ev_iseq, ev_iarg, ev_lsome, ev_callF, ev_callD, ev_call0, ev_callO, ev_bnil, ev_bval, ev_bown, ev_callE, goA_s, ev_callOE, goAO_s, goP_s, goF_ret, goF_exc, goFO_reo, goFO_exc, co_nil, co_val, co_own, co_go, co_map, pu_nil, pu_val, pu_own, oa_nil, oa_val, oa_own, ix_nil, ix_val, ix_own, ev_run, goO_s, gr_nx, gr_rt, gr_ro, gr_exc, ow_nil, ow_f, ow_t, sl_nil, sl_f, sl_t, rp_s, rp_0,
  isi_int_int, isi_int_bool, isi_int_tup, isi_int_lst, isi_int_str, isi_bl_int, isi_bl_bool, isi_bl_tup, isi_bl_lst, isi_bl_str, isi_tup_int, isi_tup_bool, isi_tup_tup, isi_tup_lst, isi_tup_str, isi_lst_int, isi_lst_bool, isi_lst_tup, isi_lst_lst, isi_lst_str, isi_str_int, isi_str_bool, isi_str_tup, isi_str_lst, isi_str_str, isi_non_int, isi_non_bool, isi_non_tup, isi_non_lst, isi_non_str,
  pt_bl, pt_int, pt_non, pt_tup, pt_lst, pc_ii, pa_ii, psb_ii, pn_i, pab_i, pi_i, pg_ii, pl_l, pl_t, pl_s, at_0, at_1, at_2, at_3, atl_0, atl_1, atl_2, atl_3,
  List.cons_append, List.nil_append, List.append_nil, List.map_cons, List.map_nil, List.length_cons, List.length_nil, List.getElem?_cons_zero, List.getElem?_cons_succ, List.set_cons_zero, List.set_cons_succ, Nat.reduceAdd, Nat.reduceSub, Nat.reduceLeDiff, Nat.zero_add, Nat.reduceEqDiff, Nat.reduceLT, ↓reduceIte, Int.cast_ofNat_Int, Int.natCast_zero, Int.natCast_one, Int.reduceEq, Int.reduceLT, Int.reduceLE, Int.reduceGT, eq_self, goF_ret, goR_ret, decide_true, decide_false, if_true, Bool.not_true, Bool.not_false, Bool.true_and, Bool.and_true, List.contains_nil, List.zip_cons_cons, List.zip_nil_left, List.reverse_cons, List.reverse_nil, $l,*])
/-! the script's hand -/
def HandP (cs : List Int) (p r t : Int) : PV := .lst [.lst (cs.map PV.int), .int p, .int r, .int t]
def Hand (o : PV) : Prop := ∃ cs p r t, 0 ≤ p ∧ o = HandP cs p r t
theorem pm_r {i j : Int} (h : -(2 ^ 64) < j ∧ j < 2 ^ 64) : pMul (.int i) (.int j) = some (.int (i * j)) := by
  show (if (decide ((-(2 ^ 64) < i ∧ i < 2 ^ 64) ∨ (-(2 ^ 64) < j ∧ j < 2 ^ 64)) || decide (i.natAbs.log2 + j.natAbs.log2 < 1000000)) = true then some (PV.int (i * j)) else none) = _
  rw [if_pos (by rw [Bool.or_eq_true]; exact .inl (decide_eq_true (.inr h)))]
theorem pm_l {i j : Int} (h : -(2 ^ 64) < i ∧ i < 2 ^ 64) : pMul (.int i) (.int j) = some (.int (i * j)) := by
  show (if (decide ((-(2 ^ 64) < i ∧ i < 2 ^ 64) ∨ (-(2 ^ 64) < j ∧ j < 2 ^ 64)) || decide (i.natAbs.log2 + j.natAbs.log2 < 1000000)) = true then some (PV.int (i * j)) else none) = _
  rw [if_pos (by rw [Bool.or_eq_true]; exact .inl (decide_eq_true (.inl h)))]
theorem mixed_ev (a b : Int) : ∃ r, F__law_mixed [.int a, .int b] = .ret (.int r) [] := by
  unfold F__law_mixed B__law_mixed
  have m1 := pm_r (i := a) (j := 69621) (by decide)
  have m2 := pm_r (i := b) (j := 7907) (by decide)
  have d1 : pMod (.int (a * 69621 + b * 7907 + 40503)) (.int 2147483647) = _ := pmo_ii (by decide)
  generalize ho : (a * 69621 + b * 7907 + 40503).fmod 2147483647 = o at d1
  have o1 : -(2 ^ 64) < o ∧ o < 2 ^ 64 := by
    have h1 := Int.fmod_nonneg_of_pos (a * 69621 + b * 7907 + 40503) (show (0 : Int) < 2147483647 by decide)
    have h2 := Int.fmod_lt_of_pos (a * 69621 + b * 7907 + 40503) (show (0 : Int) < 2147483647 by decide)
    omega
  have m3 := pm_r (i := o) (j := o) o1
  have m4 := pm_r (i := b) (j := 104723) (by decide)
  have v1 : pDiv (.int o) (.int 131) = _ := pd_bd (m := 10) (by decide) (by unfold Bd; decide)
  have d2 : pMod (.int (o * o + b * 104723 + o.fdiv 131)) (.int 2147483629) = _ := pmo_ii (by decide)
  generalize (o * o + b * 104723 + o.fdiv 131).fmod 2147483629 = u at d2
  have m5 := pm_r (i := u) (j := 48271) (by decide)
  have v2 : pDiv (.int o) (.int 7) = _ := pd_bd (m := 10) (by decide) (by unfold Bd; decide)
  have d3 : pMod (.int (u * 48271 + o.fdiv 7)) (.int 2147483579) = _ := pmo_ii (by decide)
  generalize (u * 48271 + o.fdiv 7).fmod 2147483579 = x at d3
  have v3 : pDiv (.int x) (.int 32) = _ := pd_bd (m := 10) (by decide) (by unfold Bd; decide)
  refine ⟨x.fdiv 32, ?_⟩
  simp! [m1, m2, m3, m4, m5, d1, d2, d3, v1, v2, v3]
theorem ev_ixS (i : Nat) (fb : EF) (ρ : PEnv) : eIxS i fb ρ = match ρ[i]? with
  | some (.own _) => (fb ρ).bind fun q ρ1 => match ρ1[i]? with
    | some (.own (.lst xs)) => oRes (pIx (.lst xs) q) ρ1
    | _ => .bad
  | some (.v p) => (fb ρ).bind fun q ρ1 => oRes (pIx p q) ρ1
  | _ => .bad := by
  unfold eIxS eIxO
  cases ρ[i]? with
  | none => rfl
  | some s => cases s <;> rfl
theorem ev_setI (i : Nat) (fe fi : EF) (ρ : PEnv) : sSetI i fe fi ρ = (fe ρ).bindS fun p ρ1 => match ρ1[i]? with
  | some (.own _) => (fi ρ1).bindS fun q ρ2 => match ρ2[i]?, q with
    | some (.own (.lst xs)), .int k => match ixN xs.length k with
      | some j => .nx (ρ2.set i (.own (.lst (xs.set j p))))
      | none => .bad
    | _, _ => .bad
  | _ => .bad := rfl
theorem ix4_1 : ixN 4 1 = some 1 := by decide
theorem ix4_2 : ixN 4 2 = some 2 := by decide
theorem ix4_3 : ixN 4 3 = some 3 := by decide
theorem p1018 : pPow (.int 10) (.int 18) = some (.int 1000000000000000000) := by kernel_rfl
theorem at_cell {cs : List Int} {p : Int} (h0 : 0 ≤ p) (h : p < cs.length) : ∃ c, pIx (.lst (cs.map PV.int)) (.int p) = some (.int c) := by
  obtain ⟨n, rfl⟩ := Int.eq_ofNat_of_zero_le h0
  refine ⟨cs[n]'(by omega), ?_⟩
  show atI (cs.map PV.int) (n : Int) = _
  rw [PL.atI_nat]
  simp [List.getElem?_eq_getElem (show n < cs.length by omega)]
abbrev P2 : SF := (sSeq (sIf (tBl (eOp (pCmp fun i j => decide (j < i)) (eIxS 0 (eC (.int 2))) (eC (.int 0)))) (sSeq (sAsg 3 (eIxS 0 (eC (.int 2)))) (sSeq (sSetI 0 (eOp pDiv (eCall pInt (aCons (eVar 3) (aNil))) (eVar 1)) (eC (.int 2))) (sRet (eOp pMod (eCall pInt (aCons (eVar 3) (aNil))) (eVar 1))))) (sPass)) (sSeq (sSetI 0 (eOp pMod (eCall pInt (aCons (eOp pAddA (eIxS 0 (eC (.int 3))) (eC (.int 1))) (aNil))) (eC (.int 2147483587))) (eC (.int 3))) (sRet (eOp pMod (eCall pInt (aCons (eCallF [false, false] F__law_mixed (bVal (eIxS 0 (eC (.int 3))) (bVal (eIxS 0 (eC (.int 1))) (bNil)))) (aNil))) (eVar 1)))))
theorem part2 {cs : List Int} {p r t m : Int} (s : Slot) (h0 : 0 ≤ p) (hm : 0 < m) (hb : Bd 40 m) : ∃ x o', goRun [true, false] (P2 [.own (HandP cs p r t), .v (.int m), s, .no]) = .ret (.int x) [o'] ∧ 0 ≤ x ∧ x < m ∧ Hand o' := by
  have M : ∀ x : Int, pMod (.int x) (.int m) = some (.int (x.fmod m)) := fun x => pmo_ii (by omega)
  have N : ∀ x : Int, 0 ≤ x.fmod m ∧ x.fmod m < m := fun x => ⟨Int.fmod_nonneg_of_pos x hm, Int.fmod_lt_of_pos x hm⟩
  by_cases hr : 0 < r
  · have D : pDiv (.int r) (.int m) = _ := pd_bd (by omega) hb
    refine ⟨r.fmod m, HandP cs p (r.fdiv m) t, ?_, (N r).1, (N r).2, cs, p, r.fdiv m, t, h0, rfl⟩
    unfold P2 HandP
    simp! [ev_ixS, ev_setI, ix4_1, ix4_2, ix4_3, hr, M, D]
  · have d1 : pMod (.int (t + 1)) (.int 2147483587) = _ := pmo_ii (by decide)
    generalize (t + 1).fmod 2147483587 = t2 at d1
    obtain ⟨x, hx⟩ := mixed_ev t2 p
    refine ⟨x.fmod m, HandP cs p r t2, ?_, (N x).1, (N x).2, cs, p, r, t2, h0, rfl⟩
    unfold P2 HandP
    simp! [ev_ixS, ev_setI, ix4_1, ix4_2, ix4_3, hr, d1, hx, M]
theorem take_ev {o : PV} (h : Hand o) {m : Int} (hm : 0 < m) (hb : Bd 40 m) : ∃ r o', F__law_take [o, .int m] = .ret (.int r) [o'] ∧ 0 ≤ r ∧ r < m ∧ Hand o' := by
  obtain ⟨cs, p, r, t, hp, rfl⟩ := h
  have M : ∀ x : Int, pMod (.int x) (.int m) = some (.int (x.fmod m)) := fun x => pmo_ii (by omega)
  have N : ∀ x : Int, 0 ≤ x.fmod m ∧ x.fmod m < m := fun x => ⟨Int.fmod_nonneg_of_pos x hm, Int.fmod_lt_of_pos x hm⟩
  have E : F__law_take [HandP cs p r t, .int m] = goRun [true, false] (B__law_take [.own (HandP cs p r t), .v (.int m), .no, .no]) := rfl
  rw [E]
  by_cases h1 : r = 0
  · by_cases h2 : p < cs.length
    · obtain ⟨c, hc⟩ := at_cell hp h2
      by_cases h3 : c < 1000000000000000000
      · have d1 : pMod (.int c) (.int 2147483647) = _ := pmo_ii (by decide)
        generalize c.fmod 2147483647 = u at d1
        obtain ⟨x, hx⟩ := mixed_ev u (p + 1)
        refine ⟨x.fmod m, HandP cs (p + 1) r t, ?_, (N x).1, (N x).2, cs, p + 1, r, t, by omega, rfl⟩
        unfold B__law_take HandP
        simp! [ev_ixS, ev_setI, ix4_1, ix4_2, ix4_3, h1, h2, hc, h3, pe_ii, p1018, d1, hx, M, List.length_map]
      · have := part2 (cs := cs) (p := p + 1) (r := c) (t := t) (.v (.int c)) (by omega) hm hb
        obtain ⟨x, o', hx, z⟩ := this
        refine ⟨x, o', ?_, z⟩
        rw [← hx]
        unfold B__law_take HandP
        simp! [ev_ixS, ev_setI, ix4_1, ix4_2, ix4_3, h1, h2, hc, h3, pe_ii, p1018, M, List.length_map]
    · obtain ⟨x, o', hx, z⟩ := part2 (cs := cs) (p := p) (r := r) (t := t) .no hp hm hb
      refine ⟨x, o', ?_, z⟩
      rw [← hx]
      unfold B__law_take HandP
      simp! [ev_ixS, ev_setI, ix4_1, ix4_2, ix4_3, h1, h2, pe_ii, M, List.length_map]
  · obtain ⟨x, o', hx, z⟩ := part2 (cs := cs) (p := p) (r := r) (t := t) .no hp hm hb
    refine ⟨x, o', ?_, z⟩
    rw [← hx]
    unfold B__law_take HandP
    simp! [ev_ixS, ev_setI, ix4_1, ix4_2, ix4_3, h1, pe_ii, M, List.length_map]
end K01
end

section
set_option Elab.async false
set_option linter.all false
set_option maxRecDepth 100000
set_option maxHeartbeats 4000000
set_option autoImplicit false
set_option exponentiation.threshold 2000
namespace K01
open PySem PySem.Spec PyProof.Rows L2 PL
local macro_rules | `(tactic| simp! [$l:simpLemma,*]) => `(tactic| simp (config := { decide := false, zeta := false }) only [ev_ok, ev_exc, ev_bad, ev_okS, ev_excS, ev_badS, ev_var, ev_v, ev_c, ev_op, ev_un, ev_some, ev_ct, ev_cf, ev_chain, ev_nil, ev_cons, ev_tup, ev_lst, ev_tru, ev_tsome, ev_bl, ev_no, goB_t, goB_f, ev_an, ev_oo, goT_s, ev_and, ev_or, ev_not, ev_if, ev_call, ev_fmt, ev_asg, ev_asgO, ev_asgG, ev_gN, ev_gsN, ev_gsC, ev_gTp, ev_par, ev_drop, ev_ret, ev_retO, ev_pass, ev_seq, goS_nx, goS_rt, goS_ro, goS_exc, goS_bk, goS_ct, ev_sif, ev_raise, ev_xf, ev_for, ev_while, ev_iseq, ev_iarg, ev_lsome, ev_callF, ev_callD, ev_call0, ev_callO, ev_bnil, ev_bval, ev_bown, ev_callE, goA_s, ev_callOE, goAO_s, goP_s, goF_ret, goF_exc, goFO_reo, goFO_exc, co_nil, co_val, co_own, co_go, co_map, pu_nil, pu_val, pu_own, oa_nil, oa_val, oa_own, ix_nil, ix_val, ix_own, ev_run, goO_s, gr_nx, gr_rt, gr_ro, gr_exc, ow_nil, ow_f, ow_t, sl_nil, sl_f, sl_t, rp_s, rp_0,
  isi_int_int, isi_int_bool, isi_int_tup, isi_int_lst, isi_int_str, isi_bl_int, isi_bl_bool, isi_bl_tup, isi_bl_lst, isi_bl_str, isi_tup_int, isi_tup_bool, isi_tup_tup, isi_tup_lst, isi_tup_str, isi_lst_int, isi_lst_bool, isi_lst_tup, isi_lst_lst, isi_lst_str, isi_str_int, isi_str_bool, isi_str_tup, isi_str_lst, isi_str_str, isi_non_int, isi_non_bool, isi_non_tup, isi_non_lst, isi_non_str,
  pt_bl, pt_int, pt_non, pt_tup, pt_lst, pc_ii, pa_ii, psb_ii, pn_i, pab_i, pi_i, pg_ii, pl_l, pl_t, pl_s, at_0, at_1, at_2, at_3, atl_0, atl_1, atl_2, atl_3,
  List.cons_append, List.nil_append, List.append_nil, List.map_cons, List.map_nil, List.length_cons, List.length_nil, List.getElem?_cons_zero, List.getElem?_cons_succ, List.set_cons_zero, List.set_cons_succ, Nat.reduceAdd, Nat.reduceSub, Nat.reduceLeDiff, Nat.zero_add, Nat.reduceEqDiff, Nat.reduceLT, ↓reduceIte, Int.cast_ofNat_Int, Int.natCast_zero, Int.natCast_one, Int.reduceEq, Int.reduceLT, Int.reduceLE, Int.reduceGT, eq_self, goF_ret, goR_ret, decide_true, decide_false, if_true, Bool.not_true, Bool.not_false, Bool.true_and, Bool.and_true, List.contains_nil, List.zip_cons_cons, List.zip_nil_left, List.reverse_cons, List.reverse_nil, $l,*])
theorem ev_app (i : Nat) (f : EF) (ρ : PEnv) : sApp i f ρ = match ρ[i]? with
  | some (.own (.lst _)) => (f ρ).bindS fun p ρ1 => match ρ1[i]? with
    | some (.own (.lst xs)) => goB (decide (xs.length < 100000)) (.nx (ρ1.set i (.own (.lst (xs ++ [p]))))) .bad
    | _ => .bad
  | _ => .bad := rfl
theorem ev_own (p : PV) (i : Nat) (ρ : PEnv) : goV (some (.own p)) i ρ = .ok p (ρ.set i (.v p)) := rfl
theorem hand_loop (S : PV) : ∀ (l cs : List Int) (t : Int) (s : Slot), cs.length + l.length ≤ 1000 → ∃ cs' t' s', forL (gN 3) (sSeq (sAsg 1 (eOp pMod (eCall pInt (aCons (eOp pAddA (eOp pMul (eVar 1) (eC (.int 1021))) (eCall pInt (aCons (eVar 3) (aNil)))) (aNil))) (eC (.int 2147483587)))) (sApp 2 (eCall pAbs (aCons (eCall pInt (aCons (eVar 3) (aNil))) (aNil))))) (l.map PV.int) [.v S, .v (.int t), .own (.lst (cs.map PV.int)), s] = .nx [.v S, .v (.int t'), .own (.lst (List.map PV.int cs')), s']
  | [], cs, t, s, _ => ⟨cs, t, s, rfl⟩
  | i :: l, cs, t, s, h => by
    have m1 := pm_r (i := t) (j := 1021) (by decide)
    have d1 : pMod (.int (t * 1021 + i)) (.int 2147483587) = _ := pmo_ii (by decide)
    generalize (t * 1021 + i).fmod 2147483587 = u at d1
    have g : decide (cs.length < 100000) = true := by simp only [List.length_cons] at h; simp only [decide_eq_true_eq]; omega
    obtain ⟨cs', t', s', e⟩ := hand_loop S l (cs ++ [(i.natAbs : Int)]) u (.v (.int i)) (by simp only [List.length_append, List.length_cons, List.length_nil] at h ⊢; omega)
    refine ⟨cs', t', s', ?_⟩
    rw [List.map_cons, ev_flN]
    simp! [m1, d1, ev_app, g, List.length_map, goL_nx]
    rw [List.map_append] at e
    exact e
theorem hand_ev (ns : List Int) (h : ns.length ≤ 63) : ∃ o, F__law_hand [.scr (ns.map PV.int)] = .reo o [] ∧ Hand o := by
  unfold F__law_hand B__law_hand
  obtain ⟨cs', t', s', e⟩ := hand_loop (.scr (ns.map PV.int)) ns [] (ns.length + 53) .no (by simp; omega)
  refine ⟨HandP cs' 0 0 t', ?_, cs', 0, 0, t', Int.le_refl _, rfl⟩
  simp! [List.length_map]
  rw [List.map_nil] at e
  rw [e]
  simp! [ev_own]
  rfl
/-! a drawn number -/
theorem p109 : pPow (.int 10) (.int 9) = some (.int 1000000000) := by kernel_rfl
theorem num_loop : ∀ (js : List Int) (o : PV) (k T : Int) (n : Nat) (s : Slot), Hand o → T.natAbs < 10 ^ (9 * n) → n + js.length ≤ 4 → ∃ o' T' s', forL (gN 3) (sAsg 2 (eOp pAddA (eOp pMul (eVar 2) (eOp pPow (eC (.int 10)) (eC (.int 9)))) (eCallF [true, false] F__law_take (bOwn 0 (bVal (eOp pPow (eC (.int 10)) (eC (.int 9))) (bNil)))))) (js.map PV.int) [.own o, .v (.int k), .v (.int T), s] = .nx [.own o', .v (.int k), .v (.int T'), s'] ∧ Hand o' ∧ T'.natAbs < 10 ^ (9 * (n + js.length))
  | [], o, k, T, n, s, h, hT, _ => ⟨o, T, s, rfl, h, hT⟩
  | j :: js, o, k, T, n, s, h, hT, hn => by
    obtain ⟨x, o1, hx, x0, x1, h1⟩ := take_ev h (m := 1000000000) (by decide) (by unfold Bd; decide)
    have m1 := pm_r (i := T) (j := 1000000000) (by decide)
    have hT' : (T * 1000000000 + x).natAbs < 10 ^ (9 * (n + 1)) := by
      rw [Nat.mul_add, Nat.pow_add]
      have : (T * 1000000000).natAbs = T.natAbs * 1000000000 := by rw [Int.natAbs_mul]; rfl
      have := Int.natAbs_add_le (T * 1000000000) x
      have h3 : 10 ^ (9 * 1) = 1000000000 := by decide
      rw [h3]
      have h4 : T.natAbs + 1 ≤ 10 ^ (9 * n) := hT
      have h5 := Nat.mul_le_mul_right 1000000000 h4
      omega
    obtain ⟨o', T', s', e, h2, h3⟩ := num_loop js o1 k (T * 1000000000 + x) (n + 1) (.v (.int j)) h1 hT' (by simp only [List.length_cons] at hn; omega)
    refine ⟨o', T', s', ?_, h2, ?_⟩
    · rw [List.map_cons, ev_flN]
      simp! [p109, m1, hx, goL_nx]
      exact e
    · simpa [Nat.add_assoc, Nat.add_comm 1] using h3
theorem number_ev {o : PV} (h : Hand o) : ∃ i o', F__law_number [o] = .ret (.int i) [o'] ∧ Bd 124 i ∧ Hand o' := by
  obtain ⟨k, o1, hk, k0, k1, h1⟩ := take_ev h (m := 9) (by decide) (by unfold Bd; decide)
  unfold F__law_number B__law_number
  by_cases c : k < 6
  · obtain ⟨x, o2, hx, x0, x1, h2⟩ := take_ev h1 (m := 25) (by decide) (by unfold Bd; decide)
    refine ⟨x - 12, o2, ?_, ?_, h2⟩
    · simp! [hk, hx, c]
    · unfold Bd
      have : (x - 12).natAbs < 100 := by omega
      exact Nat.lt_trans this (by decide)
  · have g1 : rng1 [.int 1] = some (List.map PV.int [0]) := by kernel_rfl
    have g4 : rng1 [.int 4] = some (List.map PV.int [0, 1, 2, 3]) := by kernel_rfl
    have fin : ∀ (T y : Int), T.natAbs < 10 ^ 36 → 0 ≤ y → y < 2 → Bd 124 (T * (1 - 2 * y)) := by
      intro T y hT y0 y1
      have h3 : (1 - 2 * y).natAbs = 1 := by omega
      unfold Bd
      rw [Int.natAbs_mul, h3, Nat.mul_one]
      exact Nat.lt_trans hT (by decide)
    by_cases c2 : k < 8
    · obtain ⟨o2, T, s', e, h2, hT⟩ := num_loop [0] o1 k 0 0 .no h1 (by decide) (by decide)
      simp only [List.map_cons, List.map_nil] at e g1 g4
      obtain ⟨y, o3, hy, y0, y1, h3⟩ := take_ev h2 (m := 2) (by decide) (by unfold Bd; decide)
      have m1 : pMul (.int 2) (.int y) = _ := pm_l (by decide)
      have m2 : pMul (.int T) (.int (1 - 2 * y)) = _ := pm_r (by omega)
      refine ⟨T * (1 - 2 * y), o3, ?_, fin T y (Nat.lt_trans hT (by decide)) y0 y1, h3⟩
      simp! [hk, c, c2, g1, e, hy, m1, m2]
    · obtain ⟨o2, T, s', e, h2, hT⟩ := num_loop [0, 1, 2, 3] o1 k 0 0 .no h1 (by decide) (by decide)
      simp only [List.map_cons, List.map_nil] at e g1 g4
      obtain ⟨y, o3, hy, y0, y1, h3⟩ := take_ev h2 (m := 2) (by decide) (by unfold Bd; decide)
      have m1 : pMul (.int 2) (.int y) = _ := pm_l (by decide)
      have m2 : pMul (.int T) (.int (1 - 2 * y)) = _ := pm_r (by omega)
      refine ⟨T * (1 - 2 * y), o3, ?_, fin T y hT y0 y1, h3⟩
      simp! [hk, c, c2, g4, e, hy, m1, m2]
/-! a thing that is near a ratio -/
theorem isr_3 (p q r : PV) : F_is_ratio [.tup [p, q, r]] = .ret (.bl false) [] := by
  unfold F_is_ratio B_is_ratio
  simp! [pne_ii]
theorem isr_int (i : Int) : F_is_ratio [.int i] = .ret (.bl false) [] := by
  unfold F_is_ratio B_is_ratio
  simp! []
theorem isr_lst (l : List PV) : F_is_ratio [.lst l] = .ret (.bl false) [] := by
  unfold F_is_ratio B_is_ratio
  simp! []
theorem isr_bl (l : Bool) : F_is_ratio [.bl l] = .ret (.bl false) [] := by
  unfold F_is_ratio B_is_ratio
  simp! []
theorem isr_str (l : Str) : F_is_ratio [.str l] = .ret (.bl false) [] := by
  unfold F_is_ratio B_is_ratio
  simp! []
theorem isr_non : F_is_ratio [.non] = .ret (.bl false) [] := by
  unfold F_is_ratio B_is_ratio
  simp! []
theorem isr_tb (t : Int) (b : Bool) : F_is_ratio [.tup [.int t, .bl b]] = .ret (.bl false) [] := by
  unfold F_is_ratio B_is_ratio
  simp! [pne_ii, whole_0, whole_bl, goR_ret]
theorem odd_ev {o : PV} (h : Hand o) {t b : Int} (hb : 0 < b) (hg : Nat.gcd t.natAbs b.natAbs = 1) (h1 : Bd 300 t) (h2 : Bd 300 b) : ∃ p o', F__law_odd [o, R t b] = .ret p [o'] ∧ F_is_ratio [p] = .ret (.bl false) [] ∧ Hand o' := by
  obtain ⟨k, o1, hk, k0, k1, h3⟩ := take_ev h (m := 7) (by decide) (by unfold Bd; decide)
  unfold F__law_odd B__law_odd
  have m1 := pm_r (i := t) (j := 3) (by decide)
  have m2 := pm_r (i := b) (j := 3) (by decide)
  have kk : k = 0 ∨ k = 1 ∨ k = 2 ∨ k = 3 ∨ k = 4 ∨ k = 5 ∨ k = 6 := by omega
  rcases kk with rfl | rfl | rfl | rfl | rfl | rfl | rfl
  · exact ⟨_, o1, by simp! [hk, pe_ii, m1, m2]; rfl, isr_lst _, h3⟩
  · refine ⟨R (t * 3) (b * 3), o1, by simp! [hk, pe_ii, m1, m2], ?_, h3⟩
    rw [isr_pair]
    have e : Nat.gcd (t * 3).natAbs (b * 3).natAbs = 3 := by
      rw [Int.natAbs_mul, Int.natAbs_mul, show (3 : Int).natAbs = 3 from rfl, Nat.gcd_mul_right, hg]
    unfold isr
    rw [decide_eq_false (p := Nat.gcd (t * 3).natAbs (b * 3).natAbs = 1) (by rw [e]; decide), Bool.and_false]
  · refine ⟨R (-t) (-b), o1, by simp! [hk, pe_ii, m1, m2], ?_, h3⟩
    rw [isr_pair]
    unfold isr
    rw [decide_eq_false (by omega)]
    rfl
  · exact ⟨_, o1, by simp! [hk, pe_ii, m1, m2]; rfl, isr_3 _ _ _, h3⟩
  · exact ⟨_, o1, by simp! [hk, pe_ii, m1, m2]; rfl, isr_tb _ _, h3⟩
  · exact ⟨_, o1, by simp! [hk, pe_ii, m1, m2]; rfl, isr_int _, h3⟩
  · refine ⟨R t 0, o1, by simp! [hk, pe_ii, m1, m2], ?_, h3⟩
    rw [isr_pair]
    rfl
/-! tuples of whole numbers -/
theorem tup_int (n : Nat) (i : Int) : R__law_tuples (n + 1) [.int i] = .ret (.bl true) [] := by
  show runF [false] 2 (B__law_tuples (R__law_tuples n)) _ = _
  unfold B__law_tuples
  simp! [ev_not]
theorem ev_lc (vs : List Nat) (fi : IF) (g : GF) (t : TF) (e : EF) (ρ : PEnv) : eLc vs fi g t e ρ = (fi ρ).bind fun ps ρ1 =>
  goB (noOwn ρ1 vs && decide (ps.length ≤ 100000)) (match lcL vs g t e ps (wipeE ρ1 vs) with
    | .ok ys ρ2 => .ok (.lst ys) (backE ρ2 ρ1 vs)
    | _ => .bad) .bad := rfl
theorem lc_nil (vs : List Nat) (g : GF) (t : TF) (e : EF) (ρ : PEnv) : lcL vs g t e [] ρ = .ok [] ρ := rfl
theorem lc_cons (vs : List Nat) (g : GF) (t : TF) (e : EF) (p : PV) (ps : List PV) (ρ : PEnv) : lcL vs g t e (p :: ps) ρ = match g p ρ with
    | none => .bad
    | some ρ1 => match t ρ1 with
      | .ok true ρ2 => match e ρ2 with
        | .ok y ρ3 => match lcL vs g t e ps (wipeE ρ3 vs) with
          | .ok ys ρ4 => .ok (y :: ys) ρ4
          | _ => .bad
        | _ => .bad
      | .ok false ρ2 => lcL vs g t e ps (wipeE ρ2 vs)
      | _ => .bad := rfl
theorem tup_ev (t b : Int) : F__law_tuples [R t b] = .ret (.bl true) [] := by
  show runF [false] 2 (B__law_tuples (R__law_tuples 3)) _ = _
  unfold B__law_tuples
  have e := tup_int 2
  have n1 : ∀ s : Slot, noOwn [s, .no] [1] = true := fun _ => rfl
  simp! [ev_not, ev_lc, lc_nil, lc_cons, e, n1, wipeE, backE, List.isEmpty_nil]
end K01
end

section
set_option Elab.async false
set_option linter.all false
set_option maxRecDepth 100000
set_option maxHeartbeats 4000000
set_option autoImplicit false
set_option exponentiation.threshold 2000
namespace K01
open PySem PySem.Spec PyProof.Rows L2 PL
local macro_rules | `(tactic| simp! [$l:simpLemma,*]) => `(tactic| simp (config := { decide := false, zeta := false }) only [ev_ok, ev_exc, ev_bad, ev_okS, ev_excS, ev_badS, ev_var, ev_v, ev_c, ev_op, ev_un, ev_some, ev_ct, ev_cf, ev_chain, ev_nil, ev_cons, ev_tup, ev_lst, ev_tru, ev_tsome, ev_bl, ev_no, goB_t, goB_f, ev_an, ev_oo, goT_s, ev_and, ev_or, ev_not, ev_if, ev_call, ev_fmt, ev_asg, ev_asgO, ev_asgG, ev_gN, ev_gsN, ev_gsC, ev_gTp, ev_par, ev_drop, ev_ret, ev_retO, ev_pass, ev_seq, goS_nx, goS_rt, goS_ro, goS_exc, goS_bk, goS_ct, ev_sif, ev_raise, ev_xf, ev_for, ev_while, ev_iseq, ev_iarg, ev_lsome, ev_callF, ev_callD, ev_call0, ev_callO, ev_bnil, ev_bval, ev_bown, ev_callE, goA_s, ev_callOE, goAO_s, goP_s, goF_ret, goF_exc, goFO_reo, goFO_exc, co_nil, co_val, co_own, co_go, co_map, pu_nil, pu_val, pu_own, oa_nil, oa_val, oa_own, ix_nil, ix_val, ix_own, ev_run, goO_s, gr_nx, gr_rt, gr_ro, gr_exc, ow_nil, ow_f, ow_t, sl_nil, sl_f, sl_t, rp_s, rp_0,
  isi_int_int, isi_int_bool, isi_int_tup, isi_int_lst, isi_int_str, isi_bl_int, isi_bl_bool, isi_bl_tup, isi_bl_lst, isi_bl_str, isi_tup_int, isi_tup_bool, isi_tup_tup, isi_tup_lst, isi_tup_str, isi_lst_int, isi_lst_bool, isi_lst_tup, isi_lst_lst, isi_lst_str, isi_str_int, isi_str_bool, isi_str_tup, isi_str_lst, isi_str_str, isi_non_int, isi_non_bool, isi_non_tup, isi_non_lst, isi_non_str,
  pt_bl, pt_int, pt_non, pt_tup, pt_lst, pc_ii, pa_ii, psb_ii, pn_i, pab_i, pi_i, pg_ii, pl_l, pl_t, pl_s, at_0, at_1, at_2, at_3, atl_0, atl_1, atl_2, atl_3,
  List.cons_append, List.nil_append, List.append_nil, List.map_cons, List.map_nil, List.length_cons, List.length_nil, List.getElem?_cons_zero, List.getElem?_cons_succ, List.set_cons_zero, List.set_cons_succ, Nat.reduceAdd, Nat.reduceSub, Nat.reduceLeDiff, Nat.zero_add, Nat.reduceEqDiff, Nat.reduceLT, ↓reduceIte, Int.cast_ofNat_Int, Int.natCast_zero, Int.natCast_one, Int.reduceEq, Int.reduceLT, Int.reduceLE, Int.reduceGT, eq_self, goF_ret, goR_ret, decide_true, decide_false, if_true, Bool.not_true, Bool.not_false, Bool.true_and, Bool.and_true, List.contains_nil, List.zip_cons_cons, List.zip_nil_left, List.reverse_cons, List.reverse_nil, $l,*])
abbrev L0 : SF := (sSeq (sAsg 4 (eCallF [true] F__law_number (bOwn 1 (bNil)))) (sSeq (sAsg 5 (eCallF [true] F__law_number (bOwn 1 (bNil)))) (sSeq (sAsg 6 (eIf (tBl (eOp pEq (eVar 5) (eC (.int 0)))) (eC (.str "refused bottom")) (eCallF [false, false] F__law_ratio (bVal (eVar 4) (bVal (eVar 5) (bNil)))))) (sSeq (sIf (tOo (tBl (eOp pNe (eCallF [false, false] F__law_try (bVal (eVar 4) (bVal (eVar 5) (bNil)))) (eVar 6))) (tBl (eOp pNe (eCallD [false, false] F_make_ratio [PV.int 1] (bVal (eVar 4) (bNil))) (eTup (aCons (eVar 4) (aCons (eC (.int 1)) (aNil))))))) (sRet (eC (.bl false))) (sPass)) (sApp 2 (eCallF [false, false] F__law_ratio (bVal (eVar 4) (bVal (eIf (tTru (eVar 5)) (eVar 5) (eC (.int 7))) (bNil)))))))))
abbrev L1 : SF := (sSeq (sIf (tOo (tBl (eOp pNot (eCallF [false] F_is_ratio (bVal (eVar 7) (bNil))) (eC (.bl true)))) (tOo (tBl (eOp pNot (eCallF [false] F_is_ratio (bVal (eCallF [true, false] F__law_odd (bOwn 1 (bVal (eVar 7) (bNil)))) (bNil))) (eC (.bl false)))) (tOo (tNo (tTru (eCallF [false] F__law_bounds (bVal (eVar 7) (bNil))))) (tNo (tTru (eCallF [false] F__law_tuples (bVal (eCallF [false, false] F_plus (bVal (eVar 7) (bVal (eIxS 2 (eC (.int 0))) (bNil)))) (bNil)))))))) (sRet (eC (.bl false))) (sPass)) (sFor (iSeq (eVar 2)) (gN 8) (sIf (tNo (tTru (eCallF [false, false] F__law_pair (bVal (eVar 7) (bVal (eVar 8) (bNil)))))) (sRet (eC (.bl false))) (sPass))))
abbrev L2 : SF := (sIf (tNo (tTru (eCallF [false, false] F__law_pair (bVal (eVar 7) (bVal (eVar 8) (bNil)))))) (sRet (eC (.bl false))) (sPass))
abbrev L3 : SF := (sFor (iSeq (eLst (aCons (eTup (aCons (eVar 9) (aCons (eC (.int 1)) (aNil)))) (aCons (eTup (aCons (eOp pAddA (eVar 9) (eC (.int 1))) (aCons (eC (.int 1)) (aNil)))) (aCons (eTup (aCons (eC (.int 1)) (aCons (eVar 9) (aNil)))) (aCons (eTup (aCons (eC (.int 1)) (aCons (eOp pAddA (eVar 9) (eC (.int 1))) (aNil)))) (aCons (eTup (aCons (eUn pNeg (eVar 9)) (aCons (eC (.int 1)) (aNil)))) (aCons (eTup (aCons (eOp pSub (eUn pNeg (eVar 9)) (eC (.int 1))) (aCons (eC (.int 1)) (aNil)))) (aCons (eTup (aCons (eC (.int 0)) (aCons (eC (.int 1)) (aNil)))) (aNil)))))))))) (gN 7) (sIf (tNo (tTru (eCallF [false] F__law_bounds (bVal (eVar 7) (bNil))))) (sRet (eC (.bl false))) (sPass)))
abbrev P3 : SF := (sSeq (sAsg 10 (eOp pIx (eLst (aCons (eC (.bl true)) (aCons (eC .non) (aCons (eC (.str "3")) (aCons (eTup (aCons (eC (.int 1)) (aCons (eC (.int 1)) (aNil)))) (aCons (eLst (aCons (eC (.int 2)) (aNil))) (aNil))))))) (eCallF [true, false] F__law_take (bOwn 1 (bVal (eC (.int 5)) (bNil)))))) (sSeq (sIf (tOo (tBl (eOp pNe (eCallF [false, false] F__law_try (bVal (eVar 10) (bVal (eC (.int 0)) (bNil)))) (eC (.str "refused top")))) (tBl (eOp pNe (eCallF [false, false] F__law_try (bVal (eOp pIx (eIxS 2 (eC (.int 0))) (eC (.int 0))) (bVal (eVar 10) (bNil)))) (eC (.str "refused bottom"))))) (sRet (eC (.bl false))) (sPass)) (sSeq (sIf (tOo (tNo (tTru (eCallF [false, false] F__law_told (bVal (eCallF [false] F_is_arm_size (bVal (eVar 10) (bNil))) (bVal (eOp pEq (eVar 10) (eTup (aCons (eC (.int 1)) (aCons (eC (.int 1)) (aNil))))) (bNil)))))) (tOo (tBl (eOp pNot (eCallD [false, false, false] F_is_whole [PV.non, PV.non] (bVal (eVar 10) (bNil))) (eC (.bl false)))) (tNo (tTru (eCallF [false, false] F__law_told (bVal (eCallF [false] F_is_ratio (bVal (eVar 10) (bNil))) (bVal (eOp pEq (eVar 10) (eTup (aCons (eC (.int 1)) (aCons (eC (.int 1)) (aNil))))) (bNil)))))))) (sRet (eC (.bl false))) (sPass)) (sSeq (sAsg 11 (eOp pIx (eIxS 2 (eC (.int 0))) (eC (.int 0)))) (sSeq (sAsg 12 (eOp pIx (eIxS 2 (eC (.int 1))) (eC (.int 0)))) (sSeq (sAsg 13 (eOp pIx (eIxS 2 (eC (.int 2))) (eC (.int 0)))) (sSeq (sIf (tOo (tBl (eOp pNot (eCallD [false, false, false] F_is_whole [PV.non, PV.non] (bVal (eVar 11) (bNil))) (eC (.bl true)))) (tNo (tTru (eCallF [false, false] F__law_told (bVal (eCallD [false, false, false] F_is_whole [PV.non] (bVal (eVar 11) (bVal (eVar 12) (bNil)))) (bVal (eOp (pCmp fun i j => decide (j ≤ i)) (eVar 11) (eVar 12)) (bNil))))))) (sRet (eC (.bl false))) (sPass)) (sSeq (sIf (tOo (tNo (tTru (eCallF [false, false] F__law_told (bVal (eCallK [false, false, false] 1 1 F_is_whole (fun vs zs => vs ++ ([.non] ++ zs)) (aCons (eVar 11) (aNil)) (aCons (eVar 13) (aNil))) (bVal (eOp (pCmp fun i j => decide (i ≤ j)) (eVar 11) (eVar 13)) (bNil)))))) (tBl (eOp pNot (eCallF [false, false, false] F_is_whole (bVal (eVar 11) (bVal (eVar 11) (bVal (eVar 11) (bNil))))) (eC (.bl true))))) (sRet (eC (.bl false))) (sPass)) (sSeq (sIf (tNo (tTru (eCallF [false, false] F__law_told (bVal (eCallF [false, false, false] F_is_whole (bVal (eVar 11) (bVal (eVar 12) (bVal (eVar 13) (bNil))))) (bVal (eChain (pCmp fun i j => decide (i ≤ j)) (pCmp fun i j => decide (i ≤ j)) (eVar 12) (eVar 11) (eVar 13)) (bNil)))))) (sRet (eC (.bl false))) (sPass)) (sSeq (sIf (tOo (tBl (eOp pNe (eCallF [false] F_sum_of (bVal (eVar 2) (bNil))) (eCallF [false] F__law_sum (bVal (eVar 2) (bNil))))) (tBl (eOp pNe (eCallF [false] F_sum_of (bVal (eCall pTuple (aCons (eOp pAddA (eVar 2) (eVar 2)) (aNil))) (bNil))) (eCallF [false] F__law_sum (bVal (eOp pAddA (eVar 2) (eVar 2)) (bNil)))))) (sRet (eC (.bl false))) (sPass)) (sSeq (sAsg 14 (eCallF [false] F_least_of (bVal (eVar 2) (bNil)))) (sSeq (sAsg 15 (eCallF [false] F_greatest_of (bVal (eCall pTuple (aCons (eVar 2) (aNil))) (bNil)))) (sSeq (sIf (tOo (tBl (eOp pNotIn (eVar 14) (eVar 2))) (tBl (eOp pNotIn (eVar 15) (eVar 2)))) (sRet (eC (.bl false))) (sPass)) (sRet (eNot (eLc [7] (iSeq (eVar 2)) (gN 7) (tOo (tTru (eCallF [false, false] F__law_less (bVal (eVar 7) (bVal (eVar 14) (bNil))))) (tTru (eCallF [false, false] F__law_less (bVal (eVar 15) (bVal (eVar 7) (bNil)))))) (eC (.int 1))))))))))))))))))
theorem pnot_bb (a b : Bool) : pNot (.bl a) (.bl b) = some (.bl (!decide (a = b))) := rfl
def nz7 (b : Int) : Int := if b = 0 then 7 else b
theorem nz7_ne (b : Int) : nz7 b ≠ 0 := by unfold nz7; split <;> omega
def rowQ (t b : Int) : Q := (rt t (nz7 b), rb t (nz7 b))
theorem rowQ_ok {t b : Int} (h1 : Bd 124 t) (h2 : Bd 124 b) : Ok 124 (rowQ t b) := by
  have h3 : Bd 124 (nz7 b) := by unfold nz7; split; (unfold Bd; decide); exact h2
  exact ⟨rb_pos (nz7_ne b), rt_bd (nz7_ne b) h1, rb_bd (nz7_ne b) h3⟩
theorem rowQ_gcd (t b : Int) : Nat.gcd (rowQ t b).1.natAbs (rowQ t b).2.natAbs = 1 := rd_gcd (nz7_ne b)
theorem make1 (t : Int) : F_make_ratio [.int t, .int 1] = .ret (R t 1) [] := by
  rw [make_ev (by decide) (by unfold Bd; decide)]
  have hs : sg t 1 = 1 := by unfold sg; simp
  have e1 : rt t 1 = t := by have := rd_t t 1; rw [hs] at this; omega
  have e2 : rb t 1 = 1 := by have := rd_b t 1; rw [hs] at this; omega
  unfold rd
  rw [e1, e2]
theorem rb_sok : PyData.strOk ("refused " ++ ("bottom" : Str)) = true := sok_app (sok_of _) (sok_of _)
theorem rb_sok2 : PyData.strOk ("refused bottom" : Str) = true := sok_of _
theorem rt_sok2 : PyData.strOk ("refused top" : Str) = true := sok_of _
theorem rb_eq : ("refused " ++ ("bottom" : Str) : Str) = "refused bottom" := by decide +kernel
theorem rt_eq : ("refused " ++ ("top" : Str) : Str) = "refused top" := by decide +kernel
theorem lb : ("bottom" : Str).length ≤ 1000 := by decide +kernel
theorem lt : ("top" : Str).length ≤ 1000 := by decide +kernel
theorem turn {o : PV} (h : Hand o) (S : PV) (rows : List PV) (hr : rows.length ≤ 10) (j : PV) (s4 s5 s6 : Slot) : ∃ t b o' s4' s5' s6', L0 [.v S, .own o, .own (.lst rows), .v j, s4, s5, s6, .no, .no, .no, .no, .no, .no, .no, .no, .no] = .nx [.v S, .own o', .own (.lst (rows ++ [RQ (rowQ t b)])), .v j, s4', s5', s6', .no, .no, .no, .no, .no, .no, .no, .no, .no] ∧ Bd 124 t ∧ Bd 124 b ∧ Hand o' := by
  obtain ⟨t, o1, ht, bt, h1⟩ := number_ev h
  obtain ⟨b, o2, hb, bb, h2⟩ := number_ev h1
  have g : decide (rows.length < 100000) = true := by simp only [decide_eq_true_eq]; omega
  have m1 := make1 t
  have p1 : pNe (R t 1) (R t 1) = some (.bl false) := by rw [pne_rr]; simp
  by_cases c : b = 0
  · have c1 : decide (b = 0) = true := decide_eq_true c
    have c2 : (b != 0) = false := by simp [c]
    have z : nz7 b = 7 := if_pos c
    have l1 : F__law_ratio [.int t, .int 7] = .ret (RQ (rowQ t b)) [] := by
      rw [lrat_ev (by decide) (by unfold Bd; decide)]; unfold rowQ RQ rd; rw [z]
    have l2 : F__law_try [.int t, .int b] = .ret (.str "refused bottom") [] := by
      rw [c, try_bad (make_zero t) lb, rb_eq]
    have p2 := pne_ss rb_sok2 rb_sok2
    refine ⟨t, b, o2, .v (.int t), .v (.int b), .v (.str "refused bottom"), ?_, bt, bb, h2⟩
    unfold L0
    simp! [ht, hb, pe_ii, c1, c2, l1, l2, p1, p2, m1, g, ev_app, beq_self_eq_true]
  · have c1 : decide (b = 0) = false := decide_eq_false c
    have c2 : (b != 0) = true := by simp [c]
    have z : nz7 b = b := if_neg c
    have l1 : F__law_ratio [.int t, .int b] = .ret (RQ (rowQ t b)) [] := by
      rw [lrat_ev c (bb.mono (by decide))]; unfold rowQ RQ rd; rw [z]
    have l2 : F__law_try [.int t, .int b] = .ret (RQ (rowQ t b)) [] := by
      rw [try_ev c (bb.mono (by decide))]; unfold rowQ RQ rd; rw [z]
    have p2 : pNe (RQ (rowQ t b)) (RQ (rowQ t b)) = some (.bl false) := by unfold RQ; rw [pne_rr]; simp
    refine ⟨t, b, o2, .v (.int t), .v (.int b), .v (RQ (rowQ t b)), ?_, bt, bb, h2⟩
    unfold L0
    simp! [ht, hb, pe_ii, c1, c2, l1, l2, p1, p2, m1, g, ev_app, beq_self_eq_true]
/-- a row: a ratio in lowest terms -/
structure Row (q : Q) : Prop where
  ok : Ok 124 q
  gcd : Nat.gcd q.1.natAbs q.2.natAbs = 1
theorem Row.isr {q : Q} (h : Row q) : isr q.1 q.2 = true := by
  unfold K01.isr
  rw [decide_eq_true (by have := h.ok.pos; omega : 1 ≤ q.2), decide_eq_true h.gcd]; rfl
theorem pair_q {p q : Q} (h : Row p) (k : Row q) : F__law_pair [RQ p, RQ q] = .ret (.bl true) [] :=
  pair_ev h.ok.pos k.ok.pos (h.ok.top.mono (by decide)) (h.ok.bot.mono (by decide)) (k.ok.top.mono (by decide)) (k.ok.bot.mono (by decide))
theorem inner {q0 q1 q2 one : Q} (k0 : Row q0) (k1 : Row q1) (k2 : Row q2) (k : Row one) (S : PV) (o : PV) (s3 s4 s5 s6 s8 : Slot) : ∃ s8', forL (gN 8) L2 [RQ q0, RQ q1, RQ q2] [.v S, .own o, .v (.lst [RQ q0, RQ q1, RQ q2]), s3, s4, s5, s6, .v (RQ one), s8, .no, .no, .no, .no, .no, .no, .no] = .nx [.v S, .own o, .v (.lst [RQ q0, RQ q1, RQ q2]), s3, s4, s5, s6, .v (RQ one), s8', .no, .no, .no, .no, .no, .no, .no] := by
  refine ⟨.v (RQ q2), ?_⟩
  unfold L2
  simp! [ev_flN, ev_fl0, goL_nx, pair_q k k0, pair_q k k1, pair_q k k2]
theorem outer1 {q0 q1 q2 one : Q} (k0 : Row q0) (k1 : Row q1) (k2 : Row q2) (k : Row one) (S : PV) {o : PV} (h : Hand o) (s3 s4 s5 s6 s8 : Slot) : ∃ o' s8', L1 [.v S, .own o, .v (.lst [RQ q0, RQ q1, RQ q2]), s3, s4, s5, s6, .v (RQ one), s8, .no, .no, .no, .no, .no, .no, .no] = .nx [.v S, .own o', .v (.lst [RQ q0, RQ q1, RQ q2]), s3, s4, s5, s6, .v (RQ one), s8', .no, .no, .no, .no, .no, .no, .no] ∧ Hand o' := by
  obtain ⟨p, o1, hp, hq, h1⟩ := odd_ev h k.ok.pos k.gcd (k.ok.top.mono (by decide)) (k.ok.bot.mono (by decide))
  obtain ⟨s8', e⟩ := inner k0 k1 k2 k S o1 s3 s4 s5 s6 s8
  refine ⟨o1, s8', ?_, h1⟩
  unfold L1
  have i1 := isr_pair one.1 one.2
  rw [k.isr] at i1
  have b1 := bounds_ev k.isr
  have a1 := plus_q k.ok k0.ok (by decide)
  have t1 := tup_ev (addQ one q0).1 (addQ one q0).2
  simp! [i1, hp, hq, b1, a1, t1, pnot_bb, ev_ixS, e]
end K01
end

section
set_option Elab.async false
set_option linter.all false
set_option maxRecDepth 100000
set_option maxHeartbeats 4000000
set_option autoImplicit false
set_option exponentiation.threshold 2000
namespace K01
open PySem PySem.Spec PyProof.Rows L2 PL
local macro_rules | `(tactic| simp! [$l:simpLemma,*]) => `(tactic| simp (config := { decide := false, zeta := false }) only [ev_ok, ev_exc, ev_bad, ev_okS, ev_excS, ev_badS, ev_var, ev_v, ev_c, ev_op, ev_un, ev_some, ev_ct, ev_cf, ev_chain, ev_nil, ev_cons, ev_tup, ev_lst, ev_tru, ev_tsome, ev_bl, ev_no, goB_t, goB_f, ev_an, ev_oo, goT_s, ev_and, ev_or, ev_not, ev_if, ev_call, ev_fmt, ev_asg, ev_asgO, ev_asgG, ev_gN, ev_gsN, ev_gsC, ev_gTp, ev_par, ev_drop, ev_ret, ev_retO, ev_pass, ev_seq, goS_nx, goS_rt, goS_ro, goS_exc, goS_bk, goS_ct, ev_sif, ev_raise, ev_xf, ev_for, ev_while, ev_iseq, ev_iarg, ev_lsome, ev_callF, ev_callD, ev_call0, ev_callO, ev_bnil, ev_bval, ev_bown, ev_callE, goA_s, ev_callOE, goAO_s, goP_s, goF_ret, goF_exc, goFO_reo, goFO_exc, co_nil, co_val, co_own, co_go, co_map, pu_nil, pu_val, pu_own, oa_nil, oa_val, oa_own, ix_nil, ix_val, ix_own, ev_run, goO_s, gr_nx, gr_rt, gr_ro, gr_exc, ow_nil, ow_f, ow_t, sl_nil, sl_f, sl_t, rp_s, rp_0,
  isi_int_int, isi_int_bool, isi_int_tup, isi_int_lst, isi_int_str, isi_bl_int, isi_bl_bool, isi_bl_tup, isi_bl_lst, isi_bl_str, isi_tup_int, isi_tup_bool, isi_tup_tup, isi_tup_lst, isi_tup_str, isi_lst_int, isi_lst_bool, isi_lst_tup, isi_lst_lst, isi_lst_str, isi_str_int, isi_str_bool, isi_str_tup, isi_str_lst, isi_str_str, isi_non_int, isi_non_bool, isi_non_tup, isi_non_lst, isi_non_str,
  pt_bl, pt_int, pt_non, pt_tup, pt_lst, pc_ii, pa_ii, psb_ii, pn_i, pab_i, pi_i, pg_ii, pl_l, pl_t, pl_s, at_0, at_1, at_2, at_3, atl_0, atl_1, atl_2, atl_3,
  List.cons_append, List.nil_append, List.append_nil, List.map_cons, List.map_nil, List.length_cons, List.length_nil, List.getElem?_cons_zero, List.getElem?_cons_succ, List.set_cons_zero, List.set_cons_succ, Nat.reduceAdd, Nat.reduceSub, Nat.reduceLeDiff, Nat.zero_add, Nat.reduceEqDiff, Nat.reduceLT, ↓reduceIte, Int.cast_ofNat_Int, Int.natCast_zero, Int.natCast_one, Int.reduceEq, Int.reduceLT, Int.reduceLE, Int.reduceGT, eq_self, goF_ret, goR_ret, decide_true, decide_false, if_true, Bool.not_true, Bool.not_false, Bool.true_and, Bool.and_true, List.contains_nil, List.zip_cons_cons, List.zip_nil_left, List.reverse_cons, List.reverse_nil, $l,*])
theorem outer {q0 q1 q2 : Q} (k0 : Row q0) (k1 : Row q1) (k2 : Row q2) (S : PV) {o : PV} (h : Hand o) (s3 s4 s5 s6 : Slot) : ∃ o' p7 s8, forL (gN 7) L1 [RQ q0, RQ q1, RQ q2] [.v S, .own o, .v (.lst [RQ q0, RQ q1, RQ q2]), s3, s4, s5, s6, .no, .no, .no, .no, .no, .no, .no, .no, .no] = .nx [.v S, .own o', .v (.lst [RQ q0, RQ q1, RQ q2]), s3, s4, s5, s6, .v p7, s8, .no, .no, .no, .no, .no, .no, .no] ∧ Hand o' := by
  obtain ⟨o1, t1, e1, h1⟩ := outer1 k0 k1 k2 k0 S h s3 s4 s5 s6 .no
  obtain ⟨o2, t2, e2, h2⟩ := outer1 k0 k1 k2 k1 S h1 s3 s4 s5 s6 t1
  obtain ⟨o3, t3, e3, h3⟩ := outer1 k0 k1 k2 k2 S h2 s3 s4 s5 s6 t2
  refine ⟨o3, RQ q2, t3, ?_, h3⟩
  rw [ev_flN, List.set_cons_succ, List.set_cons_succ, List.set_cons_succ, List.set_cons_succ, List.set_cons_succ, List.set_cons_succ, List.set_cons_succ, List.set_cons_zero, e1, goL_nx]
  rw [ev_flN, List.set_cons_succ, List.set_cons_succ, List.set_cons_succ, List.set_cons_succ, List.set_cons_succ, List.set_cons_succ, List.set_cons_succ, List.set_cons_zero, e2, goL_nx]
  rw [ev_flN, List.set_cons_succ, List.set_cons_succ, List.set_cons_succ, List.set_cons_succ, List.set_cons_succ, List.set_cons_succ, List.set_cons_succ, List.set_cons_zero, e3, goL_nx]
  rfl
theorem bn1 (n : Int) : F__law_bounds [R n 1] = .ret (.bl true) [] := bounds_ev (by
  unfold isr
  rw [decide_eq_true (p := Nat.gcd n.natAbs (1 : Int).natAbs = 1) (Nat.gcd_one_right _)]; rfl)
theorem b1n {n : Int} (h : 1 ≤ n) : F__law_bounds [R 1 n] = .ret (.bl true) [] := bounds_ev (by
  unfold isr
  rw [decide_eq_true h, decide_eq_true (p := Nat.gcd (1 : Int).natAbs n.natAbs = 1) (Nat.gcd_one_left _)]; rfl)
theorem ends (S o X : PV) (s3 s4 s5 s6 s7 s8 : Slot) (n : Int) (hn : 1 ≤ n) : ∃ p7', L3 [.v S, .own o, .v X, s3, s4, s5, s6, s7, s8, .v (.int n), .no, .no, .no, .no, .no, .no] = .nx [.v S, .own o, .v X, s3, s4, s5, s6, .v p7', s8, .v (.int n), .no, .no, .no, .no, .no, .no] := by
  refine ⟨R 0 1, ?_⟩
  unfold L3
  have c1 := b1n hn
  have c2 := b1n (show 1 ≤ n + 1 by omega)
  simp! [ev_flN, ev_fl0, goL_nx, bn1, c1, c2]
theorem loop3 (S o X : PV) (s3 s4 s5 s6 s7 s8 : Slot) : ∃ p7', forL (gN 9) L3 [.int 1000000000000, .int LG] [.v S, .own o, .v X, s3, s4, s5, s6, s7, s8, .no, .no, .no, .no, .no, .no, .no] = .nx [.v S, .own o, .v X, s3, s4, s5, s6, .v p7', s8, .v (.int LG), .no, .no, .no, .no, .no, .no] := by
  obtain ⟨a, e1⟩ := ends S o X s3 s4 s5 s6 s7 s8 1000000000000 (by decide)
  obtain ⟨b, e2⟩ := ends S o X s3 s4 s5 s6 (.v a) s8 LG (by decide)
  refine ⟨b, ?_⟩
  rw [ev_flN, List.set_cons_succ, List.set_cons_succ, List.set_cons_succ, List.set_cons_succ, List.set_cons_succ, List.set_cons_succ, List.set_cons_succ, List.set_cons_succ, List.set_cons_succ, List.set_cons_zero, e1, goL_nx]
  rw [ev_flN, List.set_cons_succ, List.set_cons_succ, List.set_cons_succ, List.set_cons_succ, List.set_cons_succ, List.set_cons_succ, List.set_cons_succ, List.set_cons_succ, List.set_cons_succ, List.set_cons_zero, e2, goL_nx]
  rfl
/-! a thing that is no whole number -/
structure OddP (p : PV) (e : Bool) : Prop where
  whole : F_is_whole [p, .non, .non] = .ret (.bl false) []
  ratio : F_is_ratio [p] = .ret (.bl e) []
  arm : F_is_arm_size [p] = .ret (.bl e) []
  eq : pEq p (R 1 1) = some (.bl e)
theorem arm_no {p : PV} (h : F_is_ratio [p] = .ret (.bl false) []) : F_is_arm_size [p] = .ret (.bl false) [] := by
  have h1 : F_is_within_bound [p, .int 1000000000000] = .ret (.bl false) [] := by
    unfold F_is_within_bound B_is_within_bound
    simp! [h]
  have h2 : F_is_coordinate [p] = .ret (.bl false) [] := by
    unfold F_is_coordinate B_is_coordinate
    simp! [h1]
  unfold F_is_arm_size B_is_arm_size
  simp! [h2]
theorem odd_bl : OddP (.bl true) false := ⟨whole_bl _ _ _, isr_bl _, arm_no (isr_bl _), by kernel_rfl⟩
theorem odd_non : OddP .non false := ⟨whole_non _ _, isr_non, arm_no isr_non, by kernel_rfl⟩
theorem odd_str : OddP (.str "3") false := ⟨whole_str _ _ _, isr_str _, arm_no (isr_str _), by kernel_rfl⟩
theorem odd_11 : OddP (R 1 1) true := ⟨whole_tup _ _ _, by rw [isr_pair]; rfl, by rw [arm_ev]; rfl, by kernel_rfl⟩
theorem odd_lst : OddP (.lst [.int 2]) false := ⟨whole_lst _ _ _, isr_lst _, arm_no (isr_lst _), by kernel_rfl⟩
theorem make_top {p q : PV} (h : F_is_whole [p, .non, .non] = .ret (.bl false) []) : F_make_ratio [p, q] = badR "top" := by
  unfold F_make_ratio B_make_ratio badR
  simp! [h]
  rfl
theorem make_bot {t : Int} {q : PV} (h : F_is_whole [q, .non, .non] = .ret (.bl false) []) : F_make_ratio [.int t, q] = badR "bottom" := by
  unfold F_make_ratio B_make_ratio badR
  simp! [whole_0, h]
  rfl
theorem ev_callK (ms : List Bool) (n m : Nat) (F : FF) (gP : List PV → List PV → List PV) (fa fk : AF) (ρ : PEnv) : eCallK ms n m F gP fa fk ρ = (fa ρ).bind fun ps ρ1 => (fk ρ1).bind fun qs ρ2 =>
  goB (decide (ps.length = n ∧ qs.length = m)) (noExc (callE ms F ((gP ps qs).map AV.val) ρ2)) .bad := rfl
theorem noExc_ok {α : Type} (a : α) (ρ : PEnv) : noExc (.ok a ρ) = .ok a ρ := rfl
theorem in_rows {l : List Q} {r : Q} (h : r ∈ l) (hl : l.length = 3) : pNotIn (RQ r) (.lst (qs l)) = some (.bl false) := by
  match l, hl with
  | [a, b, c], _ =>
    have e : pIn (RQ r) (.lst (qs [a, b, c])) = some (.bl (((a.1 == r.1) && ((a.2 == r.2) && true)) || (((b.1 == r.1) && ((b.2 == r.2) && true)) || (((c.1 == r.1) && ((c.2 == r.2) && true)) || false)))) := by
      simp [pIn, qs, toD, toDs, SeqAt.shaped, PyData.canLay0, PyData.canLayAll0, PyData.depth, PyData.depthAll, PyData.eqv, PyData.eqvAll]
    have e2 : (((a.1 == r.1) && ((a.2 == r.2) && true)) || (((b.1 == r.1) && ((b.2 == r.2) && true)) || (((c.1 == r.1) && ((c.2 == r.2) && true)) || false))) = true := by
      simp only [List.mem_cons, List.not_mem_nil, or_false] at h
      rcases h with rfl | rfl | rfl <;> simp
    unfold pNotIn
    rw [e, e2]; rfl
theorem less_q {m n : Nat} {p q : Q} (h : Ok m p) (k : Ok n q) (l : m + n ≤ 8999) : F__law_less [RQ p, RQ q] = .ret (.bl (decide (p.1 * q.2 < q.1 * p.2))) [] := less_ev h.top h.bot k.top k.bot l
theorem less_no {p q : Q} (h : Row p) (k : Row q) (l : Le q p) : F__law_less [RQ p, RQ q] = .ret (.bl false) [] := by
  rw [less_q h.ok k.ok (by decide), decide_eq_false (Int.not_lt.mpr l)]
theorem last_ev {q0 q1 q2 : Q} (k0 : Row q0) (k1 : Row q1) (k2 : Row q2) (S : PV) {o : PV} (h : Hand o) (s3 s4 s5 s6 s7 s8 s9 : Slot) (h7 : ∀ p, s7 ≠ .own p) : goRun [false] (P3 [.v S, .own o, .v (.lst [RQ q0, RQ q1, RQ q2]), s3, s4, s5, s6, s7, s8, s9, .no, .no, .no, .no, .no, .no]) = .ret (.bl true) [] := by
  obtain ⟨k, o1, hk, g0, g1, h1⟩ := take_ev h (m := 5) (by decide) (by unfold Bd; decide)
  have rows : ∀ q ∈ [q0, q1, q2], Row q := by
    intro q hq
    simp only [List.mem_cons, List.not_mem_nil, or_false] at hq
    rcases hq with rfl | rfl | rfl <;> assumption
  have oks : ∀ q ∈ [q0, q1, q2], Ok 124 q := fun q hq => (rows q hq).ok
  have oks2 : ∀ q ∈ [q0, q1, q2, q0, q1, q2], Ok 124 q := by
    intro q hq
    simp only [List.mem_cons, List.not_mem_nil, or_false] at hq
    rcases hq with rfl | rfl | rfl | rfl | rfl | rfl <;> first | exact k0.ok | exact k1.ok | exact k2.ok
  have S1 : F_sum_of [.lst [RQ q0, RQ q1, RQ q2]] = _ := sum_l oks (by simp) (by decide)
  have S2 : F__law_sum [.lst [RQ q0, RQ q1, RQ q2]] = _ := lsum_l oks (by simp) (by decide)
  have S3 : F_sum_of [.tup [RQ q0, RQ q1, RQ q2, RQ q0, RQ q1, RQ q2]] = _ := sum_t oks2 (by simp) (by decide)
  have S4 : F__law_sum [.lst [RQ q0, RQ q1, RQ q2, RQ q0, RQ q1, RQ q2]] = _ := lsum_l oks2 (by simp) (by decide)
  have pq : ∀ q : Q, pNe (RQ q) (RQ q) = some (.bl false) := fun q => by unfold RQ; rw [pne_rr]; simp
  obtain ⟨r, R1, r1, r2⟩ := least_ev (m := 124) (by decide) (x := q0) (l := [q1, q2]) oks
  obtain ⟨u, U1, u1, u2⟩ := great_ev (m := 124) (by decide) (x := q0) (l := [q1, q2]) oks
  have R1' : F_least_of [.lst [RQ q0, RQ q1, RQ q2]] = .ret (RQ r) [] := R1
  have U1' : F_greatest_of [.tup [RQ q0, RQ q1, RQ q2]] = .ret (RQ u) [] := U1
  have n1 : pNotIn (RQ r) (.lst [RQ q0, RQ q1, RQ q2]) = _ := in_rows r1 rfl
  have n2 : pNotIn (RQ u) (.lst [RQ q0, RQ q1, RQ q2]) = _ := in_rows u1 rfl
  have a0 := less_no k0 (rows r r1) (r2 q0 (.head _))
  have a1 := less_no k1 (rows r r1) (r2 q1 (.tail _ (.head _)))
  have a2 := less_no k2 (rows r r1) (r2 q2 (.tail _ (.tail _ (.head _))))
  have b0 := less_no (rows u u1) k0 (u2 q0 (.head _))
  have b1 := less_no (rows u u1) k1 (u2 q1 (.tail _ (.head _)))
  have b2 := less_no (rows u u1) k2 (u2 q2 (.tail _ (.tail _ (.head _))))
  have cat : pAddA (.lst [RQ q0, RQ q1, RQ q2]) (.lst [RQ q0, RQ q1, RQ q2]) = some (.lst [RQ q0, RQ q1, RQ q2, RQ q0, RQ q1, RQ q2]) := rfl
  have tp : ∀ l : List PV, pTuple [.lst l] = some (.tup l) := fun _ => rfl
  have key : ∃ p e, pIx (.lst [.bl true, .non, .str "3", R 1 1, .lst [.int 2]]) (.int k) = some p ∧ OddP p e := by
    have kk : k = 0 ∨ k = 1 ∨ k = 2 ∨ k = 3 ∨ k = 4 := by omega
    rcases kk with rfl | rfl | rfl | rfl | rfl
    · exact ⟨_, _, rfl, odd_bl⟩
    · exact ⟨_, _, rfl, odd_non⟩
    · exact ⟨_, _, rfl, odd_str⟩
    · exact ⟨_, _, rfl, odd_11⟩
    · exact ⟨_, _, rfl, odd_lst⟩
  obtain ⟨p, e, ix, od⟩ := key
  have T1 : F__law_try [p, .int 0] = .ret (.str "refused top") [] := by rw [try_bad (make_top od.whole) lt, rt_eq]
  have T2 : F__law_try [.int q0.1, p] = .ret (.str "refused bottom") [] := by rw [try_bad (make_bot od.whole) lb, rb_eq]
  have z1 := pne_ss rb_sok2 rb_sok2
  have z2 := pne_ss rt_sok2 rt_sok2
  have no7 : ∀ (x1 x2 x3 x4 x5 x6 x7 : Slot) (t : PEnv), noOwn (x1 :: x2 :: x3 :: x4 :: x5 :: x6 :: x7 :: s7 :: t) [7] = true := by
    intro x1 x2 x3 x4 x5 x6 x7 t
    cases s7 with
    | own p => exact absurd rfl (h7 p)
    | v p => rfl
    | no => rfl
  have w1 := od.whole
  have w2 := od.ratio
  have w3 := od.arm
  have w4 := od.eq
  unfold P3
  by_cases x1 : q1.1 ≤ q0.1
  · simp! [hk, ix, T1, T2, z1, z2, w1, w2, w3, w4, told_ev, S1, S2, S3, S4, pq, R1', U1', n1, n2, a0, a1, a2, b0, b1, b2, cat, tp, ev_ixS, pnot_bb, ev_callK, noExc_ok, whole_0, whole_lo, whole_hi, whole_lh, x1, beq_self_eq_true, Int.le_refl, Bool.and_self, and_self, ev_not, ev_lc, lc_nil, lc_cons, no7, wipeE, backE, List.isEmpty_nil]
  · simp! [hk, ix, T1, T2, z1, z2, w1, w2, w3, w4, told_ev, S1, S2, S3, S4, pq, R1', U1', n1, n2, a0, a1, a2, b0, b1, b2, cat, tp, ev_ixS, pnot_bb, ev_callK, noExc_ok, whole_0, whole_lo, whole_hi, whole_lh, x1, beq_self_eq_true, Int.le_refl, Bool.and_self, and_self, Bool.false_and, ev_not, ev_lc, lc_nil, lc_cons, no7, wipeE, backE, List.isEmpty_nil]

abbrev A1 : SF := (sAsgO 1 (eCallO [false] F__law_hand (bVal (eVar 0) (bNil))))
abbrev A2 : SF := (sIf (tOo (tBl (eOp pNe (eC (.tup [.int 0, .int 1])) (eTup (aCons (eC (.int 0)) (aCons (eC (.int 1)) (aNil)))))) (tOo (tBl (eOp pNe (eC (.tup [.int 1, .int 1])) (eTup (aCons (eC (.int 1)) (aCons (eC (.int 1)) (aNil)))))) (tOo (tBl (eOp pNe (eCallF [false] F_sum_of (bVal (eLst (aNil)) (bNil))) (eTup (aCons (eC (.int 0)) (aCons (eC (.int 1)) (aNil)))))) (tBl (eOp pNe (eCallF [false] F_sum_of (bVal (eTup (aNil)) (bNil))) (eTup (aCons (eC (.int 0)) (aCons (eC (.int 1)) (aNil))))))))) (sRet (eC (.bl false))) (sPass))
theorem law_true (ns : List Int) (hl : ns.length ≤ 63) : F_law [.scr (ns.map .int)] = .ret (.bl true) [] := by
  obtain ⟨o, ho, h0⟩ := hand_ev ns hl
  have S0 : F_sum_of [.lst []] = .ret (R 0 1) [] := sum_l (m := 1) (l := []) (fun _ h => nomatch h) (by decide) (by decide)
  have S0' : F_sum_of [.tup []] = .ret (R 0 1) [] := sum_t (m := 1) (l := []) (fun _ h => nomatch h) (by decide) (by decide)
  have pq : ∀ a b : Int, pNe (R a b) (R a b) = some (.bl false) := fun a b => by rw [pne_rr]; simp
  generalize eS : PV.scr (ns.map PV.int) = S at ho
  have e1 : A1 [.v S, .no, .no, .no, .no, .no, .no, .no, .no, .no, .no, .no, .no, .no, .no, .no] = .nx [.v S, .own o, .no, .no, .no, .no, .no, .no, .no, .no, .no, .no, .no, .no, .no, .no] := by
    unfold A1
    simp! [ho]
  have e2 : A2 [.v S, .own o, .no, .no, .no, .no, .no, .no, .no, .no, .no, .no, .no, .no, .no, .no] = .nx [.v S, .own o, .no, .no, .no, .no, .no, .no, .no, .no, .no, .no, .no, .no, .no, .no] := by
    unfold A2
    simp! [S0, S0', pq]
  obtain ⟨t0, b0, o1, a4, a5, a6, f0, bt0, bb0, h1⟩ := turn h0 S [] (by decide) (.int 0) .no .no .no
  obtain ⟨t1, b1, o2, c4, c5, c6, f1, bt1, bb1, h2⟩ := turn h1 S ([] ++ [RQ (rowQ t0 b0)]) (by simp) (.int 1) a4 a5 a6
  obtain ⟨t2, b2, o3, d4, d5, d6, f2, bt2, bb2, h3⟩ := turn h2 S (([] ++ [RQ (rowQ t0 b0)]) ++ [RQ (rowQ t1 b1)]) (by simp) (.int 2) c4 c5 c6
  have k0 : Row (rowQ t0 b0) := ⟨rowQ_ok bt0 bb0, rowQ_gcd _ _⟩
  have k1 : Row (rowQ t1 b1) := ⟨rowQ_ok bt1 bb1, rowQ_gcd _ _⟩
  have k2 : Row (rowQ t2 b2) := ⟨rowQ_ok bt2 bb2, rowQ_gcd _ _⟩
  obtain ⟨o4, p7, s8, f3, h4⟩ := outer k0 k1 k2 S h3 (.v (.int 2)) d4 d5 d6
  obtain ⟨q7, f4⟩ := loop3 S o4 (.lst [RQ (rowQ t0 b0), RQ (rowQ t1 b1), RQ (rowQ t2 b2)]) (.v (.int 2)) d4 d5 d6 (.v p7) s8
  have f5 := last_ev k0 k1 k2 S h4 (.v (.int 2)) d4 d5 d6 (.v q7) s8 (.v (.int LG)) (fun _ h => nomatch h)
  have g3 : rng1 [.int 3] = some [.int 0, .int 1, .int 2] := by kernel_rfl
  have F0 : sFor (iArg rng1 (aCons (eC (.int 3)) (aNil))) (gN 3) L0 [.v S, .own o, .own (.lst []), .no, .no, .no, .no, .no, .no, .no, .no, .no, .no, .no, .no, .no] = .nx [.v S, .own o3, .own (.lst [RQ (rowQ t0 b0), RQ (rowQ t1 b1), RQ (rowQ t2 b2)]), .v (.int 2), d4, d5, d6, .no, .no, .no, .no, .no, .no, .no, .no, .no] := by
    rw [ev_for, ev_iarg]
    simp! [g3]
    rw [ev_flN, List.set_cons_succ, List.set_cons_succ, List.set_cons_succ, List.set_cons_zero, f0, goL_nx]
    rw [ev_flN, List.set_cons_succ, List.set_cons_succ, List.set_cons_succ, List.set_cons_zero, f1, goL_nx]
    rw [ev_flN, List.set_cons_succ, List.set_cons_succ, List.set_cons_succ, List.set_cons_zero, f2, goL_nx]
    rfl
  have F3 : sFor (iSeq (eVar 2)) (gN 7) L1 [.v S, .own o3, .own (.lst [RQ (rowQ t0 b0), RQ (rowQ t1 b1), RQ (rowQ t2 b2)]), .v (.int 2), d4, d5, d6, .no, .no, .no, .no, .no, .no, .no, .no, .no] = .nx [.v S, .own o4, .v (.lst [RQ (rowQ t0 b0), RQ (rowQ t1 b1), RQ (rowQ t2 b2)]), .v (.int 2), d4, d5, d6, .v p7, s8, .no, .no, .no, .no, .no, .no, .no] := by
    rw [ev_for, ev_iseq]
    simp! [ev_own]
    exact f3
  have F4 : sFor (iSeq (eLst (aCons (eOp pPow (eC (.int 10)) (eC (.int 12))) (aCons (eCall0 [] F__law_top []) (aNil))))) (gN 9) L3 [.v S, .own o4, .v (.lst [RQ (rowQ t0 b0), RQ (rowQ t1 b1), RQ (rowQ t2 b2)]), .v (.int 2), d4, d5, d6, .v p7, s8, .no, .no, .no, .no, .no, .no, .no] = .nx [.v S, .own o4, .v (.lst [RQ (rowQ t0 b0), RQ (rowQ t1 b1), RQ (rowQ t2 b2)]), .v (.int 2), d4, d5, d6, .v q7, s8, .v (.int LG), .no, .no, .no, .no, .no, .no] := by
    rw [ev_for, ev_iseq]
    simp! [pow12, top_ev]
    exact f4
  have e3 : sAsgO 2 (eLst (aNil)) [.v S, .own o, .no, .no, .no, .no, .no, .no, .no, .no, .no, .no, .no, .no, .no, .no] = .nx [.v S, .own o, .own (.lst []), .no, .no, .no, .no, .no, .no, .no, .no, .no, .no, .no, .no, .no] := rfl
  unfold F_law
  rw [ev_run]
  show goRun [false] (B_law [.v S, .no, .no, .no, .no, .no, .no, .no, .no, .no, .no, .no, .no, .no, .no, .no]) = _
  show goRun [false] (sSeq A1 (sSeq A2 (sSeq (sAsgO 2 (eLst (aNil))) (sSeq (sFor (iArg rng1 (aCons (eC (.int 3)) (aNil))) (gN 3) L0) (sSeq (sFor (iSeq (eVar 2)) (gN 7) L1) (sSeq (sFor (iSeq (eLst (aCons (eOp pPow (eC (.int 10)) (eC (.int 12))) (aCons (eCall0 [] F__law_top []) (aNil))))) (gN 9) L3) P3))))) [.v S, .no, .no, .no, .no, .no, .no, .no, .no, .no, .no, .no, .no, .no, .no, .no]) = _
  rw [ev_seq, e1, goS_nx, ev_seq, e2, goS_nx, ev_seq, e3, goS_nx, ev_seq, F0, goS_nx, ev_seq, F3, goS_nx, ev_seq, F4, goS_nx]
  exact f5
end K01
end

section
open PySem PySem.W PySem.Calls PyProof.Rows
set_option maxRecDepth 100000 in
set_option maxHeartbeats 8000000 in
theorem PySem.Challenge.cw_wherelaid_k01_whole_ratios_and_their_bou_holds : PySem.Challenge.rw_wherelaid_k01_whole_ratios_and_their_bou.Holds := by
  w_on; o_law
  refine HandSHeadRun.head_imp (r := OpenLaw.row PySem.Challenge.rw_wherelaid_k01_whole_ratios_and_their_bou) (q := view (OpenLaw.row PySem.Challenge.rw_wherelaid_k01_whole_ratios_and_their_bou).prog [0, 46]) (H := K01.hk) (ob := K01.ob) (M := 20000) (loose := K01.looseA) (d := HandSHeadRun.topDef (OpenLaw.row PySem.Challenge.rw_wherelaid_k01_whole_ratios_and_their_bou).prog 46) (kwd := []) K01.ob_eq
    K01.run (by kernel_rfl) (by kernel_rfl) (by kernel_rfl) (by rfl) (by first | assumption | decide +kernel) (by decide +kernel) ⟨rfl, rfl, rfl, rfl, rfl, by decide +kernel⟩ ?hw ?hc
  case hw => w_witness2
  case hc =>
    refine L2.walk_ofE (l := PySem.Challenge.rw_wherelaid_k01_whole_ratios_and_their_bou) (n := 63) (k := 7) (x := "_law_script") (CX := L2.CX0) rfl (by decide) (by kernel_rfl) ⟨rfl, by decide, by decide⟩ ?F (fun _ _ _ _ z => z)
    intro w mg fa h Y G hmg0
    obtain ⟨K, KX, c⟩ := Y
    have hmg : mg ("law" : PySem.Str) = some (.ref fa) := by
      have e : (HandSHeadRun.topDef (OpenLaw.row PySem.Challenge.rw_wherelaid_k01_whole_ratios_and_their_bou).prog 46).name = ("law" : PySem.Str) := by kernel_rfl
      rw [← e]
      exact hmg0
    have hga : fa = He.ga K "law" := by
      have e := hmg.symm.trans (He.glo_ok KX G (c.1.fact 0 (f := .glo "law") rfl))
      cases e
      rfl
    subst hga
    obtain ⟨fd, hb, hF⟩ := K01.facts (P := (PySem.Challenge.rw_wherelaid_k01_whole_ratios_and_their_bou).prog) (w := w) KX G c
    refine ⟨K, fd, fun vs H Q _ => PL.spF K mg [false] K01.F_law vs H Q (fun _ _ _ => False), KX, hb, fun H a ns hl _ hS => PL.law_sp (mg := mg) (F := K01.F_law) hS (K01.law_true ns hl), fun base _ _ => PL.noexc (hF base)⟩
end
