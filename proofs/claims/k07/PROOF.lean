import PyProof.Rows.All
import Wide.All
import OpenK.AllK
import Wide.FinOn
import HandS.ForExc
import HandS.Walk
import HandS.ExcInit
import HandS.ExcField
import HandS.CallSlots
import HandS.Wide
import HandS.Gcd
import HandS.IsInst
import HandS.Deep
import HandS.Defaults
import HandS.Flow
import HandS.TryOnly
import HandS.ExcValue
import HandS.Style
import HandS.FStr
import HandS.ExcCtx
import HandS.Hot
import HandS.HotCalls
import HandS.TupAny
import HandS.HeadHook2
import HandS.Head0
import HandS.Head1
import HandS.Head2
import HandS.HeadEnd
import HandS.HeadHook1
import KE.GoesEnum
import HandS.Iter
import HandS.More
import HandS.Head3
import PySem.Challenge.RW_wherelaid_k07_whole_loads_and_their_cent
section
set_option Elab.async false
set_option linter.all false
set_option maxRecDepth 100000
set_option maxHeartbeats 4000000
set_option autoImplicit false
/-! pure layer: values without a heap -/
namespace PL
open PySem PySem.Spec PyProof.Rows L2

def Ex (H H' : Hp) : Prop := ∀ a o, H a = some o → H' a = some o
theorem Ex.refl (H : Hp) : Ex H H := fun _ _ h => h
theorem Ex.trans {H H1 H2 : Hp} (a : Ex H H1) (b : Ex H1 H2) : Ex H H2 := fun x o h => b x o (a x o h)
theorem Ex.new {H : Hp} {p : Addr} {o : HO} (h : H p = none) : Ex H (upd H p o) := fun a u e => by
  rw [upd_ne (ne_of_none e h)]
  exact e
theorem Ex.upd2 {G H : Hp} {p : Addr} {o : HO} (e : Ex G H) (h : H p = none) : Ex (upd G p o) (upd H p o) := fun a u ea => by
  by_cases z : a = p
  · subst z
    rw [upd_same] at ea ⊢
    exact ea
  · rw [upd_ne z] at ea ⊢
    exact e a u ea
theorem Ex.none {H H' : Hp} (e : Ex H H') {a : Addr} (h : H' a = Option.none) : H a = Option.none := by
  cases q : H a with
  | none => rfl
  | some o => rw [e a o q] at h; cases h
theorem Ex.rd {H H' : Hp} {a : Addr} {u : HO} (e : Ex H H') (h : Rd H a u) : Rd H' a u := by
  rcases h with h | ⟨o, h⟩
  · exact .inl (e a _ h)
  · exact .inr ⟨o, e a _ h⟩
theorem Ex.rdL {H H' : Hp} {a : Addr} {u : HO} (e : Ex H H') (h : H a = some u) : Rd H' a u := .inl (e a _ h)
theorem Ex.sqL {K : PySem.W.Frag} {H H' : Hp} {a : Addr} {xs : List V} (e : Ex H H') (h : SqL K H a xs) : SqL K H' a xs := by
  rcases h with h | h
  · exact .inl (e.rd h)
  · exact .inr h
theorem Ex.sqT {K : PySem.W.Frag} {H H' : Hp} {a : Addr} {xs : List V} (e : Ex H H') (h : SqT K H a xs) : SqT K H' a xs := by
  rcases h with h | h
  · exact .inl (e.rd h)
  · exact .inr h

inductive PV where
  | non | bl (b : Bool) | int (i : Int) | str (x : Str)
  | tup (xs : List PV) | lst (xs : List PV) | scr (xs : List PV)
  | obj (c : Str) (fs : List (Str × PV))
  | atm (v : V)
  | dic (ks xs : List PV)

def keyP : Key → PV
  | .inl i => .int i
  | .inr x => .str x
/-- an instance of the class at C, or an error of it that is kept as a value -/
inductive OAt (K : PySem.W.Frag) (G : Hp) (a C : Addr) (ws : List (Str × V)) : Prop
  | ins (dx : Addr) : PySem.W.subIn K (.ref C) (.type "BaseException") = some false → G a = some (.ins C dx ws) → OAt K G a C ws
  | exc (dx : Addr) : PySem.W.subIn K (.ref C) (.type "BaseException") = some true → G a = some (exo a C (some dx)) → G dx = some (exd dx ws) → OAt K G a C ws
  | exn : PySem.W.subIn K (.ref C) (.type "BaseException") = some true → ws = [] → G a = some (ExO (.ref C) a) → OAt K G a C ws
theorem OAt.mono {K : PySem.W.Frag} {G G' : Hp} {a C : Addr} {ws : List (Str × V)} (e : Ex G G') : OAt K G a C ws → OAt K G' a C ws
  | .ins dx q h => .ins dx q (e _ _ h)
  | .exc dx q h k => .exc dx q (e _ _ h) (e _ _ k)
  | .exn q n h => .exn q n (e _ _ h)
mutual
inductive Rep (K : PySem.W.Frag) (mg : Str → Option Value) (G : Hp) : V → PV → Prop
  | non : Rep K mg G .non .non
  | bl (b : Bool) : Rep K mg G (.bl b) (.bl b)
  | int (i : Int) : Rep K mg G (.int i) (.int i)
  | str (x : Str) : Rep K mg G (.str x) (.str x)
  | tup {a : Addr} {vs : List V} {xs : List PV} : SqT K G a vs → Reps K mg G vs xs → Rep K mg G (.ref a) (.tup xs)
  | lst {a : Addr} {vs : List V} {xs : List PV} : G a = some (.lst vs) → Reps K mg G vs xs → Rep K mg G (.ref a) (.lst xs)
  | scr {a : Addr} {vs : List V} {xs : List PV} : SqL K G a vs → Reps K mg G vs xs → Rep K mg G (.ref a) (.scr xs)
  | obj {a C : Addr} {c : Str} {ws : List (Str × V)} {fs : List (Str × PV)} : mg c = some (.ref C) → OAt K G a C ws → RepF K mg G ws fs → Rep K mg G (.ref a) (.obj c fs)
  | atm (v : V) : Rep K mg G v (.atm v)
  | dicK {a : Addr} {kvs : List (Key × V)} {xs : List PV} : G a = some (.dK kvs) → Reps K mg G (kvs.map (·.2)) xs → Rep K mg G (.ref a) (.dic (kvs.map fun q => keyP q.1) xs)
  | dicT {a : Addr} {kvs : List (List Key × V)} {xs : List PV} : G a = some (.dT kvs) → Reps K mg G (kvs.map (·.2)) xs → Rep K mg G (.ref a) (.dic (kvs.map fun q => .tup (q.1.map keyP)) xs)
inductive Reps (K : PySem.W.Frag) (mg : Str → Option Value) (G : Hp) : List V → List PV → Prop
  | nil : Reps K mg G [] []
  | cons {v : V} {vs : List V} {p : PV} {ps : List PV} : Rep K mg G v p → Reps K mg G vs ps → Reps K mg G (v :: vs) (p :: ps)
inductive RepF (K : PySem.W.Frag) (mg : Str → Option Value) (G : Hp) : List (Str × V) → List (Str × PV) → Prop
  | nil : RepF K mg G [] []
  | cons {n : Str} {v : V} {vs : List (Str × V)} {p : PV} {ps : List (Str × PV)} : Rep K mg G v p → RepF K mg G vs ps → RepF K mg G ((n, v) :: vs) ((n, p) :: ps)
end
section
variable {K : PySem.W.Frag} {mg : Str → Option Value} {G G' : Hp}
mutual
theorem Rep.mono (e : Ex G G') : ∀ {v : V} {p : PV}, Rep K mg G v p → Rep K mg G' v p
  | _, _, .non => .non
  | _, _, .bl b => .bl b
  | _, _, .int i => .int i
  | _, _, .str x => .str x
  | _, _, .tup h r => .tup (e.sqT h) (Reps.mono e r)
  | _, _, .lst h r => .lst (e _ _ h) (Reps.mono e r)
  | _, _, .scr h r => .scr (e.sqL h) (Reps.mono e r)
  | _, _, .obj m h r => .obj m (h.mono e) (RepF.mono e r)
  | _, _, .atm v => .atm v
  | _, _, .dicK h r => .dicK (e _ _ h) (Reps.mono e r)
  | _, _, .dicT h r => .dicT (e _ _ h) (Reps.mono e r)
theorem Reps.mono (e : Ex G G') : ∀ {v : List V} {p : List PV}, Reps K mg G v p → Reps K mg G' v p
  | _, _, .nil => .nil
  | _, _, .cons h r => .cons (Rep.mono e h) (Reps.mono e r)
theorem RepF.mono (e : Ex G G') : ∀ {v : List (Str × V)} {p : List (Str × PV)}, RepF K mg G v p → RepF K mg G' v p
  | _, _, .nil => .nil
  | _, _, .cons h r => .cons (Rep.mono e h) (RepF.mono e r)
end
theorem Reps.length : ∀ {v : List V} {p : List PV}, Reps K mg G v p → v.length = p.length
  | _, _, .nil => rfl
  | _, _, .cons _ r => congrArg (· + 1) (Reps.length r)
theorem Reps.get : ∀ {v : List V} {p : List PV} {i : Nat} {q : PV}, Reps K mg G v p → p[i]? = some q → ∃ x, v[i]? = some x ∧ Rep K mg G x q
  | _, _, _, _, .nil, e => by simp at e
  | _, _, 0, _, .cons r _, e => by simp at e; subst e; exact ⟨_, rfl, r⟩
  | _, _, i + 1, q, .cons _ t, e => by
    obtain ⟨u, h1, h2⟩ := Reps.get (i := i) (q := q) t (by simpa using e)
    exact ⟨u, by simpa using h1, h2⟩
theorem Reps.getV {v : List V} {p : List PV} {i : Nat} {x : V} (r : Reps K mg G v p) (e : v[i]? = some x) : ∃ q, p[i]? = some q ∧ Rep K mg G x q := by
  have h := List.getElem?_eq_some_iff.mp e
  obtain ⟨hi, _⟩ := h
  have hp : i < p.length := by rw [← r.length]; exact hi
  obtain ⟨y, hy, ry⟩ := r.get (i := i) (q := p[i]) (by simp [hp])
  rw [e] at hy
  cases hy
  exact ⟨p[i], by simp [hp], ry⟩
theorem Reps.set {x : V} {q : PV} (rx : Rep K mg G x q) : ∀ {v : List V} {p : List PV} (i : Nat), Reps K mg G v p → Reps K mg G (v.set i x) (p.set i q)
  | _, _, _, .nil => .nil
  | _, _, 0, .cons _ t => .cons rx t
  | _, _, i + 1, .cons h t => .cons h (Reps.set rx i t)
theorem Reps.append : ∀ {v w : List V} {p q : List PV}, Reps K mg G v p → Reps K mg G w q → Reps K mg G (v ++ w) (p ++ q)
  | _, _, _, _, .nil, s => s
  | _, _, _, _, .cons r t, s => .cons r (Reps.append t s)
theorem Reps.drop : ∀ {v : List V} {p : List PV} (n : Nat), Reps K mg G v p → Reps K mg G (v.drop n) (p.drop n)
  | _, _, 0, r => r
  | _, _, _ + 1, .nil => .nil
  | _, _, n + 1, .cons _ t => Reps.drop n t
theorem Reps.take : ∀ {v : List V} {p : List PV} (n : Nat), Reps K mg G v p → Reps K mg G (v.take n) (p.take n)
  | _, _, 0, _ => .nil
  | _, _, _ + 1, .nil => .nil
  | _, _, n + 1, .cons r t => .cons r (Reps.take n t)
theorem RepF.names : ∀ {v : List (Str × V)} {p : List (Str × PV)}, RepF K mg G v p → v.map (·.1) = p.map (·.1)
  | _, _, .nil => rfl
  | _, _, .cons _ r => congrArg (_ :: ·) (RepF.names r)
theorem RepF.length {v : List (Str × V)} {p : List (Str × PV)} (r : RepF K mg G v p) : v.length = p.length := by
  have h := congrArg List.length r.names
  simpa using h
theorem RepF.look : ∀ {v : List (Str × V)} {p : List (Str × PV)} {f : Str} {q : PV}, RepF K mg G v p → p.lookup f = some q → ∃ x, v.lookup f = some x ∧ Rep K mg G x q
  | _, _, _, _, .nil, e => by cases e
  | _, _, f, q, .cons (n := n) (v := v) (p := p) h t, e => by
    simp only [List.lookup] at e ⊢
    cases z : (f == n) with
    | true =>
      rw [z] at e
      simp only at e ⊢
      cases e
      exact ⟨v, rfl, h⟩
    | false =>
      rw [z] at e
      simp only at e ⊢
      exact RepF.look t e
theorem RepF.lookN : ∀ {v : List (Str × V)} {p : List (Str × PV)} {f : Str}, RepF K mg G v p → p.lookup f = none → v.lookup f = none
  | _, _, _, .nil, e => rfl
  | _, _, f, .cons (n := n) h t, e => by
    simp only [List.lookup] at e ⊢
    cases z : (f == n) with
    | true => rw [z] at e; simp only at e; cases e
    | false =>
      rw [z] at e
      simp only at e ⊢
      exact RepF.lookN t e
/-- a new tuple, list -/
theorem Rep.newT {p : Addr} {vs : List V} {xs : List PV} (hp : G p = none) (r : Reps K mg G vs xs) : Rep K mg (upd G p (.tup vs)) (.ref p) (.tup xs) := .tup (.inl (.inl upd_same)) (r.mono (Ex.new hp))
theorem Rep.newL {p : Addr} {vs : List V} {xs : List PV} (hp : G p = none) (r : Reps K mg G vs xs) : Rep K mg (upd G p (.lst vs)) (.ref p) (.lst xs) := .lst upd_same (r.mono (Ex.new hp))
end

/-- what stands at an owned address -/
inductive Top (K : PySem.W.Frag) (mg : Str → Option Value) (G : Hp) : HO → PV → Prop
  | lst {vs : List V} {xs : List PV} : Reps K mg G vs xs → Top K mg G (.lst vs) (.lst xs)
  | ins {C dx : Addr} {c : Str} {ws : List (Str × V)} {fs : List (Str × PV)} : mg c = some (.ref C) → PySem.W.subIn K (.ref C) (.type "BaseException") = some false → RepF K mg G ws fs → Top K mg G (.ins C dx ws) (.obj c fs)
  | dicK {kvs : List (Key × V)} {xs : List PV} : Reps K mg G (kvs.map (·.2)) xs → Top K mg G (.dK kvs) (.dic (kvs.map fun q => keyP q.1) xs)
  | dicT {kvs : List (List Key × V)} {xs : List PV} : Reps K mg G (kvs.map (·.2)) xs → Top K mg G (.dT kvs) (.dic (kvs.map fun q => .tup (q.1.map keyP)) xs)
theorem Top.mono {K : PySem.W.Frag} {mg : Str → Option Value} {G G' : Hp} (e : Ex G G') {o : HO} {p : PV} : Top K mg G o p → Top K mg G' o p
  | .lst r => .lst (r.mono e)
  | .ins m n r => .ins m n (r.mono e)
  | .dicK r => .dicK (r.mono e)
  | .dicT r => .dicT (r.mono e)
theorem Top.frz {K : PySem.W.Frag} {mg : Str → Option Value} {G : Hp} {o : HO} {p : PV} {a : Addr} (h : G a = none) : Top K mg G o p → Rep K mg (upd G a o) (.ref a) p
  | .lst r => .lst upd_same (r.mono (Ex.new h))
  | .ins m n r => .obj m (.ins _ n upd_same) (r.mono (Ex.new h))
  | .dicK r => .dicK upd_same (r.mono (Ex.new h))
  | .dicT r => .dicT upd_same (r.mono (Ex.new h))

inductive Slot where
  | no | v (p : PV) | own (p : PV)
abbrev PEnv := List Slot

structure Gam where
  K : PySem.W.Frag
  mg : Str → Option Value
  C : Hp
  G : Hp
  P : Nat → Option Addr
  W : WX

structure EnvOk (Γ : Gam) (G : Hp) (σ : L2.St) (H : Hp) (ρ : PEnv) : Prop where
  len : σ.length = ρ.length
  cH : Ex Γ.C H
  gH : Ex G H
  g0 : Ex Γ.G G
  gC : ∀ a, Γ.C a ≠ none → G a = Γ.G a
  par : ∀ (i : Nat) (a : Addr), Γ.P i = some a → σ[i]? = some (some (V.ref a))
  val : ∀ (i : Nat) (p : PV), ρ[i]? = some (Slot.v p) → ∃ x : V, σ[i]? = some (some x) ∧ Rep Γ.K Γ.mg G x p
  own : ∀ (i : Nat) (p : PV), ρ[i]? = some (Slot.own p) → ∃ a o, σ[i]? = some (some (V.ref a)) ∧ Γ.C a = none ∧ G a = none ∧ H a = some o ∧ Top Γ.K Γ.mg G o p
  dis : ∀ (i j : Nat) (p q : PV) (a : Addr), i ≠ j → ρ[i]? = some (Slot.own p) → ρ[j]? = some (Slot.own q) → σ[i]? = some (some (V.ref a)) → σ[j]? = some (some (V.ref a)) → False

/-- new things alone -/
structure Grow (G H G' H' : Hp) : Prop where
  hH : Ex H H'
  gG : Ex G G'
  gH : Ex G' H'
  nw : ∀ a, H a ≠ none → G' a = G a
theorem Grow.refl {G H : Hp} (e : Ex G H) : Grow G H G H := ⟨Ex.refl H, Ex.refl G, e, fun _ _ => rfl⟩
theorem Grow.new {G H : Hp} {p : Addr} {o : HO} (e : Ex G H) (h : H p = none) : Grow G H (upd G p o) (upd H p o) :=
  ⟨Ex.new h, Ex.new (e.none h), e.upd2 h, fun a ha => upd_ne fun z => ha (z ▸ h)⟩
/-- new in the heap alone -/
theorem Grow.newH {G H : Hp} {p : Addr} {o : HO} (e : Ex G H) (h : H p = none) : Grow G H G (upd H p o) :=
  ⟨Ex.new h, Ex.refl G, e.trans (Ex.new h), fun _ _ => rfl⟩
theorem Grow.trans {G H G1 H1 G2 H2 : Hp} (a : Grow G H G1 H1) (b : Grow G1 H1 G2 H2) : Grow G H G2 H2 :=
  ⟨a.hH.trans b.hH, a.gG.trans b.gG, b.gH, fun x hx => (b.nw x fun z => hx (a.hH.none z)).trans (a.nw x hx)⟩
theorem EnvOk.grow {Γ : Gam} {G H G' H' : Hp} {σ : L2.St} {ρ : PEnv} (ok : EnvOk Γ G σ H ρ) (g : Grow G H G' H') : EnvOk Γ G' σ H' ρ := by
  refine ⟨ok.len, ok.cH.trans g.hH, g.gH, ok.g0.trans g.gG, fun a ha => ?_, ok.par, fun i p h => ?_, fun i p h => ?_, ok.dis⟩
  · refine (g.nw a fun z => ha ?_).trans (ok.gC a ha)
    exact ok.cH.none z
  · obtain ⟨x, h1, h2⟩ := ok.val i p h
    exact ⟨x, h1, h2.mono g.gG⟩
  · obtain ⟨a, o, h1, h2, h3, h4, h5⟩ := ok.own i p h
    exact ⟨a, o, h1, h2, (g.nw a fun z => by rw [z] at h4; cases h4).trans h3, g.hH a o h4, h5.mono g.gG⟩

inductive ERes (α : Type) where
  | ok (a : α) (ρ : PEnv)
  | exc (c : Str) (fs : List (Str × PV)) (ρ : PEnv)
  | bad
def ERes.bind {α β : Type} (r : ERes α) (k : α → PEnv → ERes β) : ERes β := match r with
  | .ok a ρ => k a ρ
  | .exc c fs ρ => .exc c fs ρ
  | .bad => .bad
abbrev EF := PEnv → ERes PV
abbrev TF := PEnv → ERes Bool
abbrev AF := PEnv → ERes (List PV)

def ExcPost (Γ : Gam) (c : Str) (fs : List (Str × PV)) (ρ' : PEnv) (G : Hp) (σ : L2.St) : Prop :=
  ∀ C d ws G' H', Γ.mg c = some (.ref C) → Ex G G' → EnvOk Γ G' σ H' ρ' → G' d = some (.xd ws) → RepF Γ.K Γ.mg G' ws fs → Γ.W (.ref C) (some d) σ H'
def Post {α β : Type} (Γ : Gam) (rel : Hp → β → α → Prop) (r : ERes α) (G : Hp) (σ : L2.St) (Q : β → Hp → Prop) : Prop := match r with
  | .ok p ρ' => ∀ v G' H', Ex G G' → EnvOk Γ G' σ H' ρ' → rel G' v p → Q v H'
  | .exc c fs ρ' => ExcPost Γ c fs ρ' G σ
  | .bad => False
def DX {α β : Type} (Γ : Gam) (rel : Hp → β → α → Prop) (f : PEnv → ERes α) : L2.St → Hp → (β → Hp → Prop) → Prop := fun σ H Q =>
  ∃ G ρ, EnvOk Γ G σ H ρ ∧ Post Γ rel (f ρ) G σ Q
abbrev DE (Γ : Gam) (f : EF) : TE := DX Γ (Rep Γ.K Γ.mg) f
abbrev DT (Γ : Gam) (f : TF) : TT := DX Γ (fun _ b c => b = c) f
abbrev DA (Γ : Gam) (f : AF) : TA := DX Γ (Reps Γ.K Γ.mg) f
theorem ExcPost.mono {Γ : Gam} {c : Str} {fs : List (Str × PV)} {ρ' : PEnv} {G G1 : Hp} {σ : L2.St} (e : Ex G G1) (h : ExcPost Γ c fs ρ' G σ) : ExcPost Γ c fs ρ' G1 σ :=
  fun C d ws G' H' h1 h2 => h C d ws G' H' h1 (e.trans h2)
theorem Post.mono {α β : Type} {Γ : Gam} {rel : Hp → β → α → Prop} {r : ERes α} {G G1 : Hp} {σ : L2.St} {Q : β → Hp → Prop} (e : Ex G G1) (h : Post Γ rel r G σ Q) : Post Γ rel r G1 σ Q := by
  cases r with
  | ok p ρ' => exact fun v G' H' h1 => h v G' H' (e.trans h1)
  | exc c fs ρ' => exact ExcPost.mono e h
  | bad => exact h
theorem DX.bindI {α β α1 β1 : Type} {Γ : Gam} {rel : Hp → β → α → Prop} {rel1 : Hp → β1 → α1 → Prop} {f : PEnv → ERes α1} {k : α1 → PEnv → ERes α} {G H : Hp} {σ : L2.St} {ρ : PEnv} {Q : β → Hp → Prop} {Q1 : β1 → Hp → Prop}
    (ok : EnvOk Γ G σ H ρ) (h : Post Γ rel ((f ρ).bind k) G σ Q)
    (c : ∀ v G1 H1 p ρ1, Ex G G1 → EnvOk Γ G1 σ H1 ρ1 → rel1 G1 v p → Post Γ rel (k p ρ1) G1 σ Q → Q1 v H1) : DX Γ rel1 f σ H Q1 := by
  refine ⟨G, ρ, ok, ?_⟩
  cases e : f ρ with
  | ok p ρ1 =>
    rw [e] at h
    exact fun v G1 H1 h1 h2 h3 => c v G1 H1 p ρ1 h1 h2 h3 (Post.mono h1 h)
  | exc a fs ρ1 =>
    rw [e] at h
    exact h
  | bad =>
    rw [e] at h
    exact h
theorem Post.fin {α β : Type} {Γ : Gam} {rel : Hp → β → α → Prop} {p : α} {ρ' : PEnv} {G G' H' : Hp} {σ : L2.St} {Q : β → Hp → Prop} {v : β} (h : Post Γ rel (.ok p ρ') G σ Q) (g : Ex G G') (ok : EnvOk Γ G' σ H' ρ') (r : rel G' v p) : Q v H' := h v G' H' g ok r

/-- the context is the one that Γ speaks of -/
structure OkX (X : Cx) (Γ : Gam) : Prop where
  k : X.K = Γ.K
  m : X.mg = Γ.mg
theorem PE.imp {X : Cx} {e : Expr} {t t' : TE} (h : PE X e t) (i : ∀ σ H Q, t' σ H Q → t σ H Q) : PE X e t' := ⟨fun pins s σ H Q I z => h.run pins s σ H Q I (i σ H Q z)⟩
theorem PT.imp {X : Cx} {e : Expr} {t t' : TT} (h : PT X e t) (i : ∀ σ H Q, t' σ H Q → t σ H Q) : PT X e t' := ⟨fun pins s σ H Q I z => h.run pins s σ H Q I (i σ H Q z)⟩
theorem PW.imp {X : Cx} {e : Expr} {t t' : TT} (h : PW X e t) (i : ∀ σ H Q, t' σ H Q → t σ H Q) : PW X e t' := ⟨fun w pins s σ H Q I z => h.run w pins s σ H Q I (i σ H Q z)⟩
theorem PA.imp {X : Cx} {e : List Expr} {t t' : TA} (h : PA X e t) (i : ∀ σ H Q, t' σ H Q → t σ H Q) : PA X e t' := ⟨fun p pins s σ H Q I z => h.run p pins s σ H Q I (i σ H Q z)⟩
theorem PS.imp {X : Cx} {e : Stmt} {t t' : TS} (h : PS X e t) (i : ∀ D σ H, t' D σ H → t D σ H) : PS X e t' := ⟨fun pins s σ H D I z => h.run pins s σ H D I (i D σ H z)⟩
theorem PSs.imp {X : Cx} {e : List Stmt} {t t' : TS} (h : PSs X e t) (i : ∀ D σ H, t' D σ H → t D σ H) : PSs X e t' := ⟨fun pins s σ H D I z => h.run pins s σ H D I (i D σ H z)⟩
end PL
end

section
set_option Elab.async false
set_option linter.all false
set_option maxRecDepth 100000
set_option maxHeartbeats 4000000
set_option autoImplicit false
namespace PL
open PySem PySem.Spec PyProof.Rows L2

theorem Ex.putH {G H : Hp} {a : Addr} {o : HO} (e : Ex G H) (h : H a = some o) : Ex (upd G a o) H := fun b u eb => by
  by_cases z : b = a
  · subst z
    rw [upd_same] at eb
    rw [h]; exact eb
  · rw [upd_ne z] at eb
    exact e b u eb
theorem EnvOk.freeze {Γ : Gam} {G H : Hp} {σ : L2.St} {ρ : PEnv} {i : Nat} {p : PV} {a : Addr} {o : HO} (ok : EnvOk Γ G σ H ρ) (hi : ρ[i]? = some (Slot.own p)) (ha : σ[i]? = some (some (V.ref a)))
    (hC : Γ.C a = none) (hG : G a = none) (hH : H a = some o) (ht : Top Γ.K Γ.mg G o p) (np : Γ.P i = none) : EnvOk Γ (upd G a o) σ H (ρ.set i (.v p)) := by
  have hlt : i < ρ.length := (List.getElem?_eq_some_iff.mp hi).1
  refine ⟨by simp [ok.len], ok.cH, ok.gH.putH hH, ok.g0.trans (Ex.new hG), fun b hb => ?_, ok.par, fun j q hj => ?_, fun j q hj => ?_, fun j k q r b hjk hj hk e1 e2 => ?_⟩
  · rw [upd_ne (fun z : b = a => hb (by rw [z]; exact hC))]
    exact ok.gC b hb
  · by_cases z : j = i
    · subst z
      rw [List.getElem?_set_self hlt] at hj
      cases hj
      exact ⟨_, ha, ht.frz hG⟩
    · rw [List.getElem?_set_ne (Ne.symm z)] at hj
      obtain ⟨x, h1, h2⟩ := ok.val j q hj
      exact ⟨x, h1, h2.mono (Ex.new hG)⟩
  · by_cases z : j = i
    · subst z
      rw [List.getElem?_set_self hlt] at hj
      cases hj
    · rw [List.getElem?_set_ne (Ne.symm z)] at hj
      obtain ⟨b, u, h1, h2, h3, h4, h5⟩ := ok.own j q hj
      refine ⟨b, u, h1, h2, ?_, h4, h5.mono (Ex.new hG)⟩
      rw [upd_ne (fun zz : b = a => ok.dis j i q p a z hj hi (by rw [← zz]; exact h1) ha)]
      exact h3
  · have hj' : j ≠ i := fun z => by
      subst z
      rw [List.getElem?_set_self hlt] at hj
      cases hj
    have hk' : k ≠ i := fun z => by
      subst z
      rw [List.getElem?_set_self hlt] at hk
      cases hk
    rw [List.getElem?_set_ne (Ne.symm hj')] at hj
    rw [List.getElem?_set_ne (Ne.symm hk')] at hk
    exact ok.dis j k q r b hjk hj hk e1 e2

section
variable {X : Cx} {Γ : Gam} {pos : Pos}

/-! ### names and constants -/
def eVar (i : Nat) : EF := fun ρ => match ρ[i]? with
  | some (.v p) => .ok p ρ
  | some (.own p) => .ok p (ρ.set i (.v p))
  | _ => .bad
theorem v_var {i : Nat} {e : Expr} (h : PE X e (tVar i)) (np : Γ.P i = none) : PE X e (DE Γ (eVar i)) := by
  refine PE.imp h fun σ H Q ⟨G, ρ, ok, q⟩ => ?_
  cases hi : ρ[i]? with
  | none => simp only [eVar, hi] at q; exact q.elim
  | some s =>
    cases s with
    | no => simp only [eVar, hi] at q; exact q.elim
    | v p =>
      simp only [eVar, hi] at q
      obtain ⟨x, h1, h2⟩ := ok.val i p hi
      exact ⟨x, h1, q x G H (Ex.refl G) ok h2⟩
    | own p =>
      simp only [eVar, hi] at q
      obtain ⟨a, o, h1, h2, h3, h4, h5⟩ := ok.own i p hi
      exact ⟨_, h1, q _ (upd G a o) H (Ex.new h3) (ok.freeze hi h1 h2 h3 h4 h5 np) (h5.frz h3)⟩
def eC (p : PV) : EF := fun ρ => .ok p ρ
theorem v_c {e : Expr} {v : V} {p : PV} (h : PE X e (tC v)) (r : ∀ G, Rep Γ.K Γ.mg G v p) : PE X e (DE Γ (eC p)) :=
  PE.imp h fun σ H Q ⟨G, ρ, ok, q⟩ => q v G H (Ex.refl G) ok (r G)
theorem v_int {i : Int} {j : Nat} : PE X (.Constant (.int i) j pos) (DE Γ (eC (.int i))) := v_c pe_int fun _ => .int i
theorem v_bl {i : Bool} {j : Nat} : PE X (.Constant (.bool i) j pos) (DE Γ (eC (.bl i))) := v_c pe_bl fun _ => .bl i
theorem v_str {i : Str} {j : Nat} : PE X (.Constant (.str i) j pos) (DE Γ (eC (.str i))) := v_c pe_str fun _ => .str i
theorem v_non {j : Nat} : PE X (.Constant .none j pos) (DE Γ (eC .non)) := v_c pe_non fun _ => .non

/-! ### operators -/
/-- the rule r of two values does what g says of their contents -/
def OpS (Γ : Gam) (r : R2) (g : PV → PV → Option PV) : Prop := ∀ (G H : Hp) (x y : V) (p q z : PV) (Q : VK), Ex G H → Rep Γ.K Γ.mg G x p → Rep Γ.K Γ.mg G y q → g p q = some z →
  (∀ v G' H', Grow G H G' H' → Rep Γ.K Γ.mg G' v z → Q v H') → r x y H Q
def oRes (o : Option PV) (ρ : PEnv) : ERes PV := match o with
  | some z => .ok z ρ
  | none => .bad
def eOp (g : PV → PV → Option PV) (fa fb : EF) : EF := fun ρ => (fa ρ).bind fun p ρ1 => (fb ρ1).bind fun q ρ2 => oRes (g p q) ρ2
theorem opImp {r : R2} {g : PV → PV → Option PV} {fa fb : EF} (os : OpS Γ r g) : ∀ σ H Q, DE Γ (eOp g fa fb) σ H Q → tOp r (DE Γ fa) (DE Γ fb) σ H Q := fun σ H Q ⟨G, ρ, ok, h⟩ => by
  refine DX.bindI ok h fun x G1 H1 p ρ1 e1 ok1 r1 h1 => ?_
  refine DX.bindI ok1 h1 fun y G2 H2 q ρ2 e2 ok2 r2 h2 => ?_
  cases hg : g p q with
  | none => rw [hg] at h2; exact h2.elim
  | some z =>
    rw [hg] at h2
    exact os G2 H2 x y p q z Q ok2.gH (r1.mono e2) r2 hg fun v G' H' gr rv => h2 v G' H' gr.gG (ok2.grow gr) rv
theorem v_op {a b : Expr} {fa fb : EF} {op : Operator} {r : R2} {g : PV → PV → Option PV} (ho : OpR X (binaryOp op) r) (os : OpS Γ r g) (ha : PE X a (DE Γ fa)) (hb : PE X b (DE Γ fb)) : PE X (.BinOp a op b pos) (DE Γ (eOp g fa fb)) :=
  PE.imp (pe_op ho ha hb) (opImp os)
theorem v_cmp {a b : Expr} {fa fb : EF} {op : CmpOp} {r : R2} {g : PV → PV → Option PV} (ho : OpR X (compareOp op) r) (os : OpS Γ r g) (ha : PE X a (DE Γ fa)) (hb : PE X b (DE Γ fb)) (hm : behindInMarks op b = false) : PE X (.Compare a [op] [b] pos) (DE Γ (eOp g fa fb)) :=
  PE.imp (pe_cmpR ho ha hb hm) (opImp os)
def eChain (g g' : PV → PV → Option PV) (fa fb fc : EF) : EF := fun ρ => (fa ρ).bind fun p ρ1 => (fb ρ1).bind fun q ρ2 => match g p q with
  | some (.bl true) => (fc ρ2).bind fun r ρ3 => oRes (g' q r) ρ3
  | some (.bl false) => .ok (.bl false) ρ2
  | _ => .bad
/-- the rule hands back what it was told, at the heap as it stands -/
def OpB (Γ : Gam) (r : R2) (g : PV → PV → Option PV) : Prop := ∀ (G H : Hp) (x y : V) (p q : PV) (b : Bool) (Q : VK), Ex G H → Rep Γ.K Γ.mg G x p → Rep Γ.K Γ.mg G y q → g p q = some (.bl b) → Q (.bl b) H → r x y H Q
theorem v_chain {a b c : Expr} {fa fb fc : EF} {op op' : CmpOp} {r r' : R2} {g g' : PV → PV → Option PV} (ho : OpR X (compareOp op) r) (ho' : OpR X (compareOp op') r') (os : OpB Γ r g) (os' : OpS Γ r' g')
    (ha : PE X a (DE Γ fa)) (hb : PE X b (DE Γ fb)) (hc : PE X c (DE Γ fc)) (hpe : PE X (.Compare a [op, op'] [b, c] pos) (tChain r r' (DE Γ fa) (DE Γ fb) (DE Γ fc))) : PE X (.Compare a [op, op'] [b, c] pos) (DE Γ (eChain g g' fa fb fc)) :=
  PE.imp hpe fun σ H Q ⟨G, ρ, ok, h⟩ => by
    refine DX.bindI ok h fun x G1 H1 p ρ1 e1 ok1 r1 h1 => ?_
    refine DX.bindI ok1 h1 fun y G2 H2 q ρ2 e2 ok2 r2 h2 => ?_
    cases hg : g p q with
    | none => rw [hg] at h2; exact h2.elim
    | some z =>
      rw [hg] at h2
      cases z with
      | bl k =>
        refine os G2 H2 x y p q k _ ok2.gH (r1.mono e2) r2 hg ⟨k, rfl, ?_⟩
        cases k with
        | true =>
          show DE Γ fc σ H2 _
          refine DX.bindI ok2 h2 fun w G3 H3 s ρ3 e3 ok3 r3 h3 => ?_
          cases hg' : g' q s with
          | none => rw [hg'] at h3; exact h3.elim
          | some z' =>
            rw [hg'] at h3
            exact os' G3 H3 y w q s z' Q ok3.gH (r2.mono e3) r3 hg' fun v G' H' gr rv => h3 v G' H' gr.gG (ok3.grow gr) rv
        | false =>
          show Q (.bl false) H2
          exact h2 _ G2 H2 (Ex.refl G2) ok2 (.bl false)
      | _ => exact h2.elim
def UnS (Γ : Gam) (r : V → Hp → VK → Prop) (g : PV → Option PV) : Prop := ∀ (G H : Hp) (x : V) (p z : PV) (Q : VK), Ex G H → Rep Γ.K Γ.mg G x p → g p = some z → (∀ v G' H', Grow G H G' H' → Rep Γ.K Γ.mg G' v z → Q v H') → r x H Q
def eUn (g : PV → Option PV) (fa : EF) : EF := fun ρ => (fa ρ).bind fun p ρ1 => oRes (g p) ρ1
theorem v_un {a : Expr} {fa : EF} {op : UnaryOp} {r : V → Hp → VK → Prop} {g : PV → Option PV} (ho : UnR X (unaryOp op) r) (os : UnS Γ r g) (ha : PE X a (DE Γ fa)) : PE X (.UnaryOp op a pos) (DE Γ (eUn g fa)) :=
  PE.imp (pe_un ho ha) fun σ H Q ⟨G, ρ, ok, h⟩ => by
    refine DX.bindI ok h fun x G1 H1 p ρ1 e1 ok1 r1 h1 => ?_
    cases hg : g p with
    | none => rw [hg] at h1; exact h1.elim
    | some z =>
      rw [hg] at h1
      exact os G1 H1 x p z Q ok1.gH r1 hg fun v G' H' gr rv => h1 v G' H' gr.gG (ok1.grow gr) rv

/-! ### what the operators do -/
def pAdd : PV → PV → Option PV
  | .int i, .int j => some (.int (i + j))
  | _, _ => none
def pSub : PV → PV → Option PV
  | .int i, .int j => some (.int (i - j))
  | _, _ => none
/-- the size to which numbers may grow -/
def big (n : Nat) (i : Int) : Bool := decide (i.natAbs < 2 ^ n)
def pMul : PV → PV → Option PV
  | .int i, .int j => if (decide ((-(2 ^ 64) < i ∧ i < 2 ^ 64) ∨ (-(2 ^ 64) < j ∧ j < 2 ^ 64)) || decide (i.natAbs.log2 + j.natAbs.log2 < 1000000)) = true then some (.int (i * j)) else none
  | _, _ => none
def pDiv : PV → PV → Option PV
  | .int i, .int j => if decide (j ≠ 0 ∧ j.natAbs.log2 < 9000) = true then some (.int (i.fdiv j)) else none
  | _, _ => none
def pMod : PV → PV → Option PV
  | .int i, .int j => if decide (j ≠ 0) = true then some (.int (i.fmod j)) else none
  | _, _ => none
def rMulA : R2 := fun x y H Q => rI CMul (fun i j => .int (i * j)) x y H Q ∨ rI CMulW (fun i j => .int (i * j)) x y H Q
theorem op_mulA : OpR X (binaryOp .Mult) rMulA := op_mul.or op_mulW
theorem s_add : OpS Γ (rI0 fun i j => .int (i + j)) pAdd := by
  intro G H x y p q z Q gh rx ry hg k
  cases p <;> cases q <;> first | (cases hg; done) | skip
  cases rx; cases ry; cases hg
  exact ⟨_, _, rfl, rfl, k _ G H (Grow.refl gh) (.int _)⟩
theorem s_sub : OpS Γ (rI0 fun i j => .int (i - j)) pSub := by
  intro G H x y p q z Q gh rx ry hg k
  cases p <;> cases q <;> first | (cases hg; done) | skip
  cases rx; cases ry; cases hg
  exact ⟨_, _, rfl, rfl, k _ G H (Grow.refl gh) (.int _)⟩
theorem s_mul : OpS Γ rMulA pMul := by
  intro G H x y p q z Q gh rx ry hg k
  cases p <;> cases q <;> first | (cases hg; done) | skip
  cases rx; cases ry
  simp only [pMul] at hg
  split at hg
  · rename_i c
    cases hg
    rcases Bool.or_eq_true_iff.mp c with c | c
    · exact .inl ⟨_, _, rfl, rfl, by have z := of_decide_eq_true c; exact z, k _ G H (Grow.refl gh) (.int _)⟩
    · exact .inr ⟨_, _, rfl, rfl, by have z := of_decide_eq_true c; exact z, k _ G H (Grow.refl gh) (.int _)⟩
  · cases hg
def CDivZ (_ j : Int) : Prop := j ≠ 0 ∧ j.natAbs.log2 < 9000
theorem op_fdivZ : OpR X (binaryOp .FloorDiv) (rI CDivZ fun i j => .int (i.fdiv j)) := opI fun _ _ _ _ _ _ _ hc q => floordiv_int hc.1 q (.inl (PyProof.noPylong_of_log2 hc.2))
theorem s_div : OpS Γ (rI CDivZ fun i j => .int (i.fdiv j)) pDiv := by
  intro G H x y p q z Q gh rx ry hg k
  cases p <;> cases q <;> first | (cases hg; done) | skip
  cases rx; cases ry
  simp only [pDiv] at hg
  split at hg
  · rename_i c
    cases hg
    exact ⟨_, _, rfl, rfl, by have z := of_decide_eq_true c; exact z, k _ G H (Grow.refl gh) (.int _)⟩
  · cases hg
theorem s_mod : OpS Γ (rI (fun _ j => j ≠ 0) fun i j => .int (i.fmod j)) pMod := by
  intro G H x y p q z Q gh rx ry hg k
  cases p <;> cases q <;> first | (cases hg; done) | skip
  cases rx; cases ry
  simp only [pMod] at hg
  split at hg
  · rename_i c
    cases hg
    exact ⟨_, _, rfl, rfl, by have z := of_decide_eq_true c; exact z, k _ G H (Grow.refl gh) (.int _)⟩
  · cases hg
def pPow : PV → PV → Option PV
  | .int i, .int j => if decide (0 ≤ j ∧ j ≤ 1000000 ∧ i.natAbs < 2 ^ 64) = true then some (.int (i ^ j.toNat)) else none
  | _, _ => none
theorem s_pow : OpS Γ (rI CPow fun i j => .int (i ^ j.toNat)) pPow := by
  intro G H x y p q z Q gh rx ry hg k
  cases p <;> cases q <;> first | (cases hg; done) | skip
  cases rx; cases ry
  simp only [pPow] at hg
  split at hg
  · rename_i c
    cases hg
    exact ⟨_, _, rfl, rfl, by have z := of_decide_eq_true c; exact z, k _ G H (Grow.refl gh) (.int _)⟩
  · cases hg
def pNeg : PV → Option PV
  | .int i => some (.int (-i))
  | _ => none
theorem s_neg : UnS Γ (rU fun i => .int (-i)) pNeg := by
  intro G H x p z Q gh rx hg k
  cases p <;> first | (cases hg; done) | skip
  cases rx; cases hg
  exact ⟨_, rfl, k _ G H (Grow.refl gh) (.int _)⟩
/-! order of whole numbers -/
def pCmp (f : Int → Int → Bool) : PV → PV → Option PV
  | .int i, .int j => some (.bl (f i j))
  | _, _ => none
theorem s_cmp {f : Int → Int → Bool} : OpS Γ (rI0 fun i j => .bl (f i j)) (pCmp f) := by
  intro G H x y p q z Q gh rx ry hg k
  cases p <;> cases q <;> first | (cases hg; done) | skip
  cases rx; cases ry; cases hg
  exact ⟨_, _, rfl, rfl, k _ G H (Grow.refl gh) (.bl _)⟩
theorem s_cmpB {f : Int → Int → Bool} : OpB Γ (rI0 fun i j => .bl (f i j)) (pCmp f) := by
  intro G H x y p q b Q gh rx ry hg k
  cases p <;> cases q <;> first | (cases hg; done) | skip
  cases rx; cases ry; cases hg
  exact ⟨_, _, rfl, rfl, k⟩
/-! == at any depth -/
mutual
def toD : PV → Option PyData
  | .non => some .none
  | .bl b => some (.bool b)
  | .int i => some (.int i)
  | .str x => some (.str x)
  | .tup xs => match toDs xs with
    | some ds => some (.tuple ds)
    | none => none
  | .lst xs => match toDs xs with
    | some ds => some (.list ds)
    | none => none
  | _ => none
def toDs : List PV → Option (List PyData)
  | [] => some []
  | x :: xs => match toD x with
    | some d => match toDs xs with
      | some ds => some (d :: ds)
      | none => none
    | none => none
end
mutual
theorem toD_dp {K : PySem.W.Frag} {mg : Str → Option Value} {G : Hp} : ∀ {v : V} {p : PV} {d : PyData}, Rep K mg G v p → toD p = some d → Dp K G v d
  | _, _, _, .non, e => by simp only [toD] at e; cases e; exact .non
  | _, _, _, .bl b, e => by simp only [toD] at e; cases e; exact .bl b
  | _, _, _, .int b, e => by simp only [toD] at e; cases e; exact .int b
  | _, _, _, .str b, e => by simp only [toD] at e; cases e; exact .str b
  | _, .tup xs, _, .tup h r, e => by
    simp only [toD] at e
    cases q : toDs xs with
    | none => rw [q] at e; cases e
    | some ds => rw [q] at e; cases e; exact .tup h (toDs_dp r q)
  | _, .lst xs, _, .lst h r, e => by
    simp only [toD] at e
    cases q : toDs xs with
    | none => rw [q] at e; cases e
    | some ds => rw [q] at e; cases e; exact .lst (.inl (.inl h)) (toDs_dp r q)
  | _, _, _, .obj _ _ _, e => by simp only [toD] at e; cases e
  | _, _, _, .scr _ _, e => by simp only [toD] at e; cases e
  | _, _, _, .atm _, e => by simp only [toD] at e; cases e
theorem toDs_dp {K : PySem.W.Frag} {mg : Str → Option Value} {G : Hp} : ∀ {v : List V} {p : List PV} {d : List PyData}, Reps K mg G v p → toDs p = some d → DpAll K G v d
  | _, _, _, .nil, e => by simp only [toDs] at e; cases e; exact .nil
  | _, x :: xs, _, .cons h r, e => by
    simp only [toDs] at e
    cases q : toD x with
    | none => rw [q] at e; cases e
    | some d =>
      rw [q] at e
      simp only at e
      cases q2 : toDs xs with
      | none => rw [q2] at e; cases e
      | some ds => rw [q2] at e; cases e; exact .cons (toD_dp h q) (toDs_dp r q2)
end
def pEqB (p q : PV) : Option Bool := match toD p, toD q with
  | some d, some e => if (SeqAt.shaped d && SeqAt.shaped e) = true then some (PyData.eqv d e) else none
  | _, _ => none
def pEq (p q : PV) : Option PV := match pEqB p q with
  | some b => some (.bl b)
  | none => none
def pNe (p q : PV) : Option PV := match pEqB p q with
  | some b => some (.bl (!b))
  | none => none
mutual
theorem dp_mono {K : PySem.W.Frag} {H H' : Hp} (e : Ex H H') : ∀ {v : V} {d : PyData}, Dp K H v d → Dp K H' v d
  | _, _, .non => .non
  | _, _, .bl b => .bl b
  | _, _, .int b => .int b
  | _, _, .str b => .str b
  | _, _, .lst h r => .lst (e.sqL h) (dps_mono e r)
  | _, _, .tup h r => .tup (e.sqT h) (dps_mono e r)
theorem dps_mono {K : PySem.W.Frag} {H H' : Hp} (e : Ex H H') : ∀ {v : List V} {d : List PyData}, DpAll K H v d → DpAll K H' v d
  | _, _, .nil => .nil
  | _, _, .cons h r => .cons (dp_mono e h) (dps_mono e r)
end
theorem eqB_dp {G H : Hp} {x y : V} {p q : PV} {b : Bool} (gh : Ex G H) (rx : Rep Γ.K Γ.mg G x p) (ry : Rep Γ.K Γ.mg G y q) (h : pEqB p q = some b) :
    ∃ d e, Dp Γ.K H x d ∧ Dp Γ.K H y e ∧ SeqAt.shaped d = true ∧ SeqAt.shaped e = true ∧ PyData.eqv d e = b := by
  unfold pEqB at h
  cases hp : toD p with
  | none => rw [hp] at h; cases h
  | some d =>
    cases hq : toD q with
    | none => rw [hp, hq] at h; cases h
    | some e =>
      rw [hp, hq] at h
      simp only at h
      split at h
      · rename_i c
        obtain ⟨c1, c2⟩ := Bool.and_eq_true_iff.mp c
        exact ⟨d, e, dp_mono gh (toD_dp rx hp), dp_mono gh (toD_dp ry hq), c1, c2, Option.some.inj h⟩
      · cases h
theorem s_eqD : OpS Γ (rEqD Γ.K) pEq := by
  intro G H x y p q z Q gh rx ry hg k
  unfold pEq at hg
  cases hb : pEqB p q with
  | none => rw [hb] at hg; cases hg
  | some b =>
    rw [hb] at hg
    cases hg
    obtain ⟨d, e, h1, h2, h3, h4, h5⟩ := eqB_dp gh rx ry hb
    exact ⟨d, e, h1, h2, h3, h4, by rw [h5]; exact k _ G H (Grow.refl gh) (.bl _)⟩
theorem s_neD : OpS Γ (rNeD Γ.K) pNe := by
  intro G H x y p q z Q gh rx ry hg k
  unfold pNe at hg
  cases hb : pEqB p q with
  | none => rw [hb] at hg; cases hg
  | some b =>
    rw [hb] at hg
    cases hg
    obtain ⟨d, e, h1, h2, h3, h4, h5⟩ := eqB_dp gh rx ry hb
    exact ⟨d, e, h1, h2, h3, h4, by rw [h5]; exact k _ G H (Grow.refl gh) (.bl _)⟩
/-! is None, is True, is False -/
end
end PL
end

section
set_option Elab.async false
set_option linter.all false
set_option maxRecDepth 100000
set_option maxHeartbeats 4000000
set_option autoImplicit false
namespace PL
open PySem PySem.Spec PyProof.Rows L2

theorem EnvOk.addG {Γ : Gam} {G H : Hp} {σ : L2.St} {ρ : PEnv} {a : Addr} {o : HO} (ok : EnvOk Γ G σ H ρ) (hC : Γ.C a = none) (hG : G a = none) (hH : H a = some o)
    (hn : ∀ (i : Nat) (q : PV), ρ[i]? = some (Slot.own q) → σ[i]? ≠ some (some (V.ref a))) : EnvOk Γ (upd G a o) σ H ρ := by
  refine ⟨ok.len, ok.cH, ok.gH.putH hH, ok.g0.trans (Ex.new hG), fun b hb => ?_, ok.par, fun j q hj => ?_, fun j q hj => ?_, ok.dis⟩
  · rw [upd_ne (fun z : b = a => hb (by rw [z]; exact hC))]
    exact ok.gC b hb
  · obtain ⟨x, h1, h2⟩ := ok.val j q hj
    exact ⟨x, h1, h2.mono (Ex.new hG)⟩
  · obtain ⟨b, u, h1, h2, h3, h4, h5⟩ := ok.own j q hj
    refine ⟨b, u, h1, h2, ?_, h4, h5.mono (Ex.new hG)⟩
    rw [upd_ne (fun zz : b = a => hn j q hj (by rw [← zz]; exact h1))]
    exact h3
theorem EnvOk.notOwn {Γ : Gam} {G H : Hp} {σ : L2.St} {ρ : PEnv} {a : Addr} (ok : EnvOk Γ G σ H ρ) (hH : H a = none) (i : Nat) (q : PV) (hi : ρ[i]? = some (Slot.own q)) : σ[i]? ≠ some (some (V.ref a)) := fun z => by
  obtain ⟨b, u, h1, h2, h3, h4, h5⟩ := ok.own i q hi
  rw [h1] at z
  cases z
  rw [hH] at h4
  cases h4

section
variable {X : Cx} {Γ : Gam} {pos : Pos}
/-! ### fresh things -/
def PostF (Γ : Gam) (r : ERes PV) (G : Hp) (σ : L2.St) (Q : VK) : Prop := match r with
  | .ok p ρ' => ∀ a o G' H', Ex G G' → EnvOk Γ G' σ H' ρ' → Γ.C a = none → G' a = none → H' a = some o → Top Γ.K Γ.mg G' o p → (∀ (i : Nat) (q : PV), ρ'[i]? = some (Slot.own q) → σ[i]? ≠ some (some (V.ref a))) → Q (.ref a) H'
  | .exc c fs ρ' => ExcPost Γ c fs ρ' G σ
  | .bad => False
def DF (Γ : Gam) (f : EF) : TE := fun σ H Q => ∃ G ρ, EnvOk Γ G σ H ρ ∧ PostF Γ (f ρ) G σ Q
theorem PostF.mono {r : ERes PV} {G G1 : Hp} {σ : L2.St} {Q : VK} (e : Ex G G1) (h : PostF Γ r G σ Q) : PostF Γ r G1 σ Q := by
  cases r with
  | ok p ρ' => exact fun a o G' H' h1 => h a o G' H' (e.trans h1)
  | exc c fs ρ' => exact ExcPost.mono e h
  | bad => exact h
theorem DX.bindF {α1 β1 : Type} {rel1 : Hp → β1 → α1 → Prop} {f : PEnv → ERes α1} {k : α1 → PEnv → ERes PV} {G H : Hp} {σ : L2.St} {ρ : PEnv} {Q : VK} {Q1 : β1 → Hp → Prop}
    (ok : EnvOk Γ G σ H ρ) (h : PostF Γ ((f ρ).bind k) G σ Q)
    (c : ∀ v G1 H1 p ρ1, Ex G G1 → EnvOk Γ G1 σ H1 ρ1 → rel1 G1 v p → PostF Γ (k p ρ1) G1 σ Q → Q1 v H1) : DX Γ rel1 f σ H Q1 := by
  refine ⟨G, ρ, ok, ?_⟩
  cases e : f ρ with
  | ok p ρ1 =>
    rw [e] at h
    exact fun v G1 H1 h1 h2 h3 => c v G1 H1 p ρ1 h1 h2 h3 (PostF.mono h1 h)
  | exc a fs ρ1 =>
    rw [e] at h
    exact h
  | bad =>
    rw [e] at h
    exact h
/-- a fresh thing that nobody will change -/
theorem v_frz {e : Expr} {f : EF} (h : PE X e (DF Γ f)) : PE X e (DE Γ f) := PE.imp h fun σ H Q ⟨G, ρ, ok, q⟩ => by
  refine ⟨G, ρ, ok, ?_⟩
  cases hf : f ρ with
  | ok p ρ' =>
    rw [hf] at q
    exact fun a o G' H' h1 h2 h3 h4 h5 h6 h7 => q _ (upd G' a o) H' (h1.trans (Ex.new h4)) (h2.addG h3 h4 h5 h7) (h6.frz h4)
  | exc c fs ρ' => rw [hf] at q; exact q
  | bad => rw [hf] at q; exact q

/-! ### arguments, displays -/
def aNil : AF := fun ρ => .ok [] ρ
def aCons (fa : EF) (fr : AF) : AF := fun ρ => (fa ρ).bind fun p ρ1 => (fr ρ1).bind fun ps ρ2 => .ok (p :: ps) ρ2
theorem v_nil : PA X [] (DA Γ aNil) := PA.imp pa_nil fun σ H Q ⟨G, ρ, ok, h⟩ => h [] G H (Ex.refl G) ok .nil
theorem v_cons {e : Expr} {es : List Expr} {fa : EF} {fr : AF} (ha : PE X e (DE Γ fa)) (hr : PA X es (DA Γ fr)) (hs : starEach (e :: es) X.env = (false, eval e X.env) :: starEach es X.env := by rfl) : PA X (e :: es) (DA Γ (aCons fa fr)) :=
  PA.imp (pa_cons ha hr hs) fun σ H Q ⟨G, ρ, ok, h⟩ => by
    refine DX.bindI ok h fun x G1 H1 p ρ1 e1 ok1 r1 h1 => ?_
    refine DX.bindI ok1 h1 fun xs G2 H2 ps ρ2 e2 ok2 r2 h2 => ?_
    exact h2 (x :: xs) G2 H2 (Ex.refl G2) ok2 (.cons (r1.mono e2) r2)
theorem szOk {n : Nat} (h : n ≤ 100000) : n ≤ sizeLine := Nat.le_trans h (by rw [sizeLine_eq]; decide)
def eTup (fa : AF) : EF := fun ρ => (fa ρ).bind fun ps ρ1 => if decide (ps.length ≤ 100000) = true then .ok (.tup ps) ρ1 else .bad
theorem v_tup {es : List Expr} {fa : AF} {x1 : Nat} (ha : PA X es (DA Γ fa)) : PE X (.Tuple es x1 pos) (DE Γ (eTup fa)) :=
  PE.imp (pe_tup ha) fun σ H Q ⟨G, ρ, ok, h⟩ => by
    refine DX.bindI ok h fun xs G1 H1 ps ρ1 e1 ok1 r1 h1 => ?_
    split at h1
    · rename_i c
      have c' := of_decide_eq_true c
      refine ⟨szOk (by rw [r1.length]; exact c'), fun p hp => ?_⟩
      exact h1 _ (upd G1 p (.tup xs)) _ (Ex.new (ok1.gH.none hp)) (ok1.grow (Grow.new ok1.gH hp)) (Rep.newT (ok1.gH.none hp) r1)
    · exact h1.elim
def eLst (fa : AF) : EF := fun ρ => (fa ρ).bind fun ps ρ1 => if decide (ps.length ≤ 100000) = true then .ok (.lst ps) ρ1 else .bad
theorem f_lst {es : List Expr} {fa : AF} (ha : PA X es (DA Γ fa)) : PE X (.List es pos) (DF Γ (eLst fa)) :=
  PE.imp (pe_lst ha) fun σ H Q ⟨G, ρ, ok, h⟩ => by
    refine DX.bindF ok h fun xs G1 H1 ps ρ1 e1 ok1 r1 h1 => ?_
    split at h1
    · rename_i c
      have c' := of_decide_eq_true c
      refine ⟨szOk (by rw [r1.length]; exact c'), fun p hp => ?_⟩
      exact h1 p (.lst xs) G1 _ (Ex.refl G1) (ok1.grow (Grow.newH ok1.gH hp)) (ok1.cH.none hp) (ok1.gH.none hp) upd_same (.lst r1) fun i q hi => ok1.notOwn hp i q hi
    · exact h1.elim
theorem v_lst {es : List Expr} {fa : AF} (ha : PA X es (DA Γ fa)) : PE X (.List es pos) (DE Γ (eLst fa)) := v_frz (f_lst ha)

/-! ### tests -/
def pTru : PV → Option Bool
  | .non => some false
  | .bl b => some b
  | .int i => some (i != 0)
  | .str y => if decide (y.length ≤ 100000) = true then some ((y.length : Int) != 0) else none
  | .tup xs => some (!xs.isEmpty)
  | .lst xs => some (!xs.isEmpty)
  | _ => none
def tRes (o : Option Bool) (ρ : PEnv) : ERes Bool := match o with
  | some z => .ok z ρ
  | none => .bad
theorem Reps.isEmpty {K : PySem.W.Frag} {mg : Str → Option Value} {G : Hp} {vs : List V} {ps : List PV} (r : Reps K mg G vs ps) : vs.isEmpty = ps.isEmpty := by
  cases r <;> rfl
theorem truV {H G : Hp} {x : V} {p : PV} {k : Bool} (gh : Ex G H) (r : Rep Γ.K Γ.mg G x p) (h : pTru p = some k) : TruV Γ.K x H k := by
  cases r with
  | non => cases h; rfl
  | bl b => cases h; rfl
  | int b => cases h; rfl
  | str y =>
    simp only [pTru] at h
    split at h
    · rename_i c
      cases h
      exact ⟨szOk (of_decide_eq_true c), rfl⟩
    · cases h
  | tup h1 r1 => cases h; exact .inr (.inl ⟨_, gh.sqT h1, by rw [r1.isEmpty]⟩)
  | lst h1 r1 => cases h; exact .inl ⟨_, .inl (gh.rdL h1), by rw [r1.isEmpty]⟩
  | scr h1 r1 => cases h
  | obj _ _ _ => cases h
  | atm v => cases h
  | dicK _ _ => cases h
  | dicT _ _ => cases h
def tTru (f : EF) : TF := fun ρ => (f ρ).bind fun p ρ1 => tRes (pTru p) ρ1
theorem t_tru (hx : OkX X Γ) {e : Expr} {f : EF} (h : PE X e (DE Γ f)) (he : ∀ whole, isTrue e X.env whole = (do let v ← whole; standAt e.pos; holding [v] (truthy v)) := by intro _; rfl) : PT X e (DT Γ (tTru f)) :=
  PT.imp (pt_truth h he) fun σ H Q ⟨G, ρ, ok, q⟩ => by
    refine DX.bindI ok q fun x G1 H1 p ρ1 e1 ok1 r1 h1 => ?_
    cases hp : pTru p with
    | none => rw [hp] at h1; exact h1.elim
    | some k =>
      rw [hp] at h1
      exact ⟨k, by rw [hx.k]; exact truV ok1.gH r1 hp, h1 k G1 H1 (Ex.refl G1) ok1 rfl⟩
def tNo (f : TF) : TF := fun ρ => (f ρ).bind fun b ρ1 => .ok (!b) ρ1
theorem t_not {e : Expr} {f : TF} (h : PT X e (DT Γ f)) : PT X (.UnaryOp .Not e pos) (DT Γ (tNo f)) :=
  PT.imp (pt_not h) fun σ H Q ⟨G, ρ, ok, q⟩ => by
    refine DX.bindI ok q fun x G1 H1 p ρ1 e1 ok1 r1 h1 => ?_
    have r1' : x = p := r1
    subst r1'
    exact h1 _ G1 H1 (Ex.refl G1) ok1 rfl
def tAn (f g : TF) : TF := fun ρ => (f ρ).bind fun b ρ1 => if b = true then g ρ1 else .ok false ρ1
def tOo (f g : TF) : TF := fun ρ => (f ρ).bind fun b ρ1 => if b = true then .ok true ρ1 else g ρ1
theorem w_and {e b : Expr} {rest : List Expr} {f g : TF} (h : PT X e (DT Γ f)) (hr : PW X (.BoolOp .And (b :: rest) pos) (DT Γ g)) : PW X (.BoolOp .And (e :: b :: rest) pos) (DT Γ (tAn f g)) :=
  PW.imp (pw_and h hr) fun σ H Q ⟨G, ρ, ok, q⟩ => by
    refine DX.bindI ok q fun x G1 H1 p ρ1 e1 ok1 r1 h1 => ?_
    have r1' : x = p := r1
    subst r1'
    cases x with
    | true => exact ⟨G1, ρ1, ok1, h1⟩
    | false => exact h1 false G1 H1 (Ex.refl G1) ok1 rfl
theorem w_and1 {e : Expr} {f : TF} (h : PT X e (DT Γ f)) : PW X (.BoolOp .And [e] pos) (DT Γ f) := pw_and1 h
theorem w_or {e b : Expr} {rest : List Expr} {f g : TF} (h : PT X e (DT Γ f)) (hr : PW X (.BoolOp .Or (b :: rest) pos) (DT Γ g)) : PW X (.BoolOp .Or (e :: b :: rest) pos) (DT Γ (tOo f g)) :=
  PW.imp (pw_or h hr) fun σ H Q ⟨G, ρ, ok, q⟩ => by
    refine DX.bindI ok q fun x G1 H1 p ρ1 e1 ok1 r1 h1 => ?_
    have r1' : x = p := r1
    subst r1'
    cases x with
    | true => exact h1 true G1 H1 (Ex.refl G1) ok1 rfl
    | false => exact ⟨G1, ρ1, ok1, h1⟩
theorem w_or1 {e : Expr} {f : TF} (h : PT X e (DT Γ f)) : PW X (.BoolOp .Or [e] pos) (DT Γ f) := pw_or1 h
/-! values -/
def eAnd (fa fb : EF) : EF := fun ρ => (fa ρ).bind fun p ρ1 => match pTru p with
  | some true => fb ρ1
  | some false => .ok p ρ1
  | none => .bad
def eOr (fa fb : EF) : EF := fun ρ => (fa ρ).bind fun p ρ1 => match pTru p with
  | some true => .ok p ρ1
  | some false => fb ρ1
  | none => .bad
theorem v_and (hx : OkX X Γ) {e b : Expr} {rest : List Expr} {fa fb : EF} (h : PE X e (DE Γ fa)) (hr : PE X (.BoolOp .And (b :: rest) pos) (DE Γ fb)) : PE X (.BoolOp .And (e :: b :: rest) pos) (DE Γ (eAnd fa fb)) :=
  PE.imp (pe_andT h hr) fun σ H Q ⟨G, ρ, ok, q⟩ => by
    refine DX.bindI ok q fun x G1 H1 p ρ1 e1 ok1 r1 h1 => ?_
    cases hp : pTru p with
    | none => simp only [hp] at h1; exact h1.elim
    | some k =>
      simp only [hp] at h1
      refine ⟨k, by rw [hx.k]; exact truV ok1.gH r1 hp, ?_⟩
      cases k with
      | true => exact ⟨G1, ρ1, ok1, h1⟩
      | false => exact h1 x G1 H1 (Ex.refl G1) ok1 r1
theorem v_or (hx : OkX X Γ) {e b : Expr} {rest : List Expr} {fa fb : EF} (h : PE X e (DE Γ fa)) (hr : PE X (.BoolOp .Or (b :: rest) pos) (DE Γ fb)) : PE X (.BoolOp .Or (e :: b :: rest) pos) (DE Γ (eOr fa fb)) :=
  PE.imp (pe_orT h hr) fun σ H Q ⟨G, ρ, ok, q⟩ => by
    refine DX.bindI ok q fun x G1 H1 p ρ1 e1 ok1 r1 h1 => ?_
    cases hp : pTru p with
    | none => simp only [hp] at h1; exact h1.elim
    | some k =>
      simp only [hp] at h1
      refine ⟨k, by rw [hx.k]; exact truV ok1.gH r1 hp, ?_⟩
      cases k with
      | false => exact ⟨G1, ρ1, ok1, h1⟩
      | true => exact h1 x G1 H1 (Ex.refl G1) ok1 r1
theorem v_one {e : Expr} {op : BoolOp} {fa : EF} (h : PE X e (DE Γ fa)) : PE X (.BoolOp op [e] pos) (DE Γ fa) := pe_one h
def eNot (f : EF) : EF := fun ρ => (f ρ).bind fun p ρ1 => match pTru p with
  | some k => .ok (.bl (!k)) ρ1
  | none => .bad
def eIf (t : TF) (fa fb : EF) : EF := fun ρ => (t ρ).bind fun b ρ1 => if b = true then fa ρ1 else fb ρ1
theorem v_if {c a b : Expr} {t : TF} {fa fb : EF} (hc : PT X c (DT Γ t)) (ha : PE X a (DE Γ fa)) (hb : PE X b (DE Γ fb)) : PE X (.IfExp c a b pos) (DE Γ (eIf t fa fb)) :=
  PE.imp (pe_ifExp hc ha hb) fun σ H Q ⟨G, ρ, ok, q⟩ => by
    refine DX.bindI ok q fun x G1 H1 p ρ1 e1 ok1 r1 h1 => ?_
    have r1' : x = p := r1
    subst r1'
    cases x with
    | true => exact ⟨G1, ρ1, ok1, h1⟩
    | false => exact ⟨G1, ρ1, ok1, h1⟩

/-! ### items -/
def rIxA (K : PySem.W.Frag) : R2 := fun x y H Q => rIxL K x y H Q ∨ rIxT K x y H Q
theorem ix_any : IxR X (rIxA X.K) := fun value slice pins s σ H x y v u Q I r1 r2 h hs => by
  rcases h with h | h
  · exact ix_list value slice pins s σ H x y v u Q I r1 r2 h hs
  · exact ix_tup value slice pins s σ H x y v u Q I r1 r2 h hs
theorem Reps.at {K : PySem.W.Frag} {mg : Str → Option Value} {G : Hp} {vs : List V} {ps : List PV} {i : Int} {q : PV} (r : Reps K mg G vs ps) (h : atI ps i = some q) : ∃ v, atI vs i = some v ∧ Rep K mg G v q := by
  unfold atI at h ⊢
  rw [r.length]
  cases e : ixN ps.length i with
  | none => rw [e] at h; cases h
  | some j =>
    rw [e] at h
    exact r.get h
def pIx : PV → PV → Option PV
  | .lst xs, .int i => atI xs i
  | .tup xs, .int i => atI xs i
  | _, _ => none
theorem s_ix : OpS Γ (rIxA Γ.K) pIx := by
  intro G H x y p q z Q gh rx ry hg k
  cases p <;> cases q <;> first | (cases hg; done) | skip
  · cases ry
    cases rx with
    | tup h r =>
      obtain ⟨v, h1, h2⟩ := r.at hg
      exact .inr ⟨_, _, _, v, rfl, rfl, gh.sqT h, h1, k v G H (Grow.refl gh) h2⟩
  · cases ry
    cases rx with
    | lst h r =>
      obtain ⟨v, h1, h2⟩ := r.at hg
      exact .inl ⟨_, _, _, v, rfl, rfl, .inl (gh.rdL h), h1, k v G H (Grow.refl gh) h2⟩
theorem v_ix (hx : OkX X Γ) {a b : Expr} {fa fb : EF} (ha : PE X a (DE Γ fa)) (hb : PE X b (DE Γ fb)) (hs : PlainIx b := by exact fun _ _ => rfl) : PE X (.Subscript a b pos) (DE Γ (eOp pIx fa fb)) := by
  have h := pe_ix (pos := pos) (ix_any (X := X)) ha hb hs
  rw [hx.k] at h
  exact PE.imp h (opImp s_ix)
/-- an item of an owned list -/
def eIxO (i : Nat) (fb : EF) : EF := fun ρ => match ρ[i]? with
  | some (.own _) => (fb ρ).bind fun q ρ1 => match ρ1[i]? with
    | some (.own (.lst xs)) => oRes (pIx (.lst xs) q) ρ1
    | _ => .bad
  | _ => .bad
theorem v_ixO (hx : OkX X Γ) {a b : Expr} {i : Nat} {fb : EF} (ha : PE X a (tVar i)) (hb : PE X b (DE Γ fb)) (hs : PlainIx b := by exact fun _ _ => rfl) : PE X (.Subscript a b pos) (DE Γ (eIxO i fb)) := by
  have h := pe_ix (pos := pos) (ix_any (X := X)) ha hb hs
  rw [hx.k] at h
  refine PE.imp h fun σ H Q ⟨G, ρ, ok, q⟩ => ?_
  cases hi : ρ[i]? with
  | none => simp only [eIxO, hi] at q; exact q.elim
  | some s =>
    cases s with
    | own p =>
      simp only [eIxO, hi] at q
      obtain ⟨a, o, h1, h2, h3, h4, h5⟩ := ok.own i p hi
      refine ⟨_, h1, ?_⟩
      refine DX.bindI ok q fun y G1 H1 q' ρ1 e1 ok1 r1 k1 => ?_
      cases hj : ρ1[i]? with
      | none => simp only [hj] at k1; exact k1.elim
      | some s1 =>
        cases s1 with
        | own p1 =>
          cases p1 with
          | lst xs =>
            simp only [hj] at k1
            obtain ⟨a', o', g1, g2, g3, g4, g5⟩ := ok1.own i _ hj
            rw [h1] at g1
            cases g1
            cases q' with
            | int n =>
              cases g5 with
              | lst rr =>
                cases r1
                cases hz : pIx (.lst xs) (.int n) with
                | none => rw [hz] at k1; exact k1.elim
                | some z =>
                  rw [hz] at k1
                  obtain ⟨w, w1, w2⟩ := rr.at hz
                  exact .inl ⟨_, _, _, w, rfl, rfl, .inl (.inl g4), w1, k1 w G1 H1 (Ex.refl G1) ok1 w2⟩
            | _ => exact k1.elim
          | _ => simp only [hj] at k1; exact k1.elim
        | _ => simp only [hj] at k1; exact k1.elim
    | _ => simp only [eIxO, hi] at q; exact q.elim
end
end PL
end

section
set_option Elab.async false
set_option linter.all false
set_option maxRecDepth 100000
set_option maxHeartbeats 4000000
set_option autoImplicit false
namespace PL
open PySem PySem.Spec PyProof.Rows L2
section
variable {X : Cx} {Γ : Gam} {pos : Pos}
/-! ### calls of built-ins -/
def CallS (Γ : Gam) (r : List V → Hp → VK → Prop) (g : List PV → Option PV) : Prop := ∀ (G H : Hp) (vs : List V) (ps : List PV) (z : PV) (Q : VK), Ex G H → Reps Γ.K Γ.mg G vs ps → g ps = some z →
  (∀ v G' H', Grow G H G' H' → Rep Γ.K Γ.mg G' v z → Q v H') → r vs H Q
def eCall (g : List PV → Option PV) (fa : AF) : EF := fun ρ => (fa ρ).bind fun ps ρ1 => oRes (g ps) ρ1
theorem callImp {r : List V → Hp → VK → Prop} {g : List PV → Option PV} {fa : AF} (os : CallS Γ r g) : ∀ σ H Q, DE Γ (eCall g fa) σ H Q → tCB r (DA Γ fa) σ H Q := fun σ H Q ⟨G, ρ, ok, h⟩ => by
  refine DX.bindI ok h fun xs G1 H1 ps ρ1 e1 ok1 r1 h1 => ?_
  cases hg : g ps with
  | none => rw [hg] at h1; exact h1.elim
  | some z =>
    rw [hg] at h1
    exact os G1 H1 xs ps z Q ok1.gH r1 hg fun v G' H' gr rv => h1 v G' H' gr.gG (ok1.grow gr) rv
theorem v_callB {id : String} {r : List V → Hp → VK → Prop} {g : List PV → Option PV} {x : Str} {p : Pos} {e : Expr} {es : List Expr} {fa : AF} (hc : CallR X (.builtin id) r) (os : CallS Γ r g) (hg : Gl X x) (hm : X.mg x = none) (hv : bootBuiltins x = some (.builtin id)) (ha : PA X (e :: es) (DA Γ fa))
    (hn : x ≠ "__name__" := by decide) (hdb : (x == ("__debug__" : Str)) = false := by decide)
    (he : starEach (e :: es) X.env = (false, eval e X.env) :: starEach es X.env := by rfl) (hpl : (backTo pos (starEach es X.env)).any (·.1) = false := by rfl) : PE X (.Call (.Name x p) (e :: es) [] pos) (DE Γ (eCall g fa)) :=
  PE.imp (pe_callB hc hg hm hv ha hn hdb he hpl) (callImp os)
theorem v_callTy {T : String} {r : List V → Hp → VK → Prop} {g : List PV → Option PV} {x : Str} {p : Pos} {e : Expr} {es : List Expr} {fa : AF} (hc : CallR X (.type T) r) (os : CallS Γ r g) (hg : Gl X x) (hm : X.mg x = none) (hv : bootBuiltins x = some (.type T)) (ha : PA X (e :: es) (DA Γ fa))
    (hn : x ≠ "__name__" := by decide) (hdb : (x == ("__debug__" : Str)) = false := by decide)
    (he : starEach (e :: es) X.env = (false, eval e X.env) :: starEach es X.env := by rfl) (hpl : (backTo pos (starEach es X.env)).any (·.1) = false := by rfl) : PE X (.Call (.Name x p) (e :: es) [] pos) (DE Γ (eCall g fa)) :=
  PE.imp (pe_callTy hc hg hm hv ha hn hdb he hpl) (callImp os)
theorem v_callBf {id : String} {r : List V → Hp → VK → Prop} {g : List PV → Option PV} {x : Str} {p : Pos} {e : Expr} {es : List Expr} {fa : AF} (hc : CallR X (.builtin id) r) (os : CallS Γ r g) (hg : Gl X x) (hm : X.mg x = some (.builtin id)) (ha : PA X (e :: es) (DA Γ fa))
    (hdb : (x == ("__debug__" : Str)) = false := by decide)
    (he : starEach (e :: es) X.env = (false, eval e X.env) :: starEach es X.env := by rfl) (hpl : (backTo pos (starEach es X.env)).any (·.1) = false := by rfl) : PE X (.Call (.Name x p) (e :: es) [] pos) (DE Γ (eCall g fa)) :=
  PE.imp (pe_callBfun hc hg hm ha hdb he hpl) (callImp os)
theorem reps1 {K : PySem.W.Frag} {mg : Str → Option Value} {G : Hp} {vs : List V} {p : PV} (r : Reps K mg G vs [p]) : ∃ v, vs = [v] ∧ Rep K mg G v p := by
  cases r with
  | cons h t => cases t; exact ⟨_, rfl, h⟩
theorem reps2 {K : PySem.W.Frag} {mg : Str → Option Value} {G : Hp} {vs : List V} {p q : PV} (r : Reps K mg G vs [p, q]) : ∃ v w, vs = [v, w] ∧ Rep K mg G v p ∧ Rep K mg G w q := by
  cases r with
  | cons h t =>
    obtain ⟨w, rfl, h2⟩ := reps1 t
    exact ⟨_, w, rfl, h, h2⟩
def pLen : List PV → Option PV
  | [.str y] => if decide (y.length ≤ 100000) = true then some (.int y.length) else none
  | [.lst xs] => some (.int xs.length)
  | [.tup xs] => some (.int xs.length)
  | [.scr xs] => some (.int xs.length)
  | _ => none
theorem c_len : CallS Γ (fun xs H Q => ∃ x n, xs = [x] ∧ LenV Γ.K x H n ∧ Q (.int n) H) pLen := by
  intro G H vs ps z Q gh r hg k
  cases r with
  | nil => cases hg
  | cons r1 r2 =>
    cases r2 with
    | cons _ _ => rename_i p _ _ _ _ _ _; cases p <;> cases hg
    | nil =>
      cases r1 with
      | str y =>
        simp only [pLen] at hg
        split at hg
        · rename_i c
          cases hg
          exact ⟨_, y.length, rfl, ⟨szOk (of_decide_eq_true c), rfl⟩, k _ G H (Grow.refl gh) (.int _)⟩
        · cases hg
      | scr h rr => cases hg; exact ⟨_, _, rfl, .inl ⟨_, gh.sqL h, rfl⟩, k _ G H (Grow.refl gh) (by rw [rr.length]; exact .int _)⟩
      | lst h rr => cases hg; exact ⟨_, _, rfl, .inl ⟨_, .inl (gh.rdL h), rfl⟩, k _ G H (Grow.refl gh) (by rw [rr.length]; exact .int _)⟩
      | tup h rr => cases hg; exact ⟨_, _, rfl, .inr ⟨_, gh.sqT h, rfl⟩, k _ G H (Grow.refl gh) (by rw [rr.length]; exact .int _)⟩
      | _ => cases hg
def pAbs : List PV → Option PV
  | [.int i] => some (.int (if i < 0 then -i else i))
  | _ => none
theorem c_abs : CallS Γ (fun xs H Q => ∃ i, xs = [.int i] ∧ Q (.int (if i < 0 then -i else i)) H) pAbs := by
  intro G H vs ps z Q gh r hg k
  cases r with
  | nil => cases hg
  | cons r1 r2 =>
    cases r2 with
    | cons _ _ => rename_i p _ _ _ _ _ _; cases p <;> cases hg
    | nil =>
      cases r1 with
      | int i => cases hg; exact ⟨_, rfl, k _ G H (Grow.refl gh) (.int _)⟩
      | _ => cases hg
def pInt : List PV → Option PV
  | [.int i] => some (.int i)
  | [.bl b] => some (.int (if b then 1 else 0))
  | _ => none
theorem c_int : CallS Γ (fun xs H Q => (∃ i, xs = [.int i] ∧ Q (.int i) H) ∨ ∃ k, xs = [.bl k] ∧ Q (.int (if k then 1 else 0)) H) pInt := by
  intro G H vs ps z Q gh r hg k
  cases r with
  | nil => cases hg
  | cons r1 r2 =>
    cases r2 with
    | cons _ _ => rename_i p _ _ _ _ _ _; cases p <;> cases hg
    | nil =>
      cases r1 with
      | int i => cases hg; exact .inl ⟨_, rfl, k _ G H (Grow.refl gh) (.int _)⟩
      | bl i => cases hg; exact .inr ⟨_, rfl, k _ G H (Grow.refl gh) (.int _)⟩
      | _ => cases hg
def pStr : List PV → Option PV
  | [.int i] => if decide (i.natAbs.log2 < 1920) = true then some (.str (toString i)) else none
  | _ => none
theorem c_str : CallS Γ (fun xs H Q => ∃ i, xs = [.int i] ∧ i.natAbs.log2 < 1920 ∧ Q (.str (toString i)) H) pStr := by
  intro G H vs ps z Q gh r hg k
  cases r with
  | nil => cases hg
  | cons r1 r2 =>
    cases r2 with
    | cons _ _ => rename_i p _ _ _ _ _ _; cases p <;> cases hg
    | nil =>
      cases r1 with
      | int i =>
        simp only [pStr] at hg
        split at hg
        · rename_i c
          cases hg
          exact ⟨_, rfl, of_decide_eq_true c, k _ G H (Grow.refl gh) (.str _)⟩
        · cases hg
      | _ => cases hg
def pGcd : List PV → Option PV
  | [.int i, .int j] => some (.int ((Nat.gcd i.natAbs j.natAbs : Nat) : Int))
  | _ => none
theorem c_gcd : CallS Γ rGcd pGcd := by
  intro G H vs ps z Q gh r hg k
  unfold pGcd at hg
  split at hg
  · obtain ⟨v, w, rfl, h1, h2⟩ := reps2 r
    cases h1; cases h2; cases hg
    exact ⟨_, _, rfl, k _ G H (Grow.refl gh) (.int _)⟩
  · cases hg
def pTuple : List PV → Option PV
  | [.lst xs] => some (.tup xs)
  | [.tup xs] => some (.tup xs)
  | _ => none
theorem c_tuple : CallS Γ (fun xs H Q => ∃ p ys, xs = [.ref p] ∧ ((SqL Γ.K H p ys ∧ ∀ l, H l = none → Q (.ref l) (upd H l (.tup ys))) ∨ (SqT Γ.K H p ys ∧ Q (.ref p) H))) pTuple := by
  intro G H vs ps z Q gh r hg k
  cases r with
  | nil => cases hg
  | cons r1 r2 =>
    cases r2 with
    | cons _ _ => rename_i p _ _ _ _ _ _; cases p <;> cases hg
    | nil =>
      cases r1 with
      | lst h rr => cases hg; exact ⟨_, _, rfl, .inl ⟨.inl (gh.rdL h), fun l hl => k _ (upd G l (.tup _)) _ (Grow.new gh hl) (Rep.newT (gh.none hl) rr)⟩⟩
      | tup h rr => cases hg; exact ⟨_, _, rfl, .inr ⟨gh.sqT h, k _ G H (Grow.refl gh) (.tup h rr)⟩⟩
      | _ => cases hg
/-! isinstance of built-in types -/
def tyName : PV → Option String
  | .non => some "NoneType"
  | .bl _ => some "bool"
  | .int _ => some "int"
  | .str _ => some "str"
  | .tup _ => some "tuple"
  | .lst _ => some "list"
  | _ => none
def tyIs : List String := ["NoneType", "bool", "int", "str", "tuple", "list"]
def isaT (a b : String) : Bool := a == b || (a == "bool" && b == "int")
theorem kit_isa0 : ∀ a ∈ tyIs, ∀ b ∈ tyIs, kitB a b = some (isaT a b) := by decide +kernel
theorem kit_isa : ∀ a ∈ tyIs, ∀ b ∈ tyIs, ∀ K : PySem.W.Frag, PySem.W.kitOne K (.type a) (.type b) = some (isaT a b) := fun a ha b hb _ => kit_ty (kit_isa0 a ha b hb)
theorem tyX_of {G H : Hp} {x : V} {p : PV} {a : String} (gh : Ex G H) (r : Rep Γ.K Γ.mg G x p) (h : tyName p = some a) : TyX Γ.K H x (.type a) := by
  cases r with
  | non => cases h; exact .base .non
  | bl b => cases h; exact .base (.bl b)
  | int b => cases h; exact .base (.int b)
  | str b => cases h; exact .base (.str b)
  | tup h1 _ =>
    cases h
    rcases gh.sqT h1 with (e | ⟨o, e⟩) | ⟨o, its, n, e, c, _⟩
    · exact .base (.tup e)
    · exact .fTuple e
    · exact .kTuple e c
  | lst h1 _ =>
    cases h
    rcases gh.rdL h1 with e | ⟨o, e⟩
    · exact .base (.lst e)
    · exact .base (.frz e)
  | scr _ _ => cases h
  | obj _ _ _ => cases h
  | atm _ => cases h
  | dicK _ _ => cases h
  | dicT _ _ => cases h
theorem tyName_in {p : PV} {a : String} (h : tyName p = some a) : a ∈ tyIs := by
  cases p <;> cases h <;> decide
def pIsi : List PV → Option PV
  | [p, .atm (.ty b)] => match tyName p with
    | some a => if decide (b ∈ tyIs) = true then some (.bl (isaT a b)) else none
    | none => none
  | _ => none
theorem c_isi : CallS Γ (rIsi Γ.K) pIsi := by
  intro G H vs ps z Q gh r hg k
  unfold pIsi at hg
  split at hg
  · rename_i p b
    split at hg
    · rename_i a ha
      split at hg
      · rename_i c
        obtain ⟨v, w, rfl, h1, h2⟩ := reps2 r
        cases hg; cases h2
        exact ⟨_, _, _, _, isaT a b, rfl, .ty b, tyX_of gh h1 ha, kit_isa a (tyName_in ha) b (of_decide_eq_true c) Γ.K, k _ G H (Grow.refl gh) (.bl _)⟩
      · cases hg
    · cases hg
  · cases hg
/-! is None, is True -/
def rIsA : R2 := fun x y H Q => (y = .non ∧ Q (.bl (decide (x = .non))) H) ∨ (∃ a b : Bool, x = .bl a ∧ y = .bl b ∧ Q (.bl (decide (a = b))) H)
theorem op_isA : OpR X (compareOp .Is) rIsA := op_isN.or op_isBl
def rNotA : R2 := fun x y H Q => (y = .non ∧ Q (.bl (!decide (x = .non))) H) ∨ (∃ a b : Bool, x = .bl a ∧ y = .bl b ∧ Q (.bl (!decide (a = b))) H)
theorem op_notA : OpR X (compareOp .IsNot) rNotA := op_notN.or op_notBl
def isNon : PV → Option Bool
  | .non => some true
  | .atm _ => none
  | _ => some false
theorem isNon_ok {G : Hp} {x : V} {p : PV} {b : Bool} (r : Rep Γ.K Γ.mg G x p) (h : isNon p = some b) : decide (x = V.non) = b := by
  cases r <;> cases h <;> simp
def pIs : PV → PV → Option PV
  | .bl a, .bl b => some (.bl (decide (a = b)))
  | p, .non => match isNon p with
    | some b => some (.bl b)
    | none => none
  | _, _ => none
def pNot : PV → PV → Option PV
  | .bl a, .bl b => some (.bl (!decide (a = b)))
  | p, .non => match isNon p with
    | some b => some (.bl (!b))
    | none => none
  | _, _ => none
theorem s_is : OpS Γ rIsA pIs := by
  intro G H x y p q z Q gh rx ry hg k
  cases q with
  | non =>
    cases ry
    have hg2 : (match isNon p with | some b => some (PV.bl b) | none => none) = some z := by
      cases p <;> exact hg
    cases hb : isNon p with
    | none => rw [hb] at hg2; cases hg2
    | some b =>
      rw [hb] at hg2
      cases hg2
      exact .inl ⟨rfl, by rw [isNon_ok rx hb]; exact k _ G H (Grow.refl gh) (.bl _)⟩
  | bl b =>
    cases ry
    cases p <;> first | (cases hg; done) | skip
    cases rx; cases hg
    exact .inr ⟨_, _, rfl, rfl, k _ G H (Grow.refl gh) (.bl _)⟩
  | _ => cases p <;> cases hg
theorem s_isnot : OpS Γ rNotA pNot := by
  intro G H x y p q z Q gh rx ry hg k
  cases q with
  | non =>
    cases ry
    have hg2 : (match isNon p with | some b => some (PV.bl (!b)) | none => none) = some z := by
      cases p <;> exact hg
    cases hb : isNon p with
    | none => rw [hb] at hg2; cases hg2
    | some b =>
      rw [hb] at hg2
      cases hg2
      exact .inl ⟨rfl, by rw [isNon_ok rx hb]; exact k _ G H (Grow.refl gh) (.bl _)⟩
  | bl b =>
    cases ry
    cases p <;> first | (cases hg; done) | skip
    cases rx; cases hg
    exact .inr ⟨_, _, rfl, rfl, k _ G H (Grow.refl gh) (.bl _)⟩
  | _ => cases p <;> cases hg
/-! in, of data at any depth, in a list -/
def pIn : PV → PV → Option PV
  | p, .lst xs => match toD p, toD (.lst xs) with
    | some d, some (.list ds) => if (SeqAt.shaped d && SeqAt.shaped (.list ds)) = true then some (.bl (ds.any fun z => PyData.eqv z d)) else none
    | _, _ => none
  | _, _ => none
def pNotIn : PV → PV → Option PV := fun p q => match pIn p q with
  | some (.bl b) => some (.bl (!b))
  | _ => none
theorem in_some {G H : Hp} {x y : V} {p q z : PV} (gh : Ex G H) (rx : Rep Γ.K Γ.mg G x p) (ry : Rep Γ.K Γ.mg G y q) (hg : pIn p q = some z) :
    ∃ d ds, Dp Γ.K H x d ∧ Dp Γ.K H y (.list ds) ∧ SeqAt.shaped d = true ∧ SeqAt.shaped (.list ds) = true ∧ z = .bl (ds.any fun z => PyData.eqv z d) := by
  cases q <;> first | (cases hg; done) | skip
  rename_i xs
  simp only [pIn] at hg
  cases hp : toD p with
  | none => rw [hp] at hg; cases hg
  | some d =>
    cases hq : toD (.lst xs) with
    | none => rw [hp, hq] at hg; cases hg
    | some e =>
      rw [hp, hq] at hg
      cases e with
      | list ds =>
        simp only at hg
        split at hg
        · rename_i c
          obtain ⟨c1, c2⟩ := Bool.and_eq_true_iff.mp c
          cases hg
          exact ⟨d, ds, dp_mono gh (toD_dp rx hp), dp_mono gh (toD_dp ry hq), c1, c2, rfl⟩
        · cases hg
      | _ => cases hg
theorem s_in : OpS Γ (rInD Γ.K) pIn := by
  intro G H x y p q z Q gh rx ry hg k
  obtain ⟨d, ds, h1, h2, h3, h4, rfl⟩ := in_some gh rx ry hg
  exact ⟨d, ds, h1, h2, h3, h4, k _ G H (Grow.refl gh) (.bl _)⟩
theorem s_notIn : OpS Γ (rNotInD Γ.K) pNotIn := by
  intro G H x y p q z Q gh rx ry hg k
  unfold pNotIn at hg
  split at hg
  · rename_i b hb
    cases hg
    obtain ⟨d, ds, h1, h2, h3, h4, e⟩ := in_some gh rx ry hb
    cases e
    exact ⟨d, ds, h1, h2, h3, h4, k _ G H (Grow.refl gh) (.bl _)⟩
  · cases hg
/-! texts: + and f-strings -/
def pAddS : PV → PV → Option PV
  | .str i, .str j => if decide (i.length + j.length ≤ 100000) = true then some (.str (i ++ j)) else none
  | _, _ => none
theorem s_addS : OpS Γ (fun x y H Q => ∃ i j, x = .str i ∧ y = .str j ∧ i.length + j.length ≤ sizeLine ∧ Q (.str (i ++ j)) H) pAddS := by
  intro G H x y p q z Q gh rx ry hg k
  cases p <;> cases q <;> first | (cases hg; done) | skip
  cases rx; cases ry
  simp only [pAddS] at hg
  split at hg
  · rename_i c
    cases hg
    exact ⟨_, _, rfl, rfl, szOk (of_decide_eq_true c), k _ G H (Grow.refl gh) (.str _)⟩
  · cases hg
def pFmt : PV → Option PV
  | .str y => if decide (y.length ≤ 100000) = true then some (.str y) else none
  | .int i => if decide (i.natAbs.log2 < 1920) = true then some (.str (toString i)) else none
  | _ => none
def eFmt (fa : EF) : EF := fun ρ => (fa ρ).bind fun p ρ1 => oRes (pFmt p) ρ1
theorem v_fmt {e : Expr} {fa : EF} (h : PE X e (DE Γ fa)) : PE X (.FormattedValue e (-1) none pos) (DE Γ (eFmt fa)) :=
  PE.imp (pe_fmt h) fun σ H Q ⟨G, ρ, ok, q⟩ => by
    refine DX.bindI ok q fun x G1 H1 p ρ1 e1 ok1 r1 h1 => ?_
    cases r1 with
    | str y =>
      simp only [pFmt] at h1
      split at h1
      · rename_i c
        exact .inl ⟨y, rfl, szOk (of_decide_eq_true c), h1 _ G1 H1 (Ex.refl G1) ok1 (.str _)⟩
      · exact h1.elim
    | int i =>
      simp only [pFmt] at h1
      split at h1
      · rename_i c
        exact .inr ⟨i, rfl, of_decide_eq_true c, h1 _ G1 H1 (Ex.refl G1) ok1 (.str _)⟩
      · exact h1.elim
    | _ => exact h1.elim
theorem v_joined1 {e : Expr} {fa : EF} (h : PE X e (DE Γ fa)) : PE X (.JoinedStr [e] pos) (DE Γ fa) := pe_joined1 h
end
end PL
end

section
set_option Elab.async false
set_option linter.all false
set_option maxRecDepth 100000
set_option maxHeartbeats 4000000
set_option autoImplicit false
namespace PL
open PySem PySem.Spec PyProof.Rows L2

theorem EnvOk.set {Γ : Gam} {G H : Hp} {σ : L2.St} {ρ : PEnv} {i : Nat} {v : V} {p : PV} (ok : EnvOk Γ G σ H ρ) (np : Γ.P i = none) (r : Rep Γ.K Γ.mg G v p) : EnvOk Γ G (σ.set i (some v)) H (ρ.set i (.v p)) := by
  refine ⟨by simp [ok.len], ok.cH, ok.gH, ok.g0, ok.gC, fun j a hj => ?_, fun j q hj => ?_, fun j q hj => ?_, fun j k q s b hjk hj hk e1 e2 => ?_⟩
  · have z : j ≠ i := fun z => by rw [z, np] at hj; cases hj
    rw [List.getElem?_set_ne (Ne.symm z)]
    exact ok.par j a hj
  · by_cases z : j = i
    · subst z
      have hlt : j < ρ.length := by
        rcases Nat.lt_or_ge j ρ.length with h | h
        · exact h
        · rw [List.getElem?_eq_none (by simpa using h)] at hj; cases hj
      rw [List.getElem?_set_self hlt] at hj
      cases hj
      exact ⟨v, List.getElem?_set_self (by rw [ok.len]; exact hlt), r⟩
    · rw [List.getElem?_set_ne (Ne.symm z)] at hj ⊢
      exact ok.val j q hj
  · have z : j ≠ i := fun z => by
      subst z
      have hlt : j < ρ.length := by
        rcases Nat.lt_or_ge j ρ.length with h | h
        · exact h
        · rw [List.getElem?_eq_none (by simpa using h)] at hj; cases hj
      rw [List.getElem?_set_self hlt] at hj
      cases hj
    rw [List.getElem?_set_ne (Ne.symm z)] at hj ⊢
    exact ok.own j q hj
  · have z : ∀ (j : Nat) (q : PV), (ρ.set i (.v p))[j]? = some (Slot.own q) → j ≠ i := fun j q hj z => by
      subst z
      have hlt : j < ρ.length := by
        rcases Nat.lt_or_ge j ρ.length with h | h
        · exact h
        · rw [List.getElem?_eq_none (by simpa using h)] at hj; cases hj
      rw [List.getElem?_set_self hlt] at hj
      cases hj
    have z1 := z j q hj
    have z2 := z k s hk
    rw [List.getElem?_set_ne (Ne.symm z1)] at hj e1
    rw [List.getElem?_set_ne (Ne.symm z2)] at hk e2
    exact ok.dis j k q s b hjk hj hk e1 e2
theorem EnvOk.setNo {Γ : Gam} {G H : Hp} {σ : L2.St} {ρ : PEnv} {i : Nat} {v : Option V} (ok : EnvOk Γ G σ H ρ) (np : Γ.P i = none) : EnvOk Γ G (σ.set i v) H (ρ.set i .no) := by
  have z : ∀ (j : Nat) (q : Slot), q ≠ .no → (ρ.set i .no)[j]? = some q → j ≠ i := fun j q hq hj z => by
    subst z
    have hlt : j < ρ.length := by
      rcases Nat.lt_or_ge j ρ.length with h | h
      · exact h
      · rw [List.getElem?_eq_none (by simpa using h)] at hj; cases hj
    rw [List.getElem?_set_self hlt] at hj
    cases hj
    exact hq rfl
  refine ⟨by simp [ok.len], ok.cH, ok.gH, ok.g0, ok.gC, fun j a hj => ?_, fun j q hj => ?_, fun j q hj => ?_, fun j k q s b hjk hj hk e1 e2 => ?_⟩
  · have z : j ≠ i := fun z => by rw [z, np] at hj; cases hj
    rw [List.getElem?_set_ne (Ne.symm z)]
    exact ok.par j a hj
  · have z1 := z j _ (by intro h; cases h) hj
    rw [List.getElem?_set_ne (Ne.symm z1)] at hj ⊢
    exact ok.val j q hj
  · have z1 := z j _ (by intro h; cases h) hj
    rw [List.getElem?_set_ne (Ne.symm z1)] at hj ⊢
    exact ok.own j q hj
  · have z1 := z j _ (by intro h; cases h) hj
    have z2 := z k _ (by intro h; cases h) hk
    rw [List.getElem?_set_ne (Ne.symm z1)] at hj e1
    rw [List.getElem?_set_ne (Ne.symm z2)] at hk e2
    exact ok.dis j k q s b hjk hj hk e1 e2
theorem EnvOk.setO {Γ : Gam} {G H : Hp} {σ : L2.St} {ρ : PEnv} {i : Nat} {a : Addr} {o : HO} {p : PV} (ok : EnvOk Γ G σ H ρ) (np : Γ.P i = none) (hC : Γ.C a = none) (hG : G a = none) (hH : H a = some o) (ht : Top Γ.K Γ.mg G o p)
    (hn : ∀ (i : Nat) (q : PV), ρ[i]? = some (Slot.own q) → σ[i]? ≠ some (some (V.ref a))) : EnvOk Γ G (σ.set i (some (V.ref a))) H (ρ.set i (.own p)) := by
  have inb : ∀ (j : Nat) (q : Slot), (ρ.set i (.own p))[j]? = some q → j < ρ.length := fun j q hj => by
    rcases Nat.lt_or_ge j ρ.length with h | h
    · exact h
    · rw [List.getElem?_eq_none (by simpa using h)] at hj; cases hj
  refine ⟨by simp [ok.len], ok.cH, ok.gH, ok.g0, ok.gC, fun j b hj => ?_, fun j q hj => ?_, fun j q hj => ?_, fun j k q s b hjk hj hk e1 e2 => ?_⟩
  · have z : j ≠ i := fun z => by rw [z, np] at hj; cases hj
    rw [List.getElem?_set_ne (Ne.symm z)]
    exact ok.par j b hj
  · have z : j ≠ i := fun z => by
      subst z
      rw [List.getElem?_set_self (inb _ _ hj)] at hj
      cases hj
    rw [List.getElem?_set_ne (Ne.symm z)] at hj ⊢
    exact ok.val j q hj
  · by_cases z : j = i
    · subst z
      have hlt := inb _ _ hj
      rw [List.getElem?_set_self hlt] at hj
      cases hj
      exact ⟨a, o, List.getElem?_set_self (by rw [ok.len]; exact hlt), hC, hG, hH, ht⟩
    · rw [List.getElem?_set_ne (Ne.symm z)] at hj ⊢
      exact ok.own j q hj
  · have hjl := inb _ _ hj
    have hkl := inb _ _ hk
    by_cases z1 : j = i
    · by_cases z2 : k = i
      · exact hjk (z1.trans z2.symm)
      · subst z1
        rw [List.getElem?_set_ne (Ne.symm z2)] at hk e2
        rw [List.getElem?_set_self (by rw [ok.len]; exact hjl)] at e1
        cases e1
        exact hn k s hk e2
    · rw [List.getElem?_set_ne (Ne.symm z1)] at hj e1
      by_cases z2 : k = i
      · subst z2
        rw [List.getElem?_set_self (by rw [ok.len]; exact hkl)] at e2
        cases e2
        exact hn j q hj e1
      · rw [List.getElem?_set_ne (Ne.symm z2)] at hk e2
        exact ok.dis j k q s b hjk hj hk e1 e2
/-- an owned thing is changed -/
theorem EnvOk.write {Γ : Gam} {G H : Hp} {σ : L2.St} {ρ : PEnv} {i : Nat} {a : Addr} {o : HO} {p p' : PV} (ok : EnvOk Γ G σ H ρ) (hi : ρ[i]? = some (Slot.own p)) (ha : σ[i]? = some (some (V.ref a))) (ht : Top Γ.K Γ.mg G o p') :
    EnvOk Γ G σ (upd H a o) (ρ.set i (.own p')) := by
  have hlt : i < ρ.length := (List.getElem?_eq_some_iff.mp hi).1
  obtain ⟨a', u, g1, g2, g3, g4, g5⟩ := ok.own i p hi
  rw [ha] at g1
  cases g1
  have exn : ∀ {F : Hp}, Ex F H → F a = none → Ex F (upd H a o) := fun {F} e n b w hb => by
    rw [upd_ne (fun z : b = a => by rw [z, n] at hb; cases hb)]
    exact e b w hb
  refine ⟨by simp [ok.len], exn ok.cH g2, exn ok.gH g3, ok.g0, ok.gC, ok.par, fun j q hj => ?_, fun j q hj => ?_, fun j k q s b hjk hj hk e1 e2 => ?_⟩
  · have z : j ≠ i := fun z => by
      subst z
      rw [List.getElem?_set_self hlt] at hj
      cases hj
    rw [List.getElem?_set_ne (Ne.symm z)] at hj
    exact ok.val j q hj
  · by_cases z : j = i
    · subst z
      rw [List.getElem?_set_self hlt] at hj
      cases hj
      exact ⟨a, o, ha, g2, g3, upd_same, ht⟩
    · rw [List.getElem?_set_ne (Ne.symm z)] at hj
      obtain ⟨b, w, h1, h2, h3, h4, h5⟩ := ok.own j q hj
      refine ⟨b, w, h1, h2, h3, ?_, h5⟩
      rw [upd_ne (fun zz : b = a => ok.dis j i q p a z hj hi (by rw [← zz]; exact h1) ha)]
      exact h4
  · have back : ∀ (j : Nat) (q : PV), (ρ.set i (.own p'))[j]? = some (Slot.own q) → ∃ q', ρ[j]? = some (Slot.own q') := fun j q hj => by
      by_cases z : j = i
      · subst z; exact ⟨p, hi⟩
      · rw [List.getElem?_set_ne (Ne.symm z)] at hj; exact ⟨q, hj⟩
    obtain ⟨q', hj'⟩ := back j q hj
    obtain ⟨s', hk'⟩ := back k s hk
    exact ok.dis j k q' s' b hjk hj' hk' e1 e2

inductive SRes where
  | nx (ρ : PEnv) | rt (p : PV) (ρ : PEnv) | ro (p : PV) (ρ : PEnv) | bk (ρ : PEnv) | ct (ρ : PEnv)
  | exc (c : Str) (fs : List (Str × PV)) (ρ : PEnv) | bad
abbrev SF := PEnv → SRes
def ERes.bindS {α : Type} (r : ERes α) (k : α → PEnv → SRes) : SRes := match r with
  | .ok a ρ => k a ρ
  | .exc c fs ρ => .exc c fs ρ
  | .bad => .bad
def ExcPostS (Γ : Gam) (c : Str) (fs : List (Str × PV)) (ρ' : PEnv) (G : Hp) : Prop :=
  ∀ C d ws σ' G' H', Γ.mg c = some (.ref C) → Ex G G' → EnvOk Γ G' σ' H' ρ' → G' d = some (.xd ws) → RepF Γ.K Γ.mg G' ws fs → Γ.W (.ref C) (some d) σ' H'
def PostS (Γ : Gam) (r : SRes) (G : Hp) (D : Ends) : Prop := match r with
  | .nx ρ' => ∀ σ' G' H', Ex G G' → EnvOk Γ G' σ' H' ρ' → D.nx σ' H'
  | .bk ρ' => ∀ σ' G' H', Ex G G' → EnvOk Γ G' σ' H' ρ' → D.bk σ' H'
  | .ct ρ' => ∀ σ' G' H', Ex G G' → EnvOk Γ G' σ' H' ρ' → D.ct σ' H'
  | .rt p ρ' => ∀ v σ' G' H', Ex G G' → EnvOk Γ G' σ' H' ρ' → Rep Γ.K Γ.mg G' v p → D.rt v H'
  | .ro p ρ' => ∀ a o σ' G' H', Ex G G' → EnvOk Γ G' σ' H' ρ' → Γ.C a = none → G' a = none → H' a = some o → Top Γ.K Γ.mg G' o p → (∀ (i : Nat) (q : PV), ρ'[i]? = some (Slot.own q) → σ'[i]? ≠ some (some (V.ref a))) → D.rt (.ref a) H'
  | .exc c fs ρ' => ExcPostS Γ c fs ρ' G
  | .bad => False
def DS (Γ : Gam) (f : SF) : TS := fun D σ H => ∃ G ρ, EnvOk Γ G σ H ρ ∧ PostS Γ (f ρ) G D
theorem PostS.mono {Γ : Gam} {r : SRes} {G G1 : Hp} {D : Ends} (e : Ex G G1) (h : PostS Γ r G D) : PostS Γ r G1 D := by
  cases r with
  | nx ρ' => exact fun σ' G' H' h1 => h σ' G' H' (e.trans h1)
  | bk ρ' => exact fun σ' G' H' h1 => h σ' G' H' (e.trans h1)
  | ct ρ' => exact fun σ' G' H' h1 => h σ' G' H' (e.trans h1)
  | rt p ρ' => exact fun v σ' G' H' h1 => h v σ' G' H' (e.trans h1)
  | ro p ρ' => exact fun a o σ' G' H' h1 => h a o σ' G' H' (e.trans h1)
  | exc c fs ρ' => exact fun C d ws σ' G' H' h1 h2 => h C d ws σ' G' H' h1 (e.trans h2)
  | bad => exact h
theorem DX.bindS {α1 β1 : Type} {Γ : Gam} {rel1 : Hp → β1 → α1 → Prop} {f : PEnv → ERes α1} {k : α1 → PEnv → SRes} {G H : Hp} {σ : L2.St} {ρ : PEnv} {D : Ends} {Q1 : β1 → Hp → Prop}
    (ok : EnvOk Γ G σ H ρ) (h : PostS Γ ((f ρ).bindS k) G D)
    (c : ∀ v G1 H1 p ρ1, Ex G G1 → EnvOk Γ G1 σ H1 ρ1 → rel1 G1 v p → PostS Γ (k p ρ1) G1 D → Q1 v H1) : DX Γ rel1 f σ H Q1 := by
  refine ⟨G, ρ, ok, ?_⟩
  cases e : f ρ with
  | ok p ρ1 =>
    rw [e] at h
    exact fun v G1 H1 h1 h2 h3 => c v G1 H1 p ρ1 h1 h2 h3 (PostS.mono h1 h)
  | exc a fs ρ1 =>
    rw [e] at h
    exact fun C d ws G' H' => h C d ws σ G' H'
  | bad =>
    rw [e] at h
    exact h
theorem DF.bindS {Γ : Gam} {f : EF} {k : PV → PEnv → SRes} {G H : Hp} {σ : L2.St} {ρ : PEnv} {D : Ends} {Q1 : VK} (ok : EnvOk Γ G σ H ρ) (h : PostS Γ ((f ρ).bindS k) G D)
    (c : ∀ a o G1 H1 p ρ1, Ex G G1 → EnvOk Γ G1 σ H1 ρ1 → Γ.C a = none → G1 a = none → H1 a = some o → Top Γ.K Γ.mg G1 o p → (∀ (i : Nat) (q : PV), ρ1[i]? = some (Slot.own q) → σ[i]? ≠ some (some (V.ref a))) → PostS Γ (k p ρ1) G1 D → Q1 (.ref a) H1) : DF Γ f σ H Q1 := by
  refine ⟨G, ρ, ok, ?_⟩
  cases e : f ρ with
  | ok p ρ1 =>
    rw [e] at h
    exact fun a o G1 H1 h1 h2 h3 h4 h5 h6 h7 => c a o G1 H1 p ρ1 h1 h2 h3 h4 h5 h6 h7 (PostS.mono h1 h)
  | exc a fs ρ1 =>
    rw [e] at h
    exact fun C d ws G' H' => h C d ws σ G' H'
  | bad =>
    rw [e] at h
    exact h

section
variable {X : Cx} {Γ : Gam} {pos : Pos}
/-! ### targets -/
/-- all slots but these are as they were -/
def SBut (is : List Nat) (σ σ' : L2.St) : Prop := σ'.length = σ.length ∧ ∀ j : Nat, j ∉ is → σ'[j]? = σ[j]?
theorem SBut.refl (is : List Nat) (σ : L2.St) : SBut is σ σ := ⟨rfl, fun _ _ => rfl⟩
theorem SBut.trans {is js : List Nat} {σ σ1 σ2 : L2.St} (a : SBut is σ σ1) (b : SBut js σ1 σ2) : SBut (is ++ js) σ σ2 :=
  ⟨b.1.trans a.1, fun j hj => (b.2 j fun z => hj (List.mem_append_right _ z)).trans (a.2 j fun z => hj (List.mem_append_left _ z))⟩
abbrev GF := PV → PEnv → Option PEnv
abbrev GsF := List PV → PEnv → Option PEnv
def DG (Γ : Gam) (is : List Nat) (g : GF) : TG := fun v σ H Q => ∃ G ρ p, EnvOk Γ G σ H ρ ∧ Rep Γ.K Γ.mg G v p ∧ match g p ρ with
  | some ρ' => ∀ σ', EnvOk Γ G σ' H ρ' → SBut is σ σ' → Q σ' H
  | none => False
def DGs (Γ : Gam) (is : List Nat) (g : GsF) : TGs := fun vs σ H Q => ∃ G ρ ps, EnvOk Γ G σ H ρ ∧ Reps Γ.K Γ.mg G vs ps ∧ match g ps ρ with
  | some ρ' => ∀ σ', EnvOk Γ G σ' H ρ' → SBut is σ σ' → Q σ' H
  | none => False
theorem PG.imp {tg : Expr} {t t' : TG} (h : PG X tg t) (i : ∀ v σ H Q, t' v σ H Q → t v σ H Q) : PG X tg t' := ⟨fun pins s σ H v u Q I r z => h.run pins s σ H v u Q I r (i v σ H Q z)⟩
theorem PGs.imp {tg : List Expr} {t t' : TGs} (h : PGs X tg t) (i : ∀ v σ H Q, t' v σ H Q → t v σ H Q) : PGs X tg t' := ⟨fun pins s σ H v u Q I r z => h.run pins s σ H v u Q I r (i v σ H Q z)⟩
def gN (i : Nat) : GF := fun p ρ => some (ρ.set i (.v p))
theorem g_name {i : Nat} {tg : Expr} (h : PG X tg (gName i)) (np : Γ.P i = none) : PG X tg (DG Γ [i] (gN i)) := PG.imp h fun v σ H Q ⟨G, ρ, p, ok, r, q⟩ =>
  q _ (ok.set np r) ⟨by simp, fun j hj => List.getElem?_set_ne (fun z : i = j => hj (by simp [z]))⟩
def gsN : GsF := fun ps ρ => match ps with
  | [] => some ρ
  | _ => none
def gsC (g : GF) (gs : GsF) : GsF := fun ps ρ => match ps with
  | p :: r => match g p ρ with
    | some ρ' => gs r ρ'
    | none => none
  | [] => none
theorem gs_nil : PGs X [] (DGs Γ [] gsN) := PGs.imp pgs_nil fun v σ H Q ⟨G, ρ, ps, ok, r, q⟩ => by
  cases r with
  | nil => exact ⟨rfl, q σ ok (SBut.refl _ _)⟩
  | cons _ _ => exact q.elim
theorem gs_cons {e : Expr} {es : List Expr} {is js : List Nat} {g : GF} {gs : GsF} (h1 : PG X e (DG Γ is g)) (h2 : PGs X es (DGs Γ js gs)) (hs : (assignEach (e :: es) X.env).map (·.2) = assign e X.env :: (assignEach es X.env).map (·.2) := by rfl) : PGs X (e :: es) (DGs Γ (is ++ js) (gsC g gs)) :=
  PGs.imp (pgs_cons h1 h2 hs) fun v σ H Q ⟨G, ρ, ps, ok, r, q⟩ => by
    cases r with
    | nil => exact q.elim
    | @cons x xs p pp rv rr =>
      refine ⟨x, xs, rfl, G, ρ, p, ok, rv, ?_⟩
      simp only [gsC] at q
      cases hg : g p ρ with
      | none => rw [hg] at q; exact q.elim
      | some ρ' =>
        rw [hg] at q
        refine fun σ' ok' sb => ⟨G, ρ', pp, ok', rr, ?_⟩
        simp only at q
        cases hgs : gs pp ρ' with
        | none => rw [hgs] at q; exact q.elim
        | some ρ2 =>
          rw [hgs] at q
          exact fun σ2 ok2 sb2 => q σ2 ok2 (sb.trans sb2)
def gTp (n : Nat) (gs : GsF) : GF := fun p ρ => match p with
  | .tup xs => if decide (xs.length = n) = true then gs xs ρ else none
  | _ => none
theorem g_tup (hx : OkX X Γ) {es : List Expr} {k n : Nat} {is : List Nat} {gs : GsF} (hc : X.calm = true) (h : PGs X es (DGs Γ is gs)) (hn : (assignEach es X.env).length = n := by rfl) (hst : (assignEach es X.env).findIdx? (·.1) = none := by rfl) : PG X (.Tuple es k pos) (DG Γ is (gTp n gs)) :=
  PG.imp (pg_tup (pos := pos) (k := k) hc h hn hst) fun v σ H Q ⟨G, ρ, p, ok, r, q⟩ => by
    cases r with
    | tup h1 r1 =>
      simp only [gTp] at q
      split at q
      · rename_i ρ' e
        split at e
        · rename_i c
          exact ⟨_, _, rfl, by rw [hx.k]; exact ok.gH.sqT h1, by rw [r1.length]; exact of_decide_eq_true c, G, ρ, _, ok, r1, by rw [e]; exact q⟩
        · cases e
      · exact q.elim
    | _ => exact q.elim

/-! ### statements -/
def sAsg (i : Nat) (f : EF) : SF := fun ρ => (f ρ).bindS fun p ρ1 => .nx (ρ1.set i (.v p))
theorem s_asg {i : Nat} {st : Stmt} {f : EF} (h : PS X st (tAsg (DE Γ f) (gName i))) (np : Γ.P i = none) : PS X st (DS Γ (sAsg i f)) :=
  PS.imp h fun D σ H ⟨G, ρ, ok, q⟩ => DX.bindS ok q fun v G1 H1 p ρ1 e1 ok1 r1 h1 => h1 _ G1 H1 (Ex.refl G1) (ok1.set np r1)
def sAsgO (i : Nat) (f : EF) : SF := fun ρ => (f ρ).bindS fun p ρ1 => .nx (ρ1.set i (.own p))
theorem s_asgO {i : Nat} {st : Stmt} {f : EF} (h : PS X st (tAsg (DF Γ f) (gName i))) (np : Γ.P i = none) : PS X st (DS Γ (sAsgO i f)) :=
  PS.imp h fun D σ H ⟨G, ρ, ok, q⟩ => DF.bindS ok q fun a o G1 H1 p ρ1 e1 ok1 h2 h3 h4 h5 h6 h1 => h1 _ G1 H1 (Ex.refl G1) (ok1.setO np h2 h3 h4 h5 h6)
def sAsgG (g : GF) (f : EF) : SF := fun ρ => (f ρ).bindS fun p ρ1 => match g p ρ1 with
  | some ρ2 => .nx ρ2
  | none => .bad
theorem s_asgG {st : Stmt} {is : List Nat} {g : GF} {f : EF} (h : PS X st (tAsg (DE Γ f) (DG Γ is g))) : PS X st (DS Γ (sAsgG g f)) :=
  PS.imp h fun D σ H ⟨G, ρ, ok, q⟩ => DX.bindS ok q fun v G1 H1 p ρ1 e1 ok1 r1 h1 => by
    refine ⟨G1, ρ1, p, ok1, r1, ?_⟩
    cases hg : g p ρ1 with
    | none => simp only [hg] at h1; exact h1.elim
    | some ρ2 =>
      simp only [hg] at h1
      exact fun σ' ok' _ => h1 σ' G1 H1 (Ex.refl G1) ok'
/-- a, b = x, y -/
def sPar (i j : Nat) (fa : AF) : SF := fun ρ => (fa ρ).bindS fun ps ρ1 => match ps with
  | [p, q] => .nx ((ρ1.set i (.v p)).set j (.v q))
  | _ => .bad
theorem s_par {i j : Nat} {st : Stmt} {fa : AF} (h : PS X st (tPar i j (DA Γ fa))) (npi : Γ.P i = none) (npj : Γ.P j = none) : PS X st (DS Γ (sPar i j fa)) :=
  PS.imp h fun D σ H ⟨G, ρ, ok, q⟩ => DX.bindS ok q fun vs G1 H1 ps ρ1 e1 ok1 r1 h1 => by
    split at h1
    · obtain ⟨v, w, rfl, h2, h3⟩ := reps2 r1
      exact ⟨v, w, rfl, h1 _ G1 H1 (Ex.refl G1) ((ok1.set npi h2).set npj h3)⟩
    · exact h1.elim
def sDrop (f : EF) : SF := fun ρ => (f ρ).bindS fun _ ρ1 => .nx ρ1
theorem s_drop {st : Stmt} {f : EF} (h : PS X st (tDrop (DE Γ f))) : PS X st (DS Γ (sDrop f)) :=
  PS.imp h fun D σ H ⟨G, ρ, ok, q⟩ => DX.bindS ok q fun v G1 H1 p ρ1 e1 ok1 r1 h1 => h1 σ G1 H1 (Ex.refl G1) ok1
def sRet (f : EF) : SF := fun ρ => (f ρ).bindS fun p ρ1 => .rt p ρ1
theorem s_ret {e : Expr} {f : EF} (h : PE X e (DE Γ f)) : PS X (.Return (some e) pos) (DS Γ (sRet f)) :=
  PS.imp (ps_ret h) fun D σ H ⟨G, ρ, ok, q⟩ => DX.bindS ok q fun v G1 H1 p ρ1 e1 ok1 r1 h1 => h1 v σ G1 H1 (Ex.refl G1) ok1 r1
def sRetO (f : EF) : SF := fun ρ => (f ρ).bindS fun p ρ1 => .ro p ρ1
theorem s_retO {e : Expr} {f : EF} (h : PE X e (DF Γ f)) : PS X (.Return (some e) pos) (DS Γ (sRetO f)) :=
  PS.imp (ps_ret h) fun D σ H ⟨G, ρ, ok, q⟩ => DF.bindS ok q fun a o G1 H1 p ρ1 e1 ok1 h2 h3 h4 h5 h6 h1 => h1 a o σ G1 H1 (Ex.refl G1) ok1 h2 h3 h4 h5 h6
/-- return x, x a slot that is owned -/
def sRetV (i : Nat) : SF := fun ρ => match ρ[i]? with
  | some (.own p) => .ro p (ρ.set i .no)
  | _ => .bad
theorem s_retV {i : Nat} {e : Expr} (h : PE X e (tVar i)) (np : Γ.P i = none) : PS X (.Return (some e) pos) (DS Γ (sRetV i)) :=
  PS.imp (ps_ret h) fun D σ H ⟨G, ρ, ok, q⟩ => by
    cases hi : ρ[i]? with
    | none => simp only [sRetV, hi] at q; exact q.elim
    | some s =>
      cases s with
      | own p =>
        simp only [sRetV, hi] at q
        obtain ⟨a, o, h1, h2, h3, h4, h5⟩ := ok.own i p hi
        refine ⟨_, h1, ?_⟩
        have ok' : EnvOk Γ G (σ.set i none) H (ρ.set i .no) := ok.setNo np
        refine q a o _ G H (Ex.refl G) ok' h2 h3 h4 h5 fun j r hj e => ?_
        have hlt : i < ρ.length := (List.getElem?_eq_some_iff.mp hi).1
        have z : j ≠ i := fun z => by
          subst z
          rw [List.getElem?_set_self hlt] at hj
          cases hj
        rw [List.getElem?_set_ne (Ne.symm z)] at hj e
        exact ok.dis j i r p a z hj hi e h1
      | _ => simp only [sRetV, hi] at q; exact q.elim
def sRetN : SF := fun ρ => .rt .non ρ
theorem s_retN : PS X (.Return none pos) (DS Γ sRetN) := PS.imp ps_retN fun D σ H ⟨G, ρ, ok, q⟩ => q .non σ G H (Ex.refl G) ok .non
def sPass : SF := fun ρ => .nx ρ
theorem s_pass : PS X (.Pass pos) (DS Γ sPass) := PS.imp ps_pass fun D σ H ⟨G, ρ, ok, q⟩ => q σ G H (Ex.refl G) ok
theorem s_doc {x : Str} {j : Nat} {pos' : Pos} : PS X (.Expr (.Constant (.str x) j pos) pos') (DS Γ sPass) := PS.imp ps_doc fun D σ H ⟨G, ρ, ok, q⟩ => q σ G H (Ex.refl G) ok
def sBk : SF := fun ρ => .bk ρ
theorem s_bk : PS X (.Break pos) (DS Γ sBk) := PS.imp ps_break fun D σ H ⟨G, ρ, ok, q⟩ => q σ G H (Ex.refl G) ok
def sCt : SF := fun ρ => .ct ρ
theorem s_ct : PS X (.Continue pos) (DS Γ sCt) := PS.imp ps_continue fun D σ H ⟨G, ρ, ok, q⟩ => q σ G H (Ex.refl G) ok
/-! blocks -/
def sSeq (f g : SF) : SF := fun ρ => match f ρ with
  | .nx ρ1 => g ρ1
  | r => r
theorem ss_one {st : Stmt} {f : SF} (h : PS X st (DS Γ f)) : PSs X [st] (DS Γ f) := pss_one h
theorem ss_cons {st : Stmt} {rest : List Stmt} {f g : SF} (h : PS X st (DS Γ f)) (hr : PSs X rest (DS Γ g)) : PSs X (st :: rest) (DS Γ (sSeq f g)) :=
  PSs.imp (pss_cons h hr) fun D σ H ⟨G, ρ, ok, q⟩ => by
    refine ⟨G, ρ, ok, ?_⟩
    cases hf : f ρ with
    | nx ρ1 =>
      simp only [sSeq, hf] at q
      exact fun σ' G' H' e' ok' => ⟨G', ρ1, ok', PostS.mono e' q⟩
    | _ => simp only [sSeq, hf] at q; exact q
theorem ss_nil : PSs X [] (DS Γ sPass) := PSs.imp pss_nil fun D σ H ⟨G, ρ, ok, q⟩ => q σ G H (Ex.refl G) ok
def sIf (t : TF) (f g : SF) : SF := fun ρ => (t ρ).bindS fun b ρ1 => if b = true then f ρ1 else g ρ1
theorem s_if {c : Expr} {a b : List Stmt} {t : TF} {f g : SF} (hc : PT X c (DT Γ t)) (ha : PSs X a (DS Γ f)) (hb : PSs X b (DS Γ g)) : PS X (.If c a b pos) (DS Γ (sIf t f g)) :=
  PS.imp (ps_if hc ha hb) fun D σ H ⟨G, ρ, ok, q⟩ => DX.bindS ok q fun x G1 H1 p ρ1 e1 ok1 r1 h1 => by
    have r1' : x = p := r1
    subst r1'
    cases x with
    | true => exact ⟨G1, ρ1, ok1, h1⟩
    | false => exact ⟨G1, ρ1, ok1, h1⟩
/-! an owned list is changed -/
def sApp (i : Nat) (f : EF) : SF := fun ρ => match ρ[i]? with
  | some (.own (.lst _)) => (f ρ).bindS fun p ρ1 => match ρ1[i]? with
    | some (.own (.lst xs)) => if decide (xs.length < 100000) = true then .nx (ρ1.set i (.own (.lst (xs ++ [p])))) else .bad
    | _ => .bad
  | _ => .bad
theorem s_app (hx : OkX X Γ) {i : Nat} {st : Stmt} {f : EF} (h : PS X st (tDrop (tBM X.K "list" rAppend (tVar i) (tCons (DE Γ f) tNil)))) : PS X st (DS Γ (sApp i f)) :=
  PS.imp h fun D σ H ⟨G, ρ, ok, q⟩ => by
    cases hi : ρ[i]? with
    | none => simp only [sApp, hi] at q; exact q.elim
    | some s =>
      cases s with
      | own p =>
        cases p with
        | lst xs0 =>
          simp only [sApp, hi] at q
          obtain ⟨a, o, h1, h2, h3, h4, h5⟩ := ok.own i _ hi
          cases h5 with
          | lst r5 =>
            refine ⟨_, h1, .inl ⟨rfl, _, .inl (.inl h4)⟩, ?_⟩
            refine DX.bindS ok q fun y G1 H1 p1 ρ1 e1 ok1 r1 k1 => ?_
            cases hj : ρ1[i]? with
            | none => simp only [hj] at k1; exact k1.elim
            | some s1 =>
              cases s1 with
              | own p1 =>
                cases p1 with
                | lst xs =>
                  simp only [hj] at k1
                  obtain ⟨a', o', g1, g2, g3, g4, g5⟩ := ok1.own i _ hj
                  rw [h1] at g1
                  cases g1
                  split at k1
                  · rename_i c
                    cases g5 with
                    | lst rr =>
                      rename_i vs
                      refine ⟨_, vs, y, rfl, rfl, g4, ?_, ?_⟩
                      · rw [rr.length]
                        exact Nat.lt_of_lt_of_le (of_decide_eq_true c) (szOk (Nat.le_refl _))
                      · exact k1 σ G1 _ (Ex.refl G1) (ok1.write hj h1 (.lst (rr.append (.cons r1 .nil))))
                  · exact k1.elim
                | _ => simp only [hj] at k1; exact k1.elim
              | _ => simp only [hj] at k1; exact k1.elim
        | _ => simp only [sApp, hi] at q; exact q.elim
      | _ => simp only [sApp, hi] at q; exact q.elim
def sSetI (i : Nat) (fe fi : EF) : SF := fun ρ => (fe ρ).bindS fun p ρ1 => match ρ1[i]? with
  | some (.own _) => (fi ρ1).bindS fun q ρ2 => match ρ2[i]?, q with
    | some (.own (.lst xs)), .int k => match ixN xs.length k with
      | some j => .nx (ρ2.set i (.own (.lst (xs.set j p))))
      | none => .bad
    | _, _ => .bad
  | _ => .bad
theorem s_setI {i : Nat} {st : Stmt} {fe fi : EF} (h : PS X st (tAsg (DE Γ fe) (gSub (tVar i) (DE Γ fi) rSetL))) : PS X st (DS Γ (sSetI i fe fi)) :=
  PS.imp h fun D σ H ⟨G, ρ, ok, q⟩ => DX.bindS ok q fun y G1 H1 p ρ1 e1 ok1 r1 k1 => by
    cases hi : ρ1[i]? with
    | none => simp only [hi] at k1; exact k1.elim
    | some s =>
      cases s with
      | own p0 =>
        simp only [hi] at k1
        obtain ⟨a, o, h1, h2, h3, h4, h5⟩ := ok1.own i _ hi
        refine ⟨_, h1, ?_⟩
        refine DX.bindS ok1 k1 fun z G2 H2 q2 ρ2 e2 ok2 r2 k2 => ?_
        split at k2
        · rename_i xs k hj
          obtain ⟨a', o', g1, g2, g3, g4, g5⟩ := ok2.own i _ hj
          rw [h1] at g1
          cases g1
          cases r2
          cases g5 with
          | lst rr =>
            rename_i vs
            cases hk : ixN xs.length k with
            | none => rw [hk] at k2; exact k2.elim
            | some j =>
              rw [hk] at k2
              exact ⟨_, vs, _, j, rfl, rfl, g4, by rw [rr.length]; exact hk, k2 σ G2 _ (Ex.refl G2) (ok2.write hj h1 (.lst (rr.set (r1.mono e2) j)))⟩
        · exact k2.elim
      | _ => simp only [hi] at k1; exact k1.elim
end
end PL
end

section
set_option Elab.async false
set_option linter.all false
set_option maxRecDepth 100000
set_option maxHeartbeats 4000000
set_option autoImplicit false
namespace PL
open PySem PySem.Spec PyProof.Rows L2

/-! ### what is walked -/
structure Walks (Γ : Gam) (J : It) (G : Hp) (ps : List PV) : Prop where
  goes : ∀ (i : Nat) (H : Hp), i < ps.length → Ex G H → J.go i H
  stops : ∀ H : Hp, Ex G H → J.stop ps.length H
  yields : ∀ (i : Nat) (H : Hp) (x : V) (H' : Hp), i < ps.length → Ex G H → J.yld i H x H' → ∃ p, ps[i]? = some p ∧ ∀ G1 : Hp, Ex G G1 → Ex G1 H → ∃ G2, Grow G1 H G2 H' ∧ Rep Γ.K Γ.mg G2 x p
abbrev IF := PEnv → ERes (List PV)
def DI (Γ : Gam) (f : IF) : TI := fun σ H R => ∃ G ρ, EnvOk Γ G σ H ρ ∧ match f ρ with
  | .ok ps ρ' => ∀ J G' H', Ex G G' → EnvOk Γ G' σ H' ρ' → Walks Γ J G' ps → R J H'
  | .exc c fs ρ' => ExcPost Γ c fs ρ' G σ
  | .bad => False
theorem PI.imp {X : Cx} {tg e : Expr} {t t' : TI} (h : PI X tg e t) (i : ∀ σ H R, t' σ H R → t σ H R) : PI X tg e t' := ⟨fun pins s σ H R I z => h.run pins s σ H R I (i σ H R z)⟩
theorem PI.or {X : Cx} {tg e : Expr} {t u t' : TI} (h : PI X tg e t) (h2 : PI X tg e u) (i : ∀ σ H R, t' σ H R → t σ H R ∨ u σ H R) : PI X tg e t' := ⟨fun pins s σ H R I z => by
  rcases i σ H R z with q | q
  · exact h.run pins s σ H R I q
  · exact h2.run pins s σ H R I q⟩
section
variable {X : Cx} {Γ : Gam} {pos : Pos}
theorem walks_list {G : Hp} {a : Addr} {vs : List V} {ps : List PV} (h : SqL Γ.K G a vs) (r : Reps Γ.K Γ.mg G vs ps) : Walks Γ (Itl Γ.K a) G ps where
  goes := fun i H hi e => walk_list.goes i H (by rw [r.length]; exact hi) (e.sqL h)
  stops := fun H e => by rw [← r.length]; exact walk_list.stops H (e.sqL h)
  yields := fun i H x H' hi e y => by
    obtain ⟨e1, e2⟩ := walk_list.yields i H x H' (by rw [r.length]; exact hi) (e.sqL h) y
    subst e1
    obtain ⟨p, h1, h2⟩ := r.getV e2
    exact ⟨p, h1, fun G1 g1 g2 => ⟨G1, Grow.refl g2, h2.mono g1⟩⟩
theorem walks_tup {G : Hp} {a : Addr} {vs : List V} {ps : List PV} (h : SqT Γ.K G a vs) (r : Reps Γ.K Γ.mg G vs ps) : Walks Γ (Itt Γ.K a) G ps where
  goes := fun i H hi e => walk_tup.goes i H (by rw [r.length]; exact hi) (e.sqT h)
  stops := fun H e => by rw [← r.length]; exact walk_tup.stops H (e.sqT h)
  yields := fun i H x H' hi e y => by
    obtain ⟨e1, e2⟩ := walk_tup.yields i H x H' (by rw [r.length]; exact hi) (e.sqT h) y
    subst e1
    obtain ⟨p, h1, h2⟩ := r.getV e2
    exact ⟨p, h1, fun G1 g1 g2 => ⟨G1, Grow.refl g2, h2.mono g1⟩⟩
/-- a list or a tuple -/
def iSeq (f : EF) : IF := fun ρ => (f ρ).bind fun p ρ1 => match p with
  | .lst xs => .ok xs ρ1
  | .tup xs => .ok xs ρ1
  | .scr xs => .ok xs ρ1
  | _ => .bad
theorem i_seq (hx : OkX X Γ) {tg e : Expr} {f : EF} (h : PE X e (DE Γ f)) : PI X tg e (DI Γ (iSeq f)) := by
  refine PI.or (pi_list (tg := tg) h) (pi_tup (tg := tg) h) fun σ H R ⟨G, ρ, ok, q⟩ => ?_
  cases hf : f ρ with
  | bad => simp only [iSeq, hf, ERes.bind] at q
  | exc c fs ρ1 =>
    simp only [iSeq, hf, ERes.bind] at q
    refine .inl ⟨G, ρ, ok, ?_⟩
    rw [hf]; exact q
  | ok p ρ1 =>
    cases p with
    | lst xs =>
      simp only [iSeq, hf, ERes.bind] at q
      refine .inl ⟨G, ρ, ok, ?_⟩
      rw [hf]
      intro v G' H' e1 ok1 r1
      cases r1 with
      | lst h1 rr => exact ⟨_, rfl, ⟨_, .inl (ok1.gH.rdL h1)⟩, by rw [hx.k]; exact q _ G' H' e1 ok1 (walks_list (.inl (.inl h1)) rr)⟩
    | scr xs =>
      simp only [iSeq, hf, ERes.bind] at q
      refine .inl ⟨G, ρ, ok, ?_⟩
      rw [hf]
      intro v G' H' e1 ok1 r1
      cases r1 with
      | scr h1 rr => exact ⟨_, rfl, ⟨_, by rw [hx.k]; exact ok1.gH.sqL h1⟩, by rw [hx.k]; exact q _ G' H' e1 ok1 (walks_list h1 rr)⟩
    | tup xs =>
      simp only [iSeq, hf, ERes.bind] at q
      refine .inr ⟨G, ρ, ok, ?_⟩
      rw [hf]
      intro v G' H' e1 ok1 r1
      cases r1 with
      | tup h1 rr => exact ⟨_, rfl, ⟨_, by rw [hx.k]; exact ok1.gH.sqT h1⟩, by rw [hx.k]; exact q _ G' H' e1 ok1 (walks_tup h1 rr)⟩
    | _ => simp only [iSeq, hf, ERes.bind] at q
/-! range -/
def intsP (lo : Int) (n : Nat) : List PV := (List.range n).map fun i => PV.int (lo + (i : Nat))
theorem intsP_len (lo : Int) (n : Nat) : (intsP lo n).length = n := by simp [intsP]
theorem intsP_get {lo : Int} {n i : Nat} (h : i < n) : (intsP lo n)[i]? = some (.int (lo + (i : Nat))) := by simp [intsP, h]
theorem walks_range {G : Hp} {lo : Int} {n : Nat} : Walks Γ (Itr lo n) G (intsP lo n) where
  goes := fun i H hi _ => by rw [intsP_len] at hi; exact hi
  stops := fun H _ => by rw [intsP_len]; exact Nat.le_refl _
  yields := fun i H x H' hi _ y => by
    rw [intsP_len] at hi
    obtain ⟨e1, e2⟩ := y
    subst e1 e2
    exact ⟨_, intsP_get hi, fun G1 _ g2 => ⟨G1, Grow.refl g2, .int _⟩⟩
def rng1 : List PV → Option (List PV)
  | [.int j] => if decide (-100000 ≤ j ∧ j ≤ 100000) = true then some (intsP 0 j.toNat) else none
  | _ => none
def rng2 : List PV → Option (List PV)
  | [.int i, .int j] => if decide ((-100000 ≤ i ∧ i ≤ 100000) ∧ (-100000 ≤ j ∧ j ≤ 100000)) = true then some (intsP i (j - i).toNat) else none
  | _ => none
def lRes (o : Option (List PV)) (ρ : PEnv) : ERes (List PV) := match o with
  | some z => .ok z ρ
  | none => .bad
def iArg (g : List PV → Option (List PV)) (fa : AF) : IF := fun ρ => (fa ρ).bind fun ps ρ1 => lRes (g ps) ρ1
theorem DX.bindI2 {α1 β1 : Type} {rel1 : Hp → β1 → α1 → Prop} {f : PEnv → ERes α1} {k : α1 → PEnv → ERes (List PV)} {G H : Hp} {σ : L2.St} {ρ : PEnv} {R : It → Hp → Prop} {Q1 : β1 → Hp → Prop}
    (ok : EnvOk Γ G σ H ρ) (h : match (f ρ).bind k with
      | .ok ps ρ' => ∀ J G' H', Ex G G' → EnvOk Γ G' σ H' ρ' → Walks Γ J G' ps → R J H'
      | .exc c fs ρ' => ExcPost Γ c fs ρ' G σ
      | .bad => False)
    (c : ∀ v G1 H1 p ρ1, Ex G G1 → EnvOk Γ G1 σ H1 ρ1 → rel1 G1 v p → (match k p ρ1 with
      | .ok ps ρ' => ∀ J G' H', Ex G1 G' → EnvOk Γ G' σ H' ρ' → Walks Γ J G' ps → R J H'
      | .exc c fs ρ' => ExcPost Γ c fs ρ' G1 σ
      | .bad => False) → Q1 v H1) : DX Γ rel1 f σ H Q1 := by
  refine ⟨G, ρ, ok, ?_⟩
  cases e : f ρ with
  | ok p ρ1 =>
    rw [e] at h
    refine fun v G1 H1 h1 h2 h3 => c v G1 H1 p ρ1 h1 h2 h3 ?_
    simp only [ERes.bind] at h
    cases hk : k p ρ1 with
    | ok ps ρ' => rw [hk] at h; exact fun J G' H' g => h J G' H' (h1.trans g)
    | exc c fs ρ' => rw [hk] at h; exact ExcPost.mono h1 h
    | bad => rw [hk] at h; exact h
  | exc a fs ρ1 =>
    rw [e] at h
    exact h
  | bad =>
    rw [e] at h
    exact h
theorem i_arg {tg e : Expr} {g : List PV → Option (List PV)} {fa : AF} {wi : TI} (h : PI X tg e wi)
    (hw : ∀ σ H R, DX Γ (Reps Γ.K Γ.mg) fa σ H (fun vs H1 => ∃ G1 ρ1 ps zs, EnvOk Γ G1 σ H1 ρ1 ∧ Reps Γ.K Γ.mg G1 vs ps ∧ g ps = some zs ∧ ∀ J G' H', Ex G1 G' → EnvOk Γ G' σ H' ρ1 → Walks Γ J G' zs → R J H') → wi σ H R) : PI X tg e (DI Γ (iArg g fa)) :=
  PI.imp h fun σ H R ⟨G, ρ, ok, q⟩ => by
    refine hw σ H R (DX.bindI2 ok q fun vs G1 H1 ps ρ1 e1 ok1 r1 h1 => ?_)
    cases hg : g ps with
    | none => rw [hg] at h1; exact h1.elim
    | some zs => rw [hg] at h1; exact ⟨G1, ρ1, ps, zs, ok1, r1, hg, h1⟩
theorem DX.monoQ {α β : Type} {rel : Hp → β → α → Prop} {f : PEnv → ERes α} {σ : L2.St} {H : Hp} {Q Q' : β → Hp → Prop} (h : DX Γ rel f σ H Q) (i : ∀ v H', Q v H' → Q' v H') : DX Γ rel f σ H Q' := by
  obtain ⟨G, ρ, ok, q⟩ := h
  refine ⟨G, ρ, ok, ?_⟩
  cases e : f ρ with
  | ok p ρ1 => rw [e] at q; exact fun v G' H' h1 h2 h3 => i v H' (q v G' H' h1 h2 h3)
  | exc c fs ρ1 => rw [e] at q; exact q
  | bad => rw [e] at q; exact q
theorem i_rng1 {tg e : Expr} {fa : AF} (h : PI X tg e (iRng1 (DA Γ fa))) : PI X tg e (DI Γ (iArg rng1 fa)) :=
  i_arg h fun σ H R q => DX.monoQ q fun vs H1 ⟨G1, ρ1, ps, zs, ok1, r1, hg, k⟩ => by
    unfold rng1 at hg
    split at hg
    · split at hg
      · rename_i j c
        cases hg
        have c' := of_decide_eq_true c
        obtain ⟨v, rfl, rv⟩ := reps1 r1
        cases rv
        refine ⟨j, rfl, ?_, ?_, k _ G1 H1 (Ex.refl G1) ok1 walks_range⟩
        · exact Int.le_trans (by decide) c'.1
        · exact Int.lt_of_le_of_lt c'.2 (by decide)
      · cases hg
    · cases hg
theorem i_rng2 {tg e : Expr} {fa : AF} (h : PI X tg e (iRng2 (DA Γ fa))) : PI X tg e (DI Γ (iArg rng2 fa)) :=
  i_arg h fun σ H R q => DX.monoQ q fun vs H1 ⟨G1, ρ1, ps, zs, ok1, r1, hg, k⟩ => by
    unfold rng2 at hg
    split at hg
    · split at hg
      · rename_i i j c
        cases hg
        have c' := of_decide_eq_true c
        obtain ⟨v, w, rfl, rv, rw'⟩ := reps2 r1
        cases rv; cases rw'
        refine ⟨i, j, rfl, ⟨?_, ?_, ?_, ?_⟩, k _ G1 H1 (Ex.refl G1) ok1 walks_range⟩
        · exact Int.le_trans (by decide) c'.1.1
        · exact Int.lt_of_le_of_lt c'.1.2 (by decide)
        · exact Int.le_trans (by decide) c'.2.1
        · exact Int.lt_of_le_of_lt c'.2.2 (by decide)
      · cases hg
    · cases hg
/-! pairs -/
theorem repPair {G H : Hp} {T : Addr} {x y : V} {p q : PV} (gh : Ex G H) (hT : H T = none) (rx : Rep Γ.K Γ.mg G x p) (ry : Rep Γ.K Γ.mg G y q) :
    ∃ G2, Grow G H G2 (upd H T (.tup [x, y])) ∧ Rep Γ.K Γ.mg G2 (.ref T) (.tup [p, q]) :=
  ⟨_, Grow.new gh hT, Rep.newT (gh.none hT) (.cons rx (.cons ry .nil))⟩
def enumP (ps : List PV) : List PV := (intsP 0 ps.length).zipWith (fun a b => PV.tup [a, b]) ps
theorem enumP_len (ps : List PV) : (enumP ps).length = ps.length := by simp [enumP, intsP_len]
theorem enumP_get {ps : List PV} {i : Nat} {p : PV} (h : ps[i]? = some p) : (enumP ps)[i]? = some (.tup [.int (i : Nat), p]) := by
  have hi := (List.getElem?_eq_some_iff.mp h).1
  simp [enumP, List.getElem?_zipWith, intsP_get hi, h]
theorem walks_enum {G : Hp} {a : Addr} {vs : List V} {ps : List PV} (h : SqL Γ.K G a vs) (r : Reps Γ.K Γ.mg G vs ps) : Walks Γ (Ite Γ.K a) G (enumP ps) where
  goes := fun i H hi e => by
    rw [enumP_len] at hi
    exact walk_enum.goes i H (by rw [r.length]; exact hi) (e.sqL h)
  stops := fun H e => by rw [enumP_len, ← r.length]; exact walk_enum.stops H (e.sqL h)
  yields := fun i H x H' hi e y => by
    rw [enumP_len] at hi
    obtain ⟨T, u, w, h1, h2, h3, h4, h5⟩ := walk_enum.yields i H x H' (by rw [r.length]; exact hi) (e.sqL h) y
    subst h1 h3
    obtain ⟨p, g1, g2⟩ := r.getV h5
    cases h4
    exact ⟨_, enumP_get g1, fun G1 e1 e2 => repPair e2 h2 (.int _) (g2.mono e1)⟩

/-! ### for -/
def forL (g : GF) (body : SF) : List PV → PEnv → SRes
  | [], ρ => .nx ρ
  | p :: ps, ρ => match g p ρ with
    | none => .bad
    | some ρ1 => match body ρ1 with
      | .nx ρ2 => forL g body ps ρ2
      | .ct ρ2 => forL g body ps ρ2
      | .bk ρ2 => .nx ρ2
      | r => r
def sFor (fi : IF) (g : GF) (body : SF) : SF := fun ρ => (fi ρ).bindS fun ps ρ1 => forL g body ps ρ1
theorem s_for {st : Stmt} {is : List Nat} {fi : IF} {g : GF} {body : SF} (h : PS X st (tFor (DI Γ fi) (DG Γ is g) (DS Γ body))) : PS X st (DS Γ (sFor fi g body)) :=
  PS.imp h fun D σ H ⟨G, ρ, ok, q⟩ => by
    refine ⟨G, ρ, ok, ?_⟩
    cases hf : fi ρ with
    | bad => simp only [sFor, hf, ERes.bindS] at q; exact q
    | exc c fs ρ1 =>
      simp only [sFor, hf, ERes.bindS] at q
      exact fun C d ws G' H' => q C d ws σ G' H'
    | ok ps ρ1 =>
      simp only [sFor, hf, ERes.bindS] at q
      intro J G0 H0 e0 ok0 wk
      have q0 := PostS.mono e0 q
      have w : Walk J ps.length (fun H => Ex G0 H) (fun i H x H' => ∃ p, ps[i]? = some p ∧ ∀ G1 : Hp, Ex G0 G1 → Ex G1 H → ∃ G2, Grow G1 H G2 H' ∧ Rep Γ.K Γ.mg G2 x p) :=
        ⟨wk.goes, fun H h => wk.stops H h, wk.yields⟩
      refine for_it w (fun i σ H => ∃ G' ρ', Ex G0 G' ∧ EnvOk Γ G' σ H ρ' ∧ PostS Γ (forL g body (ps.drop i) ρ') G' D) ⟨G0, ρ1, Ex.refl G0, ok0, q0⟩ (fun i σ H _ ⟨G', ρ', e', ok', _⟩ => e'.trans ok'.gH) ?_ ?_
      · rintro i x σ1 H1 H1' hi ⟨G1, ρ2, e1, ok1, k1⟩ ⟨p, hp, hy⟩
        obtain ⟨G2, gr, rx⟩ := hy G1 e1 ok1.gH
        have hd : ps.drop i = p :: ps.drop (i + 1) := by
          obtain ⟨hlt, hpe⟩ := List.getElem?_eq_some_iff.mp hp
          rw [List.drop_eq_getElem_cons hlt, hpe]
        rw [hd] at k1
        refine ⟨G2, ρ2, p, ok1.grow gr, rx, ?_⟩
        simp only [forL] at k1
        cases hg : g p ρ2 with
        | none => rw [hg] at k1; exact k1.elim
        | some ρ3 =>
          rw [hg] at k1
          intro σ2 ok2 _
          refine ⟨G2, ρ3, ok2, ?_⟩
          simp only at k1
          have k2 := PostS.mono gr.gG k1
          cases hb : body ρ3 with
          | nx ρ4 => rw [hb] at k2; exact fun σ' G' H' e' ok' => ⟨G', ρ4, (e1.trans gr.gG).trans e', ok', PostS.mono e' k2⟩
          | ct ρ4 => rw [hb] at k2; exact fun σ' G' H' e' ok' => ⟨G', ρ4, (e1.trans gr.gG).trans e', ok', PostS.mono e' k2⟩
          | bk ρ4 => rw [hb] at k2; exact k2
          | rt p ρ4 => rw [hb] at k2; exact k2
          | ro p ρ4 => rw [hb] at k2; exact k2
          | exc c fs ρ4 => rw [hb] at k2; exact k2
          | bad => rw [hb] at k2; exact k2
      · rintro σ1 H1 ⟨G1, ρ2, e1, ok1, k1⟩
        rw [List.drop_length] at k1
        exact k1 σ1 G1 H1 (Ex.refl G1) ok1
/-! ### while -/
def whileL (t : TF) (body : SF) : Nat → PEnv → SRes
  | 0, _ => .bad
  | n + 1, ρ => (t ρ).bindS fun b ρ1 => if b = true then (match body ρ1 with
      | .nx ρ2 => whileL t body n ρ2
      | .ct ρ2 => whileL t body n ρ2
      | .bk ρ2 => .nx ρ2
      | r => r) else .nx ρ1
def sWhile (fuel : PEnv → Nat) (t : TF) (body : SF) : SF := fun ρ => whileL t body (fuel ρ) ρ
theorem s_while {st : Stmt} {fuel : PEnv → Nat} {t : TF} {body : SF} (h : PS X st (tWhile (DT Γ t) (DS Γ body))) : PS X st (DS Γ (sWhile fuel t body)) :=
  PS.imp h fun D σ H ⟨G, ρ, ok, q⟩ => by
    refine ⟨fun m σ H => ∃ G ρ, EnvOk Γ G σ H ρ ∧ PostS Γ (whileL t body m ρ) G D, ⟨fuel ρ, G, ρ, ok, q⟩, ?_⟩
    rintro m σ1 H1 ⟨G1, ρ1, ok1, k1⟩
    cases m with
    | zero => exact k1.elim
    | succ n =>
      refine DX.bindS ok1 k1 fun b G2 H2 p ρ2 e2 ok2 r2 k2 => ?_
      have r2' : b = p := r2
      subst r2'
      cases b with
      | false => exact k2 σ1 G2 H2 (Ex.refl G2) ok2
      | true =>
        refine ⟨fun σ H => ∃ G ρ, EnvOk Γ G σ H ρ ∧ PostS Γ (whileL t body n ρ) G D, fun σ' H' h' => ⟨n, Nat.lt_succ_self n, h'⟩, G2, ρ2, ok2, ?_⟩
        have k3 : PostS Γ (match body ρ2 with
          | .nx ρ2 => whileL t body n ρ2
          | .ct ρ2 => whileL t body n ρ2
          | .bk ρ2 => .nx ρ2
          | r => r) G2 D := k2
        cases hb : body ρ2 with
        | nx ρ4 => rw [hb] at k3; exact fun σ' G' H' e' ok' => ⟨G', ρ4, ok', PostS.mono e' k3⟩
        | ct ρ4 => rw [hb] at k3; exact fun σ' G' H' e' ok' => ⟨G', ρ4, ok', PostS.mono e' k3⟩
        | bk ρ4 => rw [hb] at k3; exact k3
        | rt p ρ4 => rw [hb] at k3; exact k3
        | ro p ρ4 => rw [hb] at k3; exact k3
        | exc c fs ρ4 => rw [hb] at k3; exact k3
        | bad => rw [hb] at k3; exact k3
end
end PL
end

section
set_option Elab.async false
set_option linter.all false
set_option maxRecDepth 100000
set_option maxHeartbeats 4000000
set_option autoImplicit false
namespace PL
open PySem PySem.Spec PyProof.Rows L2

/-! ### comprehensions -/
theorem wipe_len (σ : L2.St) : ∀ vs : List Nat, (wipe σ vs).length = σ.length
  | [] => rfl
  | v :: vs => by
    show ((wipe σ vs).set v none).length = _
    rw [List.length_set, wipe_len σ vs]
theorem wipe_out {σ : L2.St} {j : Nat} : ∀ {vs : List Nat}, j ∉ vs → (wipe σ vs)[j]? = σ[j]?
  | [], _ => rfl
  | v :: vs, h => by
    show ((wipe σ vs).set v none)[j]? = _
    rw [List.getElem?_set_ne (fun z : v = j => h (by simp [z]))]
    exact wipe_out fun z => h (by simp [z])
theorem wipe_in {σ : L2.St} {j : Nat} : ∀ {vs : List Nat}, j ∈ vs → j < σ.length → (wipe σ vs)[j]? = some none
  | [], h, _ => by cases h
  | v :: vs, h, hl => by
    show ((wipe σ vs).set v none)[j]? = _
    by_cases z : v = j
    · subst z
      exact List.getElem?_set_self (by rw [wipe_len]; exact hl)
    · rw [List.getElem?_set_ne z]
      rcases List.mem_cons.mp h with e | e
      · exact absurd e.symm z
      · exact wipe_in e hl
theorem wipe_sbut {σ σ' : L2.St} {is vs : List Nat} (h : SBut is σ σ') (hs : ∀ j ∈ is, j ∈ vs) : wipe σ' vs = wipe σ vs := by
  apply List.ext_getElem?
  intro j
  by_cases hj : j ∈ vs
  · by_cases hl : j < σ.length
    · rw [wipe_in hj hl, wipe_in hj (by rw [h.1]; exact hl)]
    · rw [List.getElem?_eq_none (by rw [wipe_len, h.1]; omega), List.getElem?_eq_none (by rw [wipe_len]; omega)]
  · rw [wipe_out hj, wipe_out hj]
    exact h.2 j fun z => hj (hs j z)
theorem wipe_wipe {σ : L2.St} {vs : List Nat} : wipe (wipe σ vs) vs = wipe σ vs := by
  apply List.ext_getElem?
  intro j
  by_cases hj : j ∈ vs
  · by_cases hl : j < σ.length
    · rw [wipe_in hj hl, wipe_in hj (by rw [wipe_len]; exact hl)]
    · rw [List.getElem?_eq_none (by rw [wipe_len, wipe_len]; omega), List.getElem?_eq_none (by rw [wipe_len]; omega)]
  · rw [wipe_out hj]
def wipeE (ρ : PEnv) : List Nat → PEnv
  | [] => ρ
  | v :: vs => (wipeE ρ vs).set v .no
theorem wipeE_len (ρ : PEnv) : ∀ vs : List Nat, (wipeE ρ vs).length = ρ.length
  | [] => rfl
  | v :: vs => by
    show ((wipeE ρ vs).set v .no).length = _
    rw [List.length_set, wipeE_len ρ vs]
theorem wipeE_out {ρ : PEnv} {j : Nat} : ∀ {vs : List Nat}, j ∉ vs → (wipeE ρ vs)[j]? = ρ[j]?
  | [], _ => rfl
  | v :: vs, h => by
    show ((wipeE ρ vs).set v .no)[j]? = _
    rw [List.getElem?_set_ne (fun z : v = j => h (by simp [z]))]
    exact wipeE_out fun z => h (by simp [z])
theorem wipeE_in {ρ : PEnv} {j : Nat} {s : Slot} : ∀ {vs : List Nat}, j ∈ vs → (wipeE ρ vs)[j]? = some s → s = .no
  | [], h, _ => by cases h
  | v :: vs, h, e => by
    have e' : ((wipeE ρ vs).set v .no)[j]? = some s := e
    by_cases z : v = j
    · subst z
      have hl : v < (wipeE ρ vs).length := by
        rcases Nat.lt_or_ge v (wipeE ρ vs).length with h | h
        · exact h
        · rw [List.getElem?_eq_none (by simpa using h)] at e'; cases e'
      rw [List.getElem?_set_self hl] at e'
      cases e'; rfl
    · rw [List.getElem?_set_ne z] at e'
      rcases List.mem_cons.mp h with q | q
      · exact absurd q.symm z
      · exact wipeE_in q e'
theorem EnvOk.wipe {Γ : Gam} {G H : Hp} {σ : L2.St} {ρ : PEnv} (ok : EnvOk Γ G σ H ρ) : ∀ {vs : List Nat}, (∀ j ∈ vs, Γ.P j = none) → EnvOk Γ G (L2.wipe σ vs) H (wipeE ρ vs)
  | [], _ => ok
  | v :: vs, h => (ok.wipe (vs := vs) fun j hj => h j (by simp [hj])).setNo (h v (by simp))
def noOwn (ρ : PEnv) (vs : List Nat) : Bool := vs.all fun j => match ρ[j]? with
  | some (.own _) => false
  | _ => true
/-- behind the block the own names are what they were -/
def backE (ρ ρ0 : PEnv) : List Nat → PEnv
  | [] => ρ
  | v :: vs => match ρ0[v]? with
    | some s => (backE ρ ρ0 vs).set v s
    | none => backE ρ ρ0 vs
theorem backE_len (ρ ρ0 : PEnv) : ∀ vs : List Nat, (backE ρ ρ0 vs).length = ρ.length
  | [] => rfl
  | v :: vs => by
    unfold backE
    cases ρ0[v]? with
    | none => exact backE_len ρ ρ0 vs
    | some s => rw [List.length_set]; exact backE_len ρ ρ0 vs
theorem backE_out {ρ ρ0 : PEnv} {j : Nat} : ∀ {vs : List Nat}, j ∉ vs → (backE ρ ρ0 vs)[j]? = ρ[j]?
  | [], _ => rfl
  | v :: vs, h => by
    unfold backE
    have ih := backE_out (ρ := ρ) (ρ0 := ρ0) (j := j) (vs := vs) fun z => h (by simp [z])
    cases ρ0[v]? with
    | none => exact ih
    | some s =>
      show ((backE ρ ρ0 vs).set v s)[j]? = _
      rw [List.getElem?_set_ne (fun z : v = j => h (by simp [z]))]
      exact ih
theorem backE_in {ρ ρ0 : PEnv} {j : Nat} : ∀ {vs : List Nat}, j ∈ vs → ρ0.length = ρ.length → (backE ρ ρ0 vs)[j]? = ρ0[j]?
  | [], h, _ => by cases h
  | v :: vs, h, hl => by
    unfold backE
    by_cases z : v = j
    · subst z
      cases e : ρ0[v]? with
      | none =>
        show (backE ρ ρ0 vs)[v]? = none
        rw [List.getElem?_eq_none_iff] at e ⊢
        rw [backE_len]; omega
      | some s =>
        show ((backE ρ ρ0 vs).set v s)[v]? = some s
        have := (List.getElem?_eq_some_iff.mp e).1
        exact List.getElem?_set_self (by rw [backE_len]; omega)
    · have ih := backE_in (ρ := ρ) (ρ0 := ρ0) (j := j) (vs := vs) (by
        rcases List.mem_cons.mp h with q | q
        · exact absurd q.symm z
        · exact q) hl
      cases ρ0[v]? with
      | none => exact ih
      | some s =>
        show ((backE ρ ρ0 vs).set v s)[j]? = _
        rw [List.getElem?_set_ne z]
        exact ih
theorem EnvOk.back {Γ : Gam} {G0 G H0 H : Hp} {σ : L2.St} {ρ0 ρ : PEnv} {vs : List Nat} (ok0 : EnvOk Γ G0 σ H0 ρ0) (ok : EnvOk Γ G (L2.wipe σ vs) H ρ) (e : Ex G0 G) (hn : noOwn ρ0 vs = true) (hp : ∀ j ∈ vs, Γ.P j = none) : EnvOk Γ G σ H (backE ρ ρ0 vs) := by
  have hl : ρ0.length = ρ.length := by rw [← ok0.len, ← ok.len, wipe_len]
  have nown : ∀ (j : Nat) (p : PV), j ∈ vs → ρ0[j]? ≠ some (Slot.own p) := fun j p hj z => by
    have h1 := List.all_eq_true.mp hn j hj
    rw [z] at h1
    cases h1
  refine ⟨by rw [backE_len, ← ok.len, wipe_len], ok.cH, ok.gH, ok.g0, ok.gC, ok0.par, fun j p hj => ?_, fun j p hj => ?_, fun j k p q a hjk hj hk e1 e2 => ?_⟩
  · by_cases z : j ∈ vs
    · rw [backE_in z hl] at hj
      obtain ⟨x, h1, h2⟩ := ok0.val j p hj
      exact ⟨x, h1, h2.mono e⟩
    · rw [backE_out z] at hj
      obtain ⟨x, h1, h2⟩ := ok.val j p hj
      rw [wipe_out z] at h1
      exact ⟨x, h1, h2⟩
  · by_cases z : j ∈ vs
    · rw [backE_in z hl] at hj
      exact absurd hj (nown j p z)
    · rw [backE_out z] at hj
      obtain ⟨a, o, h1, h2⟩ := ok.own j p hj
      rw [wipe_out z] at h1
      exact ⟨a, o, h1, h2⟩
  · have zz : ∀ (j : Nat) (p : PV), (backE ρ ρ0 vs)[j]? = some (Slot.own p) → j ∉ vs := fun j p hj z => by
      rw [backE_in z hl] at hj
      exact nown j p z hj
    have z1 := zz j p hj
    have z2 := zz k q hk
    rw [backE_out z1] at hj
    rw [backE_out z2] at hk
    exact ok.dis j k p q a hjk hj hk (by rw [wipe_out z1]; exact e1) (by rw [wipe_out z2]; exact e2)
/-- one more thing is kept from change -/
def Gam.guard (Γ : Gam) (D : Addr) (o : HO) : Gam := { Γ with C := upd Γ.C D o, W := fun _ _ _ _ => False }
theorem EnvOk.guard {Γ : Gam} {G H : Hp} {σ : L2.St} {ρ : PEnv} {D : Addr} {o : HO} (ok : EnvOk Γ G σ H ρ) (hG : G D = none) (hH : H D = some o) (hn : ∀ (i : Nat) (q : PV), ρ[i]? = some (Slot.own q) → σ[i]? ≠ some (some (V.ref D))) : EnvOk (Γ.guard D o) G σ H ρ := by
  refine ⟨ok.len, ok.cH.putH hH, ok.gH, ok.g0, fun a ha => ?_, ok.par, ok.val, fun i p hi => ?_, ok.dis⟩
  · by_cases z : a = D
    · subst z
      rw [hG]
      exact (ok.g0.none hG).symm
    · exact ok.gC a (by rw [show (Γ.guard D o).C a = Γ.C a from upd_ne z] at ha; exact ha)
  · obtain ⟨a, u, h1, h2, h3⟩ := ok.own i p hi
    refine ⟨a, u, h1, ?_, h3⟩
    show upd Γ.C D o a = none
    rw [upd_ne (fun z : a = D => hn i p hi (by rw [← z]; exact h1))]
    exact h2
theorem EnvOk.unguard {Γ : Gam} {G H : Hp} {σ : L2.St} {ρ : PEnv} {D : Addr} {o : HO} (ok : EnvOk (Γ.guard D o) G σ H ρ) (hC : Γ.C D = none) (hG : Γ.G D = none) :
    EnvOk Γ G σ H ρ ∧ H D = some o ∧ G D = none ∧ ∀ (i : Nat) (q : PV), ρ[i]? = some (Slot.own q) → σ[i]? ≠ some (some (V.ref D)) := by
  have hD : H D = some o := ok.cH D o upd_same
  refine ⟨⟨ok.len, (Ex.new hC).trans ok.cH, ok.gH, ok.g0, fun a ha => ?_, ok.par, ok.val, fun i p hi => ?_, ok.dis⟩, hD, ?_, fun i q hi z => ?_⟩
  · by_cases z : a = D
    · subst z; exact absurd hC ha
    · exact ok.gC a (by rw [show (Γ.guard D o).C a = Γ.C a from upd_ne z]; exact ha)
  · obtain ⟨a, u, h1, h2, h3⟩ := ok.own i p hi
    refine ⟨a, u, h1, ?_, h3⟩
    by_cases z : a = D
    · subst z; exact hC
    · rw [show (Γ.guard D o).C a = Γ.C a from upd_ne z] at h2
      exact h2
  · have h1 := ok.gC D (by rw [show (Γ.guard D o).C D = some o from upd_same]; intro z; cases z)
    rw [h1]; exact hG
  · obtain ⟨a, u, h1, h2, _⟩ := ok.own i q hi
    rw [z] at h1
    cases h1
    rw [show (Γ.guard D o).C D = some o from upd_same] at h2
    cases h2
/-- the frame's thing is another one -/
theorem EnvOk.reguard {Γ : Gam} {G H : Hp} {σ : L2.St} {ρ : PEnv} {D : Addr} {o : HO} (ok : EnvOk Γ G σ H ρ) (hC : Γ.C D = none) (hG : G D = none) (hn : ∀ (i : Nat) (q : PV), ρ[i]? = some (Slot.own q) → σ[i]? ≠ some (some (V.ref D))) : EnvOk Γ G σ (upd H D o) ρ := by
  have exn : ∀ {F : Hp}, Ex F H → F D = none → Ex F (upd H D o) := fun {F} e n b w hb => by
    rw [upd_ne (fun z : b = D => by rw [z, n] at hb; cases hb)]
    exact e b w hb
  refine ⟨ok.len, exn ok.cH hC, exn ok.gH hG, ok.g0, ok.gC, ok.par, ok.val, fun i p hi => ?_, ok.dis⟩
  obtain ⟨a, u, h1, h2, h3, h4, h5⟩ := ok.own i p hi
  refine ⟨a, u, h1, h2, h3, ?_, h5⟩
  rw [upd_ne (fun z : a = D => hn i p hi (by rw [← z]; exact h1))]
  exact h4

def lcL (vs : List Nat) (g : GF) (t : TF) (e : EF) : List PV → PEnv → ERes (List PV)
  | [], ρ => .ok [] ρ
  | p :: ps, ρ => match g p ρ with
    | none => .bad
    | some ρ1 => match t ρ1 with
      | .ok true ρ2 => match e ρ2 with
        | .ok y ρ3 => match lcL vs g t e ps (wipeE ρ3 vs) with
          | .ok ys ρ4 => .ok (y :: ys) ρ4
          | _ => .bad
        | _ => .bad
      | .ok false ρ2 => lcL vs g t e ps (wipeE ρ2 vs)
      | _ => .bad
def eLc (vs : List Nat) (fi : IF) (g : GF) (t : TF) (e : EF) : EF := fun ρ => (fi ρ).bind fun ps ρ1 =>
  if (noOwn ρ1 vs && decide (ps.length ≤ 100000)) = true then (match lcL vs g t e ps (wipeE ρ1 vs) with
    | .ok ys ρ2 => .ok (.lst ys) (backE ρ2 ρ1 vs)
    | _ => .bad) else .bad
theorem lcL_len {vs : List Nat} {g : GF} {t : TF} {e : EF} : ∀ {ps : List PV} {ρ ρ' : PEnv} {ys : List PV}, lcL vs g t e ps ρ = .ok ys ρ' → ys.length ≤ ps.length
  | [], ρ, ρ', ys, h => by simp only [lcL] at h; cases h; exact Nat.le_refl _
  | p :: ps, ρ, ρ', ys, h => by
    simp only [lcL] at h
    split at h
    · cases h
    · split at h
      · split at h
        · split at h
          · rename_i hh
            cases h
            have := lcL_len hh
            simp only [List.length_cons]; omega
          · cases h
        · cases h
      · have := lcL_len h
        simp only [List.length_cons]; omega
      · cases h
def tYs : TF := fun ρ => .ok true ρ
section
variable {X : Cx} {Γ : Gam} {pos : Pos}
theorem t_yes {Γ : Gam} : ∀ σ H Q, DT Γ tYs σ H Q → tYes σ H Q := fun σ H Q ⟨G, ρ, ok, q⟩ => q true G H (Ex.refl G) ok rfl
/-- the comprehension's reading -/
theorem f_lcI {vs is : List Nat} {fi : IF} {g : GF} {t : TF} {e : EF} {wi : TI} {wg : TG} {wt : TT} {we : TE} (hi : ∀ σ H R, DI Γ fi σ H R → wi σ H R) (hp : ∀ j ∈ vs, Γ.P j = none) (his : ∀ j ∈ is, j ∈ vs)
    (hg : ∀ D o v σ H Q, DG (Γ.guard D o) is g v σ H Q → wg v σ H Q) (ht : ∀ D o σ H Q, DT (Γ.guard D o) t σ H Q → wt σ H Q) (he : ∀ D o σ H Q, DE (Γ.guard D o) e σ H Q → we σ H Q) :
    ∀ σ H Q, DF Γ (eLc vs fi g t e) σ H Q → tLc wi wg wt we vs σ H Q := by
  intro σ H Q ⟨G, ρ, ok, q⟩
  refine hi σ H _ ⟨G, ρ, ok, ?_⟩
  cases hf : fi ρ with
  | bad => simp only [eLc, hf, ERes.bind] at q; exact q
  | exc c fs ρ1 => simp only [eLc, hf, ERes.bind] at q; exact q
  | ok ps ρ1 =>
    simp only [eLc, hf, ERes.bind] at q
    intro J G0 H0 e0 ok0 wk D hD
    have q0 := PostF.mono e0 q
    split at q0
    case isFalse => exact q0.elim
    rename_i cc
    obtain ⟨c1, c2⟩ := Bool.and_eq_true_iff.mp cc
    have c2' := of_decide_eq_true c2
    have hCD : Γ.C D = none := ok0.cH.none hD
    have hG0D : G0 D = none := ok0.gH.none hD
    have hΓG : Γ.G D = none := ok0.g0.none hG0D
    cases hl : lcL vs g t e ps (wipeE ρ1 vs) with
    | bad => rw [hl] at q0; exact q0.elim
    | exc c fs ρ2 => rw [hl] at q0; exact q0.elim
    | ok ys ρ2 =>
      rw [hl] at q0
      have w : Walk J ps.length (fun H => Ex G0 H) (fun i H x H' => ∃ p, ps[i]? = some p ∧ ∀ G1 : Hp, Ex G0 G1 → Ex G1 H → ∃ G2, Grow G1 H G2 H' ∧ Rep Γ.K Γ.mg G2 x p) :=
        ⟨wk.goes, fun H h => wk.stops H h, wk.yields⟩
      refine lc_it w (fun i H => ∃ G' ρ' acc done rest, Ex G0 G' ∧ EnvOk (Γ.guard D (.lst acc)) G' (L2.wipe σ vs) H ρ' ∧ Reps Γ.K Γ.mg G' acc done ∧ done ++ rest = ys ∧ done.length ≤ i ∧ lcL vs g t e (ps.drop i) ρ' = .ok rest ρ2) ?_ ?_ ?_ ?_
      · refine ⟨G0, wipeE ρ1 vs, [], [], ys, Ex.refl G0, ?_, .nil, rfl, Nat.zero_le _, hl⟩
        have ok1 := (ok0.grow (Grow.newH (o := HO.lst []) ok0.gH hD)).wipe hp
        exact ok1.guard hG0D upd_same fun i q' hi' => (ok0.wipe hp).notOwn hD i q' hi'
      · rintro i H1 _ ⟨G', ρ', acc, dn, rest, e', ok', _⟩
        exact e'.trans ok'.gH
      · rintro i x H1 H1' hlt ⟨G1, ρ', acc, dn, rest, e1, ok1, ra, hys, hdl, hr⟩ ⟨p, hpi, hy⟩
        obtain ⟨G2, gr, rx⟩ := hy G1 e1 ok1.gH
        have hd : ps.drop i = p :: ps.drop (i + 1) := by
          obtain ⟨hlt, hpe⟩ := List.getElem?_eq_some_iff.mp hpi
          rw [List.drop_eq_getElem_cons hlt, hpe]
        rw [hd] at hr
        simp only [lcL] at hr
        cases hgp : g p ρ' with
        | none => rw [hgp] at hr; cases hr
        | some ρ3 =>
          rw [hgp] at hr
          simp only at hr
          refine hg D (.lst acc) x _ H1' _ ⟨G2, ρ', p, ok1.grow gr, rx, ?_⟩
          rw [hgp]
          intro σ2 ok2 sb
          have hw : L2.wipe σ2 vs = L2.wipe σ vs := by rw [wipe_sbut sb his, wipe_wipe]
          refine ⟨hw, ht D (.lst acc) σ2 H1' _ ⟨G2, ρ3, ok2, ?_⟩⟩
          cases htr : t ρ3 with
          | bad => rw [htr] at hr; cases hr
          | exc c fs ρ4 => rw [htr] at hr; cases hr
          | ok b ρ4 =>
            rw [htr] at hr
            intro v G3 H3 e3 ok3 rv
            have rv' : v = b := rv
            subst rv'
            cases v with
            | false =>
              simp only at hr
              show ∃ G' ρ' acc done rest, _
              refine ⟨G3, wipeE ρ4 vs, acc, dn, rest, (e1.trans gr.gG).trans e3, ?_, ra.mono (gr.gG.trans e3), hys, by omega, hr⟩
              have := ok3.wipe (vs := vs) hp
              rw [hw] at this
              exact this
            | true =>
              simp only at hr
              show we σ2 H3 _
              refine he D (.lst acc) σ2 H3 _ ⟨G3, ρ4, ok3, ?_⟩
              cases her : e ρ4 with
              | bad => rw [her] at hr; cases hr
              | exc c fs ρ5 => rw [her] at hr; cases hr
              | ok y ρ5 =>
                rw [her] at hr
                simp only at hr
                intro v G4 H4 e4 ok4 rv4
                have ok4w := ok4.wipe (vs := vs) hp
                rw [hw] at ok4w
                obtain ⟨ok5, hHD, hGD, hno⟩ := ok4w.unguard hCD hΓG
                have hlen : acc.length < sizeLine := by
                  rw [ra.length]
                  exact Nat.lt_of_lt_of_le (by omega : dn.length < 100000) (szOk (Nat.le_refl _))
                refine ⟨acc, hHD, hlen, ?_⟩
                split at hr
                · rename_i zs ρ6 hz
                  cases hr
                  refine ⟨G4, wipeE ρ5 vs, acc ++ [v], dn ++ [y], zs, ((e1.trans gr.gG).trans e3).trans e4, ?_, (ra.mono ((gr.gG.trans e3).trans e4)).append (.cons rv4 .nil), by rw [List.append_assoc]; exact hys, by simp; omega, hz⟩
                  exact (ok5.reguard hCD hGD hno).guard hGD upd_same hno
                · cases hr
      · rintro H1 ⟨G1, ρ', acc, dn, rest, e1, ok1, ra, hys, hdl, hr⟩
        rw [List.drop_length] at hr
        simp only [lcL] at hr
        cases hr
        rw [List.append_nil] at hys
        subst hys
        obtain ⟨ok2, hHD, hGD, hno⟩ := ok1.unguard hCD hΓG
        have ok3 := EnvOk.back ok0 ok2 e1 c1 hp
        refine q0 D (.lst acc) G1 H1 e1 ok3 hCD hGD hHD (.lst ra) fun j q' hj z => ?_
        have hn' : noOwn ρ1 vs = true := c1
        by_cases zj : j ∈ vs
        · rw [backE_in zj (by rw [← ok0.len, ← ok2.len, wipe_len])] at hj
          have h1 := List.all_eq_true.mp hn' j zj
          rw [hj] at h1
          cases h1
        · rw [backE_out zj] at hj
          exact hno j q' hj (by rw [wipe_out zj]; exact z)
end
end PL
end

section
set_option Elab.async false
set_option linter.all false
set_option maxRecDepth 100000
set_option maxHeartbeats 4000000
set_option autoImplicit false
/-! errors that are raised where nothing is handled: their context is None -/
namespace PL
open PySem PySem.Spec PyProof.Rows L2
theorem takesN0 {X : Cx} : L2N.Takes X (fun _ _ _ _ => False) := by
  intro u st got
  have ⟨_, _, _, _, _, _, _, _, _, _, _, _, _, _, _, _, no⟩ := got
  exact no.elim
theorem passNo {X : Cx} : Passes (L2N.CX X.prog X.w) X (fun _ _ _ => False) := by
  intro _ _ _ _ _ _ _ got
  have ⟨_, _, _, _, _, _, _, _, _, _, _, _, no⟩ := got
  exact no.elim
section
variable {X : Cx} {e : Expr} {es : List Expr} {ta : TA} {p pos : Pos}
/-- C(e, ..) of an own class of errors, made to be raised -/
theorem pmk_oexN {cx : CXT} {nm : Str} {cl fn : Addr} {lev : Nat} {fdat : FuncData} {pars : List Str} {spc : Sp} {dus : List Value} {dvs : List V} (T : OexC X.K cl) (fi : PySem.W.findIn X.K (.ref cl) "__init__" = some (some (.ref fn))) (ty : PySem.W.typeIn X.K (.ref fn) = some (.type "function"))
    (hF : FnOk X.prog X.w X.K X.mg X.base cx lev fn fdat pars spc) (room : Room (lev + 1) X.A) (bnd : Binds X.K fdat pars dus) (dv : Vals dvs dus) (pas : Passes cx X (fun _ _ _ => False)) (glo : Gl X nm) (atN : X.mg nm = some (.ref cl)) (args : PA X (e :: es) ta)
    (dbg : (nm == ("__debug__" : Str)) = false := by decide) (st0 : starEach (e :: es) X.env = (false, eval e X.env) :: starEach es X.env := by rfl) (st1 : (backTo pos (starEach es X.env)).any (·.1) = false := by rfl) :
    L2N.PMk X (.Call (.Name nm p) (e :: es) [] pos) (tMkO cl spc dvs ta) := by
  intro pn st env hp0 Q inv want
  have ⟨_, _, _, _, _, _, _, _, _, _, _, _, _, _, _, lk, hbm⟩ := T.cls
  apply wpAny_Call_Name_kw
  apply ld_glob inv glo atN _ dbg
  apply PySem.W.callWith_K (h₀ := X.base) inv.ok.mod.kin T.kC _ st0 st1
  apply thn (args.run pos pn st env hp0 _ inv want)
  rintro us sh ⟨vs, H1, J1, rel, few, q1⟩
  refine ⟨J1.kIn, ?_⟩
  show wpAny _ _ (call (.ref cl) us) _ _ _
  obtain ⟨hp, g, dr, tk, os⟩ := sh
  have le1 : hp.objs.size ≤ hp.objs.size + 1 := Nat.le_succ _
  have q2 := q1 (hp.objs.size + 1) (J1.hok.fresh le1)
  generalize hh : (hp.push (PySem.W.kdv_tup us)).push (PySem.HandSPX.excO cl hp.objs.size) = hp2
  have keep : ∀ b o, hp.get? b = some o → hp2.get? b = some o := by
    intro b o z
    subst hh
    exact Heap.get?_push_of_some _ (Heap.get?_push_of_some _ z)
  have at1 : hp2.get? (hp.objs.size + 1) = some (PySem.HandSPX.excO cl hp.objs.size) := by subst hh; heap_get
  have J2 : Inv X pn env (upd H1 (hp.objs.size + 1) (exo (hp.objs.size + 1) cl none)) ⟨hp2, g, dr, tk, os⟩ := J1.laid (t' := tk) keep le1 (exo_ok at1)
  have all : Vals (V.ref (hp.objs.size + 1) :: (vs ++ dvs)) (Value.ref (hp.objs.size + 1) :: (us ++ dus)) := .cons rfl (rel.append dv)
  have lens : (Value.ref (hp.objs.size + 1) :: us ++ dus).length = pars.length := all.length.symm.trans (hF.len _ _ _ _ q2)
  have few' : us.length ≤ sizeLine := by
    have z := Paired.length rel
    rw [sizeLine_eq]; omega
  have body := hF.run _ X.stack _ _ ⟨Value.ref (hp.objs.size + 1) :: us, []⟩ (Value.ref (hp.objs.size + 1) :: (us ++ dus)) _ _ (fun _ _ _ => False) (room.make cl us []) (J2.env0.make cl us []) (bnd _ (Value.ref (hp.objs.size + 1) :: us) J2.kIn lens) all q2
  subst hh
  refine wpAny_call (PySem.HandSPX.call_own F.excBase_ValueError (fun Y => PySem.HandSPX.refsVE_contains Y _ hbm) (J1.kIn _ _ lk) (PySem.W.looks_findIn J1.kIn fi) (fun self => PySem.W.bind_fn J1.kIn self ty) few' (codeAny_mono body fun r st2 got => ?_))
  match r, got with
  | .error er, got => exact pas pn env _ _ er st2 J2 got
  | .ok .next, got => exact False.elim got
  | .ok .brk, got => exact False.elim got
  | .ok .cont, got => exact False.elim got
  | .ok (.ret u), got =>
    obtain ⟨v, H2, eos, bare2, un2, hok2, rv, ev, d, fs, ea, ed, hd1, fin⟩ := got
    subst ev
    obtain ⟨h2, g2, d2, t2, os2⟩ := st2
    have ⟨t0, G, J3, kG, gone, there, na⟩ := mk_end0 (d2 := d2) (t2 := t2) J1 le1 keep un2 hok2 eos bare2 ea ed hd1
    exact ⟨rv, hp.objs.size + 1, _, _, ⟨G, g2, d2, t2, os2⟩, _, .ref cl, some d, rfl, J3, kG, gone, there, ⟨rfl, rfl, fun ws z => by cases z; rfl⟩, rfl, rfl, na, rfl, bare2, raises_own T.exC T.tyC, fin⟩
end
end PL
end

section
set_option Elab.async false
set_option linter.all false
set_option maxRecDepth 100000
set_option maxHeartbeats 4000000
set_option autoImplicit false
namespace PL
open PySem PySem.Spec PyProof.Rows L2

/-! ### what a def is worth -/
inductive FRes where
  | ret (p : PV) (os : List PV) | reo (p : PV) (os : List PV) | exc (c : Str) (fs : List (Str × PV)) (os : List PV) | bad
abbrev FF := List PV → FRes
def parOf (ms : List Bool) (vs : List V) : Nat → Option Addr := fun i => match ms[i]?, vs[i]? with
  | some true, some (.ref a) => some a
  | _, _ => none
def slotOf (m : Bool) (p : PV) : Slot := if m = true then .own p else .v p
def slotsOf : List Bool → List PV → PEnv
  | m :: ms, p :: ps => slotOf m p :: slotsOf ms ps
  | _, _ => []
def ownsOf : List Bool → PEnv → Option (List PV)
  | [], _ => some []
  | true :: ms, .own p :: ρ => match ownsOf ms ρ with
    | some os => some (p :: os)
    | none => none
  | false :: ms, _ :: ρ => ownsOf ms ρ
  | _, _ => none
def runF (ms : List Bool) (n : Nat) (B : SF) : FF := fun ps => match B (slotsOf ms ps ++ List.replicate (n - ms.length) .no) with
  | .nx ρ => match ownsOf ms ρ with
    | some os => .ret .non os
    | none => .bad
  | .rt p ρ => match ownsOf ms ρ with
    | some os => .ret p os
    | none => .bad
  | .ro p ρ => match ownsOf ms ρ with
    | some os => .reo p os
    | none => .bad
  | .exc c fs ρ => match ownsOf ms ρ with
    | some os => .exc c fs os
    | none => .bad
  | _ => .bad
def gamOf (K : PySem.W.Frag) (mg : Str → Option Value) (C G : Hp) (ms : List Bool) (vs : List V) (E : XK) : Gam := ⟨K, mg, C, G, parOf ms vs, fun cls d _ H' => E cls d H'⟩
def PostR (Γ : Gam) (ms : List Bool) (r : FRes) (G : Hp) (Q : VK) : Prop := match r with
  | .ret p os => ∀ v σ' G' H' ρ', Ex G G' → EnvOk Γ G' σ' H' ρ' → ownsOf ms ρ' = some os → Rep Γ.K Γ.mg G' v p → Q v H'
  | .reo p os => ∀ a o σ' G' H' ρ', Ex G G' → EnvOk Γ G' σ' H' ρ' → ownsOf ms ρ' = some os → Γ.C a = none → G' a = none → H' a = some o → Top Γ.K Γ.mg G' o p →
      (∀ (i : Nat) (q : PV), ρ'[i]? = some (Slot.own q) → σ'[i]? ≠ some (some (V.ref a))) → Q (.ref a) H'
  | .exc c fs os => ∀ C d ws σ' G' H' ρ', Γ.mg c = some (.ref C) → Ex G G' → EnvOk Γ G' σ' H' ρ' → ownsOf ms ρ' = some os → G' d = some (.xd ws) → RepF Γ.K Γ.mg G' ws fs → Γ.W (.ref C) (some d) σ' H'
  | .bad => False
def spF (K : PySem.W.Frag) (mg : Str → Option Value) (ms : List Bool) (F : FF) : Sp := fun vs H Q E => ∃ (C G : Hp) (ps : List PV), vs.length = ms.length ∧ ps.length = ms.length ∧
  EnvOk (gamOf K mg C G ms vs E) G (vs.map some) H (slotsOf ms ps) ∧ PostR (gamOf K mg C G ms vs E) ms (F ps) G Q
theorem slotsOf_len : ∀ {ms : List Bool} {ps : List PV}, ps.length = ms.length → (slotsOf ms ps).length = ms.length
  | [], [], _ => rfl
  | _ :: ms, _ :: ps, h => congrArg (· + 1) (slotsOf_len (ms := ms) (ps := ps) (Nat.succ.inj h))
  | [], _ :: _, h => by cases h
  | _ :: _, [], h => by cases h
theorem slotsOf_get : ∀ {ms : List Bool} {ps : List PV} {i : Nat} {s : Slot}, (slotsOf ms ps)[i]? = some s → ∃ m p, ms[i]? = some m ∧ ps[i]? = some p ∧ s = slotOf m p
  | [], _, _, _, h => by simp [slotsOf] at h
  | _ :: _, [], _, _, h => by simp [slotsOf] at h
  | m :: ms, p :: ps, 0, s, h => by simp [slotsOf] at h; exact ⟨m, p, rfl, rfl, h.symm⟩
  | m :: ms, p :: ps, i + 1, s, h => by
    have h' : (slotsOf ms ps)[i]? = some s := by simpa [slotsOf] using h
    obtain ⟨m', p', h1, h2, h3⟩ := slotsOf_get h'
    exact ⟨m', p', by simpa using h1, by simpa using h2, h3⟩
theorem EnvOk.pad {Γ : Gam} {G H : Hp} {σ : L2.St} {ρ : PEnv} (n : Nat) (ok : EnvOk Γ G σ H ρ) : EnvOk Γ G (σ ++ List.replicate n none) H (ρ ++ List.replicate n .no) := by
  have gs : ∀ (j : Nat) (s : Slot), s ≠ .no → (ρ ++ List.replicate n .no)[j]? = some s → ρ[j]? = some s ∧ j < ρ.length := fun j s hs hj => by
    by_cases hl : j < ρ.length
    · rw [List.getElem?_append_left hl] at hj
      exact ⟨hj, hl⟩
    · rw [List.getElem?_append_right (by omega), List.getElem?_replicate] at hj
      split at hj
      · cases hj; exact absurd rfl hs
      · cases hj
  have gl : ∀ j : Nat, j < ρ.length → (σ ++ List.replicate n none)[j]? = σ[j]? := fun j hl => List.getElem?_append_left (by rw [ok.len]; exact hl)
  refine ⟨by simp [ok.len], ok.cH, ok.gH, ok.g0, ok.gC, fun i a hi => ?_, fun i p hi => ?_, fun i p hi => ?_, fun i j p q a hij hi hj e1 e2 => ?_⟩
  · have h := ok.par i a hi
    have hl := (List.getElem?_eq_some_iff.mp h).1
    rw [List.getElem?_append_left hl]
    exact h
  · obtain ⟨h, hl⟩ := gs i _ (by intro z; cases z) hi
    rw [gl i hl]
    exact ok.val i p h
  · obtain ⟨h, hl⟩ := gs i _ (by intro z; cases z) hi
    rw [gl i hl]
    exact ok.own i p h
  · obtain ⟨h1, hl1⟩ := gs i _ (by intro z; cases z) hi
    obtain ⟨h2, hl2⟩ := gs j _ (by intro z; cases z) hj
    rw [gl i hl1] at e1
    rw [gl j hl2] at e2
    exact ok.dis i j p q a hij h1 h2 e1 e2
section
variable {P : Program} {w : World} {K : PySem.W.Frag} {mg : Str → Option Value} {base : Heap} {x qual : Str} {params : Arguments} {body : List Stmt} {scope : Scope} {dvs : List V} {kws : List (Str × V)} {f : Addr} {fd : FuncData}
/-- a def, by its body -/
theorem fn_ok {N ps : List Str} {k : Nat} {ms : List Bool} {B : SF} (F : FunD K x qual params body scope dvs kws f fd) (S : FnScope N ps scope) (hms : ps.length = ms.length)
    (hb : ∀ (cdv : Value) (A : Around) (outer : List Env) (s : Shared) (H : Hp) (E : XK) (Γ : Gam), Room k (A.deeper (envOfC qual scope s.heap.objs.size f cdv)) → OkX (cxOf (L2N.CX P w) P w K mg base N qual scope f cdv A outer s H E) Γ →
      (∀ i : Nat, ms[i]? ≠ some true → Γ.P i = none) → L2N.Takes (cxOf (L2N.CX P w) P w K mg base N qual scope f cdv A outer s H E) Γ.W → PassesOwn (model P w) (cxOf (L2N.CX P w) P w K mg base N qual scope f cdv A outer s H E).A (cxOf (L2N.CX P w) P w K mg base N qual scope f cdv A outer s H E).env (cxOf (L2N.CX P w) P w K mg base N qual scope f cdv A outer s H E).xe → PSs (cxOf (L2N.CX P w) P w K mg base N qual scope f cdv A outer s H E) body (DS Γ B)) :
    FnOk P w K mg base (L2N.CX P w) (k + 1) f fd ps (spF K mg ms (runF ms N.length B)) := by
  refine F.ok S (fun vs H Q E h => ?_) (fun cdv A outer s H vs Q E hr h => ?_)
  · obtain ⟨C, G, qs, h1, _⟩ := h
    rw [h1, hms]
  · obtain ⟨C, G, qs, h1, h2, ok, q⟩ := h
    refine ⟨DS (gamOf K mg C G ms vs E) B, hb cdv A outer s H E (gamOf K mg C G ms vs E) hr ⟨rfl, rfl⟩ (fun i hi => ?_) (L2N.takes_of rfl rfl rfl rfl) (passes_of rfl), ?_⟩
    · show parOf ms vs i = none
      unfold parOf
      split
      · rename_i e _; exact absurd e hi
      · rfl
    · have okp := ok.pad (N.length - vs.length)
      refine ⟨G, _, okp, ?_⟩
      have e0 : N.length - vs.length = N.length - ms.length := by rw [h1]
      rw [e0]
      unfold runF at q
      cases hB : B (slotsOf ms qs ++ List.replicate (N.length - ms.length) .no) with
      | nx ρ' =>
        rw [hB] at q
        simp only at q
        cases ho : ownsOf ms ρ' with
        | none => rw [ho] at q; exact q.elim
        | some os => rw [ho] at q; exact fun σ' G' H' e ok' => q .non σ' G' H' ρ' e ok' ho .non
      | rt p ρ' =>
        rw [hB] at q
        simp only at q
        cases ho : ownsOf ms ρ' with
        | none => rw [ho] at q; exact q.elim
        | some os => rw [ho] at q; exact fun v σ' G' H' e ok' r => q v σ' G' H' ρ' e ok' ho r
      | ro p ρ' =>
        rw [hB] at q
        simp only at q
        cases ho : ownsOf ms ρ' with
        | none => rw [ho] at q; exact q.elim
        | some os => rw [ho] at q; exact fun a o σ' G' H' e ok' c1 c2 c3 c4 c5 => q a o σ' G' H' ρ' e ok' ho c1 c2 c3 c4 c5
      | exc c fs ρ' =>
        rw [hB] at q
        simp only at q
        cases ho : ownsOf ms ρ' with
        | none => rw [ho] at q; exact q.elim
        | some os => rw [ho] at q; exact fun C' d ws σ' G' H' hm e ok' c1 c2 => q C' d ws σ' G' H' ρ' hm e ok' ho c1 c2
      | bk ρ' => rw [hB] at q; exact q.elim
      | ct ρ' => rw [hB] at q; exact q.elim
      | bad => rw [hB] at q; exact q.elim
end

/-! ### a call -/
inductive AV where
  | val (p : PV) | own (i : Nat)
def AV.isOwn : AV → Bool
  | .val _ => false
  | .own _ => true
def idx : List AV → List Nat
  | [] => []
  | .val _ :: as => idx as
  | .own i :: as => i :: idx as
def collect : List AV → PEnv → Option (List PV)
  | [], _ => some []
  | .val p :: as, ρ => match collect as ρ with
    | some ps => some (p :: ps)
    | none => none
  | .own i :: as, ρ => match ρ[i]? with
    | some (.own p) => match collect as ρ with
      | some ps => some (p :: ps)
      | none => none
    | _ => none
def putO : List AV → List PV → PEnv → Option PEnv
  | [], [], ρ => some ρ
  | .val _ :: as, os, ρ => putO as os ρ
  | .own i :: as, o :: os, ρ => putO as os (ρ.set i (.own o))
  | _, _, _ => none
theorem mem_idx : ∀ {as : List AV} {i : Nat}, i ∈ idx as ↔ ∃ m : Nat, as[m]? = some (.own i)
  | [], i => by simp [idx]
  | .val p :: as, i => by
    rw [show idx (.val p :: as) = idx as from rfl, mem_idx]
    constructor
    · rintro ⟨m, h⟩; exact ⟨m + 1, by simpa using h⟩
    · rintro ⟨m, h⟩
      cases m with
      | zero => simp at h
      | succ m => exact ⟨m, by simpa using h⟩
  | .own j :: as, i => by
    rw [show idx (.own j :: as) = j :: idx as from rfl, List.mem_cons, mem_idx]
    constructor
    · rintro (rfl | ⟨m, h⟩)
      · exact ⟨0, rfl⟩
      · exact ⟨m + 1, by simpa using h⟩
    · rintro ⟨m, h⟩
      cases m with
      | zero => simp at h; exact .inl h.symm
      | succ m => exact .inr ⟨m, by simpa using h⟩
theorem collect_spec : ∀ {as : List AV} {ρ : PEnv} {ps : List PV}, collect as ρ = some ps → ps.length = as.length ∧
    ∀ (m : Nat), (∀ p, as[m]? = some (AV.val p) → ps[m]? = some p) ∧ ∀ i, as[m]? = some (AV.own i) → ∃ q, ps[m]? = some q ∧ ρ[i]? = some (Slot.own q)
  | [], ρ, ps, h => by simp only [collect] at h; cases h; exact ⟨rfl, fun m => ⟨fun p z => by simp at z, fun i z => by simp at z⟩⟩
  | .val p :: as, ρ, ps, h => by
    simp only [collect] at h
    cases hc : collect as ρ with
    | none => rw [hc] at h; cases h
    | some qs =>
      rw [hc] at h
      cases h
      obtain ⟨h1, h2⟩ := collect_spec hc
      refine ⟨by simp [h1], fun m => ?_⟩
      cases m with
      | zero => exact ⟨fun p z => by simp at z; subst z; rfl, fun i z => by simp at z⟩
      | succ m => simpa using h2 m
  | .own j :: as, ρ, ps, h => by
    simp only [collect] at h
    cases hj : ρ[j]? with
    | none => rw [hj] at h; cases h
    | some s =>
      cases s with
      | own p =>
        rw [hj] at h
        simp only at h
        cases hc : collect as ρ with
        | none => rw [hc] at h; cases h
        | some qs =>
          rw [hc] at h
          cases h
          obtain ⟨h1, h2⟩ := collect_spec hc
          refine ⟨by simp [h1], fun m => ?_⟩
          cases m with
          | zero => exact ⟨fun p z => by simp at z, fun i z => by simp at z; subst z; exact ⟨p, rfl, hj⟩⟩
          | succ m => simpa using h2 m
      | _ => rw [hj] at h; cases h
theorem putO_spec : ∀ {as : List AV} {ρ' : PEnv} {os : List PV} {ρ ρn : PEnv}, ownsOf (as.map AV.isOwn) ρ' = some os → putO as os ρ = some ρn → (idx as).Nodup → (∀ i ∈ idx as, i < ρ.length) →
    ρn.length = ρ.length ∧ (∀ j : Nat, j ∉ idx as → ρn[j]? = ρ[j]?) ∧ ∀ (m i : Nat), as[m]? = some (AV.own i) → ∃ q, ρ'[m]? = some (Slot.own q) ∧ ρn[i]? = some (Slot.own q)
  | [], ρ', os, ρ, ρn, h1, h2, _, _ => by
    simp only [List.map_nil, ownsOf] at h1
    cases h1
    simp only [putO] at h2
    cases h2
    exact ⟨rfl, fun _ _ => rfl, fun m i z => by simp at z⟩
  | .val p :: as, ρ', os, ρ, ρn, h1, h2, h3, h4 => by
    cases ρ' with
    | nil => simp [ownsOf, AV.isOwn] at h1
    | cons s ρ' =>
      have h1' : ownsOf (as.map AV.isOwn) ρ' = some os := by simpa [ownsOf, AV.isOwn] using h1
      have h2' : putO as os ρ = some ρn := by simpa [putO] using h2
      obtain ⟨a, b, c⟩ := putO_spec h1' h2' h3 h4
      refine ⟨a, b, fun m i hm => ?_⟩
      cases m with
      | zero => simp at hm
      | succ m => simpa using c m i (by simpa using hm)
  | .own j :: as, ρ', os, ρ, ρn, h1, h2, h3, h4 => by
    cases ρ' with
    | nil => simp [ownsOf, AV.isOwn] at h1
    | cons s ρ' =>
      cases s with
      | own p =>
        simp only [List.map_cons, AV.isOwn, ownsOf] at h1
        cases ho : ownsOf (as.map AV.isOwn) ρ' with
        | none => rw [ho] at h1; cases h1
        | some os' =>
          rw [ho] at h1
          cases h1
          have h2' : putO as os' (ρ.set j (.own p)) = some ρn := by simpa [putO] using h2
          have h3' : j ∉ idx as ∧ (idx as).Nodup := List.nodup_cons.mp h3
          obtain ⟨a, b, c⟩ := putO_spec ho h2' h3'.2 (fun i hi => by rw [List.length_set]; exact h4 i (List.mem_cons_of_mem _ hi))
          refine ⟨by rw [a, List.length_set], fun k hk => ?_, fun m i hm => ?_⟩
          · have k1 : k ≠ j := fun z => hk (by rw [z]; exact List.mem_cons_self)
            have k2 : k ∉ idx as := fun z => hk (List.mem_cons_of_mem _ z)
            rw [b k k2, List.getElem?_set_ne (Ne.symm k1)]
          · cases m with
            | zero =>
              simp at hm
              subst hm
              refine ⟨p, rfl, ?_⟩
              rw [b j h3'.1]
              exact List.getElem?_set_self (h4 j List.mem_cons_self)
            | succ m => simpa using c m i (by simpa using hm)
      | _ => simp [ownsOf, AV.isOwn] at h1
inductive RelA (Γ : Gam) (σ : L2.St) (G : Hp) : V → AV → Prop
  | val {v : V} {p : PV} : Rep Γ.K Γ.mg G v p → RelA Γ σ G v (.val p)
  | own {a : Addr} {i : Nat} : σ[i]? = some (some (V.ref a)) → RelA Γ σ G (.ref a) (.own i)
abbrev RelAs (Γ : Gam) (σ : L2.St) (G : Hp) : List V → List AV → Prop := Paired (RelA Γ σ G)
theorem RelAs.get {Γ : Gam} {σ : L2.St} {G : Hp} : ∀ {vs : List V} {as : List AV} {m : Nat} {a : AV}, RelAs Γ σ G vs as → as[m]? = some a → ∃ v, vs[m]? = some v ∧ RelA Γ σ G v a
  | _, _, _, _, .nil, h => by simp at h
  | _, _, 0, _, .cons r _, h => by simp at h; subst h; exact ⟨_, rfl, r⟩
  | _, _, m + 1, a, .cons _ t, h => by
    obtain ⟨v, h1, h2⟩ := RelAs.get (m := m) (a := a) t (by simpa using h)
    exact ⟨v, by simpa using h1, h2⟩
theorem nodup_at {l : List AV} (h : (idx l).Nodup) : ∀ {m n : Nat} {i : Nat}, l[m]? = some (AV.own i) → l[n]? = some (AV.own i) → m = n := by
  induction l with
  | nil => intro m n i z; simp at z
  | cons a as ih =>
    intro m n i h1 h2
    cases a with
    | val p =>
      cases m with
      | zero => simp at h1
      | succ m =>
        cases n with
        | zero => simp at h2
        | succ n => exact congrArg (· + 1) (ih h (by simpa using h1) (by simpa using h2))
    | own j =>
      have h' : j ∉ idx as ∧ (idx as).Nodup := List.nodup_cons.mp h
      cases m with
      | zero =>
        simp at h1
        subst h1
        cases n with
        | zero => rfl
        | succ n => exact absurd (mem_idx.mpr ⟨n, by simpa using h2⟩) h'.1
      | succ m =>
        cases n with
        | zero =>
          simp at h2
          subst h2
          exact absurd (mem_idx.mpr ⟨m, by simpa using h1⟩) h'.1
        | succ n => exact congrArg (· + 1) (ih h'.2 (by simpa using h1) (by simpa using h2))
open Classical in
/-- what the callee must leave as it is -/
noncomputable def frameOf (σ : L2.St) (as : List AV) (H : Hp) : Hp := fun a => if ∃ i ∈ idx as, σ[i]? = some (some (V.ref a)) then none else H a
section
variable {Γ : Gam} {G H : Hp} {σ : L2.St} {ρ : PEnv} {as : List AV} {vs : List V} {ps : List PV}
theorem frame_in {a : Addr} (h : ∃ i ∈ idx as, σ[i]? = some (some (V.ref a))) : frameOf σ as H a = none := if_pos h
theorem frame_out {a : Addr} (h : ¬ ∃ i ∈ idx as, σ[i]? = some (some (V.ref a))) : frameOf σ as H a = H a := if_neg h
theorem frame_sub : Ex (frameOf σ as H) H := fun a o e => by
  by_cases h : ∃ i ∈ idx as, σ[i]? = some (some (V.ref a))
  · rw [frame_in h] at e; cases e
  · rw [frame_out h] at e; exact e
theorem call_in (ok : EnvOk Γ G σ H ρ) (r : RelAs Γ σ G vs as) (hc : collect as ρ = some ps) (nd : (idx as).Nodup) (E : XK) :
    EnvOk (gamOf Γ.K Γ.mg (frameOf σ as H) G (as.map AV.isOwn) vs E) G (vs.map some) H (slotsOf (as.map AV.isOwn) ps) := by
  obtain ⟨hl, hs⟩ := collect_spec hc
  have hvl : vs.length = as.length := Paired.length r
  have slot : ∀ (m : Nat) (s : Slot), (slotsOf (as.map AV.isOwn) ps)[m]? = some s → ∃ a p, as[m]? = some a ∧ ps[m]? = some p ∧ s = slotOf a.isOwn p := fun m s h => by
    obtain ⟨b, p, h1, h2, h3⟩ := slotsOf_get h
    rw [List.getElem?_map] at h1
    cases ha : as[m]? with
    | none => rw [ha] at h1; cases h1
    | some a => rw [ha] at h1; cases h1; exact ⟨a, p, rfl, h2, h3⟩
  refine ⟨?_, frame_sub, ok.gH, Ex.refl G, fun _ _ => rfl, fun i a hi => ?_, fun m p hm => ?_, fun m p hm => ?_, fun m n p q a hmn hm hn e1 e2 => ?_⟩
  · rw [List.length_map, slotsOf_len (by simp [hl]), List.length_map, hvl]
  · have hi' : parOf (as.map AV.isOwn) vs i = some a := hi
    unfold parOf at hi'
    split at hi'
    · rename_i b _ hv
      cases hi'
      rw [List.getElem?_map, hv]; rfl
    · cases hi'
  · obtain ⟨a, q, h1, h2, h3⟩ := slot m _ hm
    cases a with
    | own i => cases h3
    | val p' =>
      have e := (hs m).1 p' h1
      rw [h2] at e
      cases e
      cases h3
      obtain ⟨v, hv, rv⟩ := r.get h1
      cases rv with
      | val rr => exact ⟨v, by rw [List.getElem?_map, hv]; rfl, rr⟩
  · obtain ⟨a, q, h1, h2, h3⟩ := slot m _ hm
    cases a with
    | val p' => cases h3
    | own i =>
      obtain ⟨q', e1, e2⟩ := (hs m).2 i h1
      rw [h2] at e1
      cases e1
      cases h3
      obtain ⟨v, hv, rv⟩ := r.get h1
      cases rv with
      | own hσ =>
        obtain ⟨c, o, g1, g2, g3, g4, g5⟩ := ok.own i _ e2
        rw [hσ] at g1
        cases g1
        exact ⟨_, o, by rw [List.getElem?_map, hv]; rfl, frame_in ⟨i, mem_idx.mpr ⟨m, h1⟩, hσ⟩, g3, g4, g5⟩
  · obtain ⟨a1, q1, h1, h2, h3⟩ := slot m _ hm
    obtain ⟨a2, q2, k1, k2, k3⟩ := slot n _ hn
    cases a1 with
    | val p' => cases h3
    | own i =>
      cases a2 with
      | val p' => cases k3
      | own j =>
        obtain ⟨q1', x1, x2⟩ := (hs m).2 i h1
        obtain ⟨q2', y1, y2⟩ := (hs n).2 j k1
        obtain ⟨v, hv, rv⟩ := r.get h1
        obtain ⟨u, hu, ru⟩ := r.get k1
        rw [List.getElem?_map, hv] at e1
        rw [List.getElem?_map, hu] at e2
        cases rv with
        | own hσ =>
          cases ru with
          | own hσ2 =>
            cases e1
            cases e2
            have hij : i ≠ j := fun z => hmn (by subst z; exact nodup_at nd h1 k1)
            exact ok.dis i j _ _ _ hij x2 y2 hσ hσ2
theorem call_out (ok : EnvOk Γ G σ H ρ) (r : RelAs Γ σ G vs as) (hc : collect as ρ = some ps) (nd : (idx as).Nodup) {E : XK} {G' H' : Hp} {σ' : L2.St} {ρ' ρn : PEnv} {os : List PV} (e : Ex G G')
    (ok' : EnvOk (gamOf Γ.K Γ.mg (frameOf σ as H) G (as.map AV.isOwn) vs E) G' σ' H' ρ') (ho : ownsOf (as.map AV.isOwn) ρ' = some os) (hp : putO as os ρ = some ρn) : EnvOk Γ G' σ H' ρn := by
  obtain ⟨hl, hs⟩ := collect_spec hc
  have own_of : ∀ i ∈ idx as, ∃ q, ρ[i]? = some (Slot.own q) := fun i hi => by
    obtain ⟨m, hm⟩ := mem_idx.mp hi
    obtain ⟨q, _, h2⟩ := (hs m).2 i hm
    exact ⟨q, h2⟩
  obtain ⟨b1, b2, b3⟩ := putO_spec ho hp nd (fun i hi => by
    obtain ⟨q, h⟩ := own_of i hi
    exact (List.getElem?_eq_some_iff.mp h).1)
  have outC : ∀ a, Γ.C a ≠ none → ¬ ∃ i ∈ idx as, σ[i]? = some (some (V.ref a)) := fun a ha ⟨i, hi, hσ⟩ => by
    obtain ⟨q, h⟩ := own_of i hi
    obtain ⟨c, o, g1, g2, _⟩ := ok.own i q h
    rw [hσ] at g1
    cases g1
    exact ha g2
  have was : ∀ (i : Nat) (q : PV), ρn[i]? = some (Slot.own q) → ∃ q', ρ[i]? = some (Slot.own q') := fun i q hi => by
    by_cases z : i ∈ idx as
    · exact own_of i z
    · rw [b2 i z] at hi; exact ⟨q, hi⟩
  refine ⟨by rw [b1]; exact ok.len, fun a o ha => ?_, ok'.gH, ok.g0.trans e, fun a ha => ?_, ok.par, fun i p hi => ?_, fun i p hi => ?_, fun i j p q a hij hi hj e1 e2 => ?_⟩
  · have h1 := ok.cH a o ha
    refine ok'.cH a o ?_
    show frameOf σ as H a = some o
    rw [frame_out (outC a (by rw [ha]; intro z; cases z))]
    exact h1
  · have hn : frameOf σ as H a ≠ none := by
      rw [frame_out (outC a ha)]
      intro z
      exact ha (ok.cH.none z)
    exact (ok'.gC a hn).trans (ok.gC a ha)
  · by_cases z : i ∈ idx as
    · obtain ⟨m, hm⟩ := mem_idx.mp z
      obtain ⟨q, _, h2⟩ := b3 m i hm
      rw [hi] at h2
      cases h2
    · rw [b2 i z] at hi
      obtain ⟨x, h1, h2⟩ := ok.val i p hi
      exact ⟨x, h1, h2.mono e⟩
  · by_cases z : i ∈ idx as
    · obtain ⟨m, hm⟩ := mem_idx.mp z
      obtain ⟨q, h1, h2⟩ := b3 m i hm
      rw [hi] at h2
      cases h2
      obtain ⟨q0, h0⟩ := own_of i z
      obtain ⟨a, o, g1, g2, g3, g4, g5⟩ := ok.own i q0 h0
      obtain ⟨a', o', k1, k2, k3, k4, k5⟩ := ok'.own m _ h1
      have hpar : (gamOf Γ.K Γ.mg (frameOf σ as H) G (as.map AV.isOwn) vs E).P m = some a := by
        obtain ⟨v, hv, rv⟩ := r.get hm
        cases rv with
        | own hσ =>
          rw [hσ] at g1
          cases g1
          show parOf (as.map AV.isOwn) vs m = some _
          unfold parOf
          rw [List.getElem?_map, hm, hv]
          rfl
      have k0 := ok'.par m a hpar
      rw [k0] at k1
      cases k1
      exact ⟨a, o', g1, g2, k3, k4, k5⟩
    · rw [b2 i z] at hi
      obtain ⟨a, o, g1, g2, g3, g4, g5⟩ := ok.own i p hi
      have hno : ¬ ∃ j ∈ idx as, σ[j]? = some (some (V.ref a)) := fun ⟨j, hj, hσ⟩ => by
        obtain ⟨q, h⟩ := own_of j hj
        exact ok.dis i j p q a (fun zz => z (by rw [zz]; exact hj)) hi h g1 hσ
      have hf : frameOf σ as H a = some o := by rw [frame_out hno]; exact g4
      refine ⟨a, o, g1, g2, ?_, ok'.cH a o hf, g5.mono e⟩
      refine (ok'.gC a ?_).trans g3
      show frameOf σ as H a ≠ none
      rw [hf]; intro zz; cases zz
  · obtain ⟨p', h1⟩ := was i p hi
    obtain ⟨q', h2⟩ := was j q hj
    exact ok.dis i j p' q' a hij h1 h2 e1 e2
end
def callE (ms : List Bool) (F : FF) (as : List AV) (ρ : PEnv) : ERes PV := match collect as ρ with
  | none => .bad
  | some ps => if (decide (as.map AV.isOwn = ms) && decide ((idx as).Nodup)) = true then (match F ps with
    | .ret p os => match putO as os ρ with
      | some ρ' => .ok p ρ'
      | none => .bad
    | .exc c fs os => match putO as os ρ with
      | some ρ' => .exc c fs ρ'
      | none => .bad
    | _ => .bad) else .bad
def callO (ms : List Bool) (F : FF) (as : List AV) (ρ : PEnv) : ERes PV := match collect as ρ with
  | none => .bad
  | some ps => if (decide (as.map AV.isOwn = ms) && decide ((idx as).Nodup)) = true then (match F ps with
    | .reo p os => match putO as os ρ with
      | some ρ' => .ok p ρ'
      | none => .bad
    | .exc c fs os => match putO as os ρ with
      | some ρ' => .exc c fs ρ'
      | none => .bad
    | _ => .bad) else .bad
abbrev AF2 := PEnv → ERes (List AV)
abbrev DA2 (Γ : Gam) (f : AF2) : TA := fun σ => DX Γ (RelAs Γ σ) f σ
def bNil : AF2 := fun ρ => .ok [] ρ
def bVal (fa : EF) (fr : AF2) : AF2 := fun ρ => (fa ρ).bind fun p ρ1 => (fr ρ1).bind fun as ρ2 => .ok (AV.val p :: as) ρ2
def bOwn (i : Nat) (fr : AF2) : AF2 := fun ρ => match ρ[i]? with
  | some (.own _) => (fr ρ).bind fun as ρ2 => .ok (AV.own i :: as) ρ2
  | _ => .bad
theorem RelAs.mono {Γ : Gam} {σ : L2.St} {G G' : Hp} (e : Ex G G') : ∀ {vs : List V} {as : List AV}, RelAs Γ σ G vs as → RelAs Γ σ G' vs as
  | _, _, .nil => .nil
  | _, _, .cons (.val r) t => .cons (.val (r.mono e)) (RelAs.mono e t)
  | _, _, .cons (.own r) t => .cons (.own r) (RelAs.mono e t)
section
variable {X : Cx} {Γ : Gam} {pos : Pos}
theorem b_nil : PA X [] (DA2 Γ bNil) := PA.imp pa_nil fun σ H Q ⟨G, ρ, ok, h⟩ => h [] G H (Ex.refl G) ok .nil
theorem b_val {e : Expr} {es : List Expr} {fa : EF} {fr : AF2} (ha : PE X e (DE Γ fa)) (hr : PA X es (DA2 Γ fr)) (hs : starEach (e :: es) X.env = (false, eval e X.env) :: starEach es X.env := by rfl) : PA X (e :: es) (DA2 Γ (bVal fa fr)) :=
  PA.imp (pa_cons ha hr hs) fun σ H Q ⟨G, ρ, ok, h⟩ => by
    refine DX.bindI ok h fun x G1 H1 p ρ1 e1 ok1 r1 h1 => ?_
    refine DX.bindI ok1 h1 fun xs G2 H2 ps ρ2 e2 ok2 r2 h2 => ?_
    exact h2 (x :: xs) G2 H2 (Ex.refl G2) ok2 (.cons (.val (r1.mono e2)) r2)
theorem b_own {e : Expr} {i : Nat} {es : List Expr} {fr : AF2} (ha : PE X e (tVar i)) (hr : PA X es (DA2 Γ fr)) (hs : starEach (e :: es) X.env = (false, eval e X.env) :: starEach es X.env := by rfl) : PA X (e :: es) (DA2 Γ (bOwn i fr)) :=
  PA.imp (pa_cons ha hr hs) fun σ H Q ⟨G, ρ, ok, h⟩ => by
    cases hi : ρ[i]? with
    | none => simp only [bOwn, hi] at h; exact h.elim
    | some s =>
      cases s with
      | own p =>
        simp only [bOwn, hi] at h
        obtain ⟨a, o, g1, _⟩ := ok.own i p hi
        refine ⟨_, g1, ?_⟩
        refine DX.bindI ok h fun xs G2 H2 ps ρ2 e2 ok2 r2 h2 => ?_
        exact h2 _ G2 H2 (Ex.refl G2) ok2 (.cons (.own g1) r2)
      | _ => simp only [bOwn, hi] at h; exact h.elim
def eCallF (ms : List Bool) (F : FF) (fa : AF2) : EF := fun ρ => (fa ρ).bind fun as ρ1 => callE ms F as ρ1
def eCallO (ms : List Bool) (F : FF) (fa : AF2) : EF := fun ρ => (fa ρ).bind fun as ρ1 => callO ms F as ρ1
theorem callE_sp {F : FF} {ms : List Bool} {G H : Hp} {σ : L2.St} {ρ : PEnv} {as : List AV} {vs : List V} {Q : VK} (ok : EnvOk Γ G σ H ρ) (r : RelAs Γ σ G vs as) (h : Post Γ (Rep Γ.K Γ.mg) (callE ms F as ρ) G σ Q) :
    spF Γ.K Γ.mg ms F vs H Q (WE Γ.W σ) := by
  unfold callE at h
  cases hc : collect as ρ with
  | none => rw [hc] at h; exact h.elim
  | some ps =>
    rw [hc] at h
    simp only at h
    split at h
    · rename_i c
      obtain ⟨hms', nd'⟩ := Bool.and_eq_true_iff.mp c
      have hms := of_decide_eq_true hms'
      have nd := of_decide_eq_true nd'
      subst hms
      refine ⟨frameOf σ as H, G, ps, by rw [List.length_map]; exact Paired.length r, by rw [List.length_map]; exact (collect_spec hc).1, call_in ok r hc nd _, ?_⟩
      cases hF : F ps with
      | ret p os =>
        rw [hF] at h
        simp only at h
        intro v σ' G' H' ρ' e ok' ho rv
        cases hp : putO as os ρ with
        | none => rw [hp] at h; exact h.elim
        | some ρn => rw [hp] at h; exact h v G' H' e (call_out ok r hc nd e ok' ho hp) rv
      | exc c fs os =>
        rw [hF] at h
        simp only at h
        intro C d ws σ' G' H' ρ' hm e ok' ho hd rf
        cases hp : putO as os ρ with
        | none => rw [hp] at h; exact h.elim
        | some ρn => rw [hp] at h; exact h C d ws G' H' hm e (call_out ok r hc nd e ok' ho hp) hd rf
      | reo p os => rw [hF] at h; exact h.elim
      | bad => rw [hF] at h; exact h.elim
    · exact h.elim
theorem callO_sp {F : FF} {ms : List Bool} {G H : Hp} {σ : L2.St} {ρ : PEnv} {as : List AV} {vs : List V} {Q : VK} (ok : EnvOk Γ G σ H ρ) (r : RelAs Γ σ G vs as) (h : PostF Γ (callO ms F as ρ) G σ Q) :
    spF Γ.K Γ.mg ms F vs H Q (WE Γ.W σ) := by
  unfold callO at h
  cases hc : collect as ρ with
  | none => rw [hc] at h; exact h.elim
  | some ps =>
    rw [hc] at h
    simp only at h
    split at h
    · rename_i c
      obtain ⟨hms', nd'⟩ := Bool.and_eq_true_iff.mp c
      have hms := of_decide_eq_true hms'
      have nd := of_decide_eq_true nd'
      subst hms
      refine ⟨frameOf σ as H, G, ps, by rw [List.length_map]; exact Paired.length r, by rw [List.length_map]; exact (collect_spec hc).1, call_in ok r hc nd _, ?_⟩
      cases hF : F ps with
      | reo p os =>
        rw [hF] at h
        simp only at h
        intro a o σ' G' H' ρ' e ok' ho c1 c2 c3 c4 c5
        cases hp : putO as os ρ with
        | none => rw [hp] at h; exact h.elim
        | some ρn =>
          rw [hp] at h
          have okn := call_out ok r hc nd e ok' ho hp
          have c1' : frameOf σ as H a = none := c1
          -- the new thing is none of the caller's
          have hCa : Γ.C a = none := by
            cases q : Γ.C a with
            | none => rfl
            | some u =>
              have h1 := ok.cH a u q
              by_cases z : ∃ i ∈ idx as, σ[i]? = some (some (V.ref a))
              · obtain ⟨i, hi, hσ⟩ := z
                obtain ⟨m, hm⟩ := mem_idx.mp hi
                obtain ⟨q', _, hq⟩ := ((collect_spec hc).2 m).2 i hm
                obtain ⟨c', o', g1, g2, _⟩ := ok.own i q' hq
                rw [hσ] at g1
                cases g1
                rw [g2] at q; cases q
              · rw [frame_out z, h1] at c1'
                cases c1'
          refine h a o G' H' e okn hCa c2 c3 c4 fun i q hi hσ => ?_
          -- an owned slot of the caller's holds another thing
          obtain ⟨b1, b2, b3⟩ := putO_spec ho hp nd (fun i hi => by
            obtain ⟨m, hm⟩ := mem_idx.mp hi
            obtain ⟨q', _, hq⟩ := ((collect_spec hc).2 m).2 i hm
            exact (List.getElem?_eq_some_iff.mp hq).1)
          by_cases z : i ∈ idx as
          · obtain ⟨m, hm⟩ := mem_idx.mp z
            obtain ⟨q', h1, h2⟩ := b3 m i hm
            obtain ⟨v, hv, rv⟩ := r.get hm
            cases rv with
            | own hσ' =>
              rename_i b
              rw [hσ] at hσ'
              cases hσ'
              have hpar : (gamOf Γ.K Γ.mg (frameOf σ as H) G (as.map AV.isOwn) vs (WE Γ.W σ)).P m = some a := by
                show parOf (as.map AV.isOwn) vs m = some a
                unfold parOf
                rw [List.getElem?_map, hm, hv]
                rfl
              exact c5 m q' h1 (ok'.par m a hpar)
          · rw [b2 i z] at hi
            obtain ⟨b, u, g1, g2, g3, g4, g5⟩ := ok.own i q hi
            rw [hσ] at g1
            cases g1
            by_cases zz : ∃ j ∈ idx as, σ[j]? = some (some (V.ref a))
            · obtain ⟨j, hj, hσj⟩ := zz
              obtain ⟨m, hm⟩ := mem_idx.mp hj
              obtain ⟨q', _, hq⟩ := ((collect_spec hc).2 m).2 j hm
              exact ok.dis i j q q' a (fun w => z (by rw [w]; exact hj)) hi hq hσ hσj
            · rw [frame_out zz, g4] at c1'
              cases c1'
      | exc c fs os =>
        rw [hF] at h
        simp only at h
        intro C d ws σ' G' H' ρ' hm e ok' ho hd rf
        cases hp : putO as os ρ with
        | none => rw [hp] at h; exact h.elim
        | some ρn => rw [hp] at h; exact h C d ws G' H' hm e (call_out ok r hc nd e ok' ho hp) hd rf
      | ret p os => rw [hF] at h; exact h.elim
      | bad => rw [hF] at h; exact h.elim
    · exact h.elim
/-- a def that is called, with room, by its name -/
structure Def (P : Program) (w : World) (K : PySem.W.Frag) (mg : Str → Option Value) (base : Heap) (k : Nat) (x : Str) (ps : List Str) (ms : List Bool) (F : FF) where
  f : Addr
  fd : FuncData
  ok : FnOk P w K mg base (L2N.CX P w) k f fd ps (spF K mg ms F)
  gm : mg x = some (.ref f)
  kp : PySem.W.keepIn K (.ref f) = true
  bi : Binds K fd ps []
theorem v_call {k : Nat} {x : Str} {nps : List Str} {ms : List Bool} {F : FF} {p : Pos} {e : Expr} {es : List Expr} {fa : AF2} (hx : OkX X Γ) (tk : L2N.Takes X Γ.W) (d : Def X.prog X.w X.K X.mg X.base k x nps ms F) (hr : Room k X.A) (hg : Gl X x) (ha : PA X (e :: es) (DA2 Γ fa))
    (hdb : (x == ("__debug__" : Str)) = false := by decide) (he : starEach (e :: es) X.env = (false, eval e X.env) :: starEach es X.env := by rfl) (hpl : (backTo pos (starEach es X.env)).any (·.1) = false := by rfl) :
    PE X (.Call (.Name x p) (e :: es) [] pos) (DE Γ (eCallF ms F fa)) := by
  refine PE.imp (pe_callS d.ok hr hg d.gm d.kp d.bi (E := WE Γ.W) (fun σ => L2N.passAt tk σ) ha hdb he hpl) fun σ H Q ⟨G, ρ, ok, q⟩ => ?_
  refine DX.bindI (rel1 := RelAs Γ σ) ok q fun vs G1 H1 as ρ1 e1 ok1 r1 h1 => ?_
  rw [hx.k, hx.m]
  exact callE_sp ok1 r1 h1
theorem DX.bindF2 {α1 β1 : Type} {rel1 : Hp → β1 → α1 → Prop} {f : PEnv → ERes α1} {k : α1 → PEnv → ERes PV} {G H : Hp} {σ : L2.St} {ρ : PEnv} {Q : VK} {Q1 : β1 → Hp → Prop}
    (ok : EnvOk Γ G σ H ρ) (h : PostF Γ ((f ρ).bind k) G σ Q)
    (c : ∀ v G1 H1 p ρ1, Ex G G1 → EnvOk Γ G1 σ H1 ρ1 → rel1 G1 v p → PostF Γ (k p ρ1) G1 σ Q → Q1 v H1) : DX Γ rel1 f σ H Q1 := DX.bindF ok h c
theorem f_call {k : Nat} {x : Str} {nps : List Str} {ms : List Bool} {F : FF} {p : Pos} {e : Expr} {es : List Expr} {fa : AF2} (hx : OkX X Γ) (tk : L2N.Takes X Γ.W) (d : Def X.prog X.w X.K X.mg X.base k x nps ms F) (hr : Room k X.A) (hg : Gl X x) (ha : PA X (e :: es) (DA2 Γ fa))
    (hdb : (x == ("__debug__" : Str)) = false := by decide) (he : starEach (e :: es) X.env = (false, eval e X.env) :: starEach es X.env := by rfl) (hpl : (backTo pos (starEach es X.env)).any (·.1) = false := by rfl) :
    PE X (.Call (.Name x p) (e :: es) [] pos) (DF Γ (eCallO ms F fa)) := by
  refine PE.imp (pe_callS d.ok hr hg d.gm d.kp d.bi (E := WE Γ.W) (fun σ => L2N.passAt tk σ) ha hdb he hpl) fun σ H Q ⟨G, ρ, ok, q⟩ => ?_
  refine DX.bindF (rel1 := RelAs Γ σ) ok q fun vs G1 H1 as ρ1 e1 ok1 r1 h1 => ?_
  rw [hx.k, hx.m]
  exact callO_sp ok1 r1 h1
end
end PL
end

section
set_option Elab.async false
set_option linter.all false
set_option maxRecDepth 100000
set_option maxHeartbeats 4000000
set_option autoImplicit false
namespace PL
open PySem PySem.Spec PyProof.Rows L2

/-! ### errors -/
/-- an error's __init__ that keeps its arguments under these names -/
def spI (C : Addr) (ns : List Str) : Sp := fun vs H Q _ => ∃ (a : Addr) (ws : List V), vs = .ref a :: ws ∧ ws.length = ns.length ∧ H a = some (exo a C none) ∧
  ∀ (dx : Addr) (H' : Hp), H dx = none → dx ≠ a → (∀ b, b ≠ a → b ≠ dx → H' b = H b) → H' a = some (exo a C (some dx)) → H' dx = some (exd dx ((ns.zip ws).reverse)) → Q .non H'
theorem init1 {K : PySem.W.Frag} {C : Addr} {f x s : Str} {vs : List V} {H : Hp} {Q : VK} {E : XK} (T : OexC K C) (hf : PySem.W.findIn K (.ref C) f = some none) (h : spI C [f] vs H Q E) :
    tOst K f (tVar 0) (tVar 1) { nx := fun _ H' => Q .non H', rt := Q } (start [s, x] vs) H := by
  obtain ⟨a, ws, rfl, hl, ha, k⟩ := h
  match ws, hl with
  | [y], _ =>
    refine ⟨y, rfl, .ref a, rfl, a, C, rfl, T, hf, .inl ⟨ha, fun dx hd hne => ?_⟩⟩
    exact k dx _ hd hne (fun b h1 h2 => by rw [upd_ne h1, upd_ne h2]) upd_same (by rw [upd_ne hne]; exact upd_same)
theorem init2 {K : PySem.W.Frag} {C : Addr} {f g x y s : Str} {vs : List V} {H : Hp} {Q : VK} {E : XK} (T : OexC K C) (hf : PySem.W.findIn K (.ref C) f = some none) (hg : PySem.W.findIn K (.ref C) g = some none) (h : spI C [f, g] vs H Q E) :
    tSeq (tOst K f (tVar 0) (tVar 1)) (tOst K g (tVar 0) (tVar 2)) { nx := fun _ H' => Q .non H', rt := Q } (start [s, x, y] vs) H := by
  obtain ⟨a, ws, rfl, hl, ha, k⟩ := h
  match ws, hl with
  | [u, v], _ =>
    refine ⟨u, rfl, .ref a, rfl, a, C, rfl, T, hf, .inl ⟨ha, fun dx hd hne => ?_⟩⟩
    refine ⟨v, rfl, .ref a, rfl, a, C, rfl, T, hg, .inr ⟨dx, [(f, u)], upd_same, by rw [upd_ne hne]; exact upd_same, by simp, ?_⟩⟩
    exact k dx _ hd hne (fun b h1 h2 => by rw [upd_ne h2, upd_ne h1, upd_ne h2]) (by rw [upd_ne (Ne.symm hne)]; exact upd_same) upd_same
/-- a class of errors with such an __init__ -/
structure ExcCl (P : Program) (w : World) (K : PySem.W.Frag) (mg : Str → Option Value) (base : Heap) (c : Str) (ns : List Str) where
  C : Addr
  fI : Addr
  fd : FuncData
  nps : List Str
  T : OexC K C
  iC : PySem.W.findIn K (.ref C) "__init__" = some (some (.ref fI))
  tI : PySem.W.typeIn K (.ref fI) = some (.type "function")
  ok : FnOk P w K mg base CX0 1 fI fd nps (spI C ns)
  bi : Binds K fd nps []
  gm : mg c = some (.ref C)
  xf : XfC K C
  no : ∀ f ∈ ns, PySem.W.findIn K (.ref C) f = some none
theorem RepF.snoc {K : PySem.W.Frag} {mg : Str → Option Value} {G : Hp} {f : Str} {v : V} {p : PV} (r : Rep K mg G v p) : ∀ {vs : List (Str × V)} {ps : List (Str × PV)}, RepF K mg G vs ps → RepF K mg G (vs ++ [(f, v)]) (ps ++ [(f, p)])
  | _, _, .nil => .cons r .nil
  | _, _, .cons h t => .cons h (RepF.snoc r t)
theorem RepF.zipR {K : PySem.W.Frag} {mg : Str → Option Value} {G : Hp} : ∀ {ns : List Str} {vs : List V} {ps : List PV}, Reps K mg G vs ps → RepF K mg G ((ns.zip vs).reverse) ((ns.zip ps).reverse)
  | [], _, _, _ => by simp; exact .nil
  | _ :: _, _, _, .nil => by simp; exact .nil
  | n :: ns, _, _, .cons h t => by
    simp only [List.zip_cons_cons, List.reverse_cons]
    exact RepF.snoc h (RepF.zipR t)
section
variable {X : Cx} {Γ : Gam} {pos : Pos}
def sRaise (c : Str) (ns : List Str) (fa : AF) : SF := fun ρ => (fa ρ).bindS fun ps ρ1 => if decide (ps.length = ns.length ∧ ns.length ≤ 100) = true then .exc c ((ns.zip ps).reverse) ρ1 else .bad
theorem s_raise {c : Str} {ns : List Str} {fa : AF} {p pos' : Pos} {e : Expr} {es : List Expr} (hx : OkX X Γ) (hc : X.calm = true) (tk : L2N.Takes X Γ.W) (cl : ExcCl X.prog X.w X.K X.mg X.base c ns) (hr : Room 2 X.A) (hg : Gl X c) (ha : PA X (e :: es) (DA Γ fa))
    (hdb : (c == ("__debug__" : Str)) = false := by decide) (he : starEach (e :: es) X.env = (false, eval e X.env) :: starEach es X.env := by rfl) (hpl : (backTo pos (starEach es X.env)).any (·.1) = false := by rfl) :
    PS X (.Raise (some (.Call (.Name c p) (e :: es) [] pos)) none pos') (DS Γ (sRaise c ns fa)) := by
  have hmk := pmk_oexN (pos := pos) (p := p) cl.T cl.iC cl.tI cl.ok hr cl.bi .nil (fun _ _ _ _ _ _ _ h => h.elim) hg cl.gm ha hdb he hpl
  refine PS.imp (L2N.ps_raise hc tk hmk) fun D σ H ⟨G, ρ, ok, q⟩ => ?_
  refine DX.bindS ok q fun vs G1 H1 ps ρ1 e1 ok1 r1 h1 => ?_
  split at h1
  · rename_i cc
    obtain ⟨c1, c2⟩ := of_decide_eq_true cc
    have hlen := r1.length
    refine ⟨by omega, fun a hna => ⟨a, vs ++ [], rfl, by rw [List.append_nil]; omega, upd_same, fun dx H' hd hne h3 h4 h5 => ⟨rfl, dx, _, h4, h5, ?_, ?_⟩⟩⟩
    · rw [upd_ne hne] at hd; exact hd
    · rw [upd_ne hne] at hd
      rw [List.append_nil]
      have eH : upd (del H' a) dx (.xd ((ns.zip vs).reverse)) = upd H1 dx (.xd ((ns.zip vs).reverse)) := by
        funext b
        by_cases z : b = dx
        · subst z; rw [upd_same, upd_same]
        · rw [upd_ne z, upd_ne z]
          by_cases z2 : b = a
          · subst z2; rw [del_same]; exact hna.symm
          · rw [del_ne z2, h3 b z2 z, upd_ne z2]
      rw [eH]
      refine h1 cl.C dx _ σ (upd G1 dx (.xd ((ns.zip vs).reverse))) _ (by rw [← hx.m]; exact cl.gm) (Ex.new (ok1.gH.none hd)) (ok1.grow (Grow.new ok1.gH hd)) upd_same ?_
      exact RepF.zipR (r1.mono (Ex.new (ok1.gH.none hd)))
  · exact h1.elim
/-! try .. except X as n -/
def noSlot (i : Nat) (r : SRes) : SRes := match r with
  | .nx ρ => .nx (ρ.set i .no)
  | .bk ρ => .bk (ρ.set i .no)
  | .ct ρ => .ct (ρ.set i .no)
  | .rt p ρ => .rt p ρ
  | _ => .bad
def sTry (i : Nat) (m : Str → Option Bool) (body : SF) (suite : List (Str × PV) → SF) : SF := fun ρ => match body ρ with
  | .exc c fs ρ1 => match m c with
    | some true => if decide (i < ρ1.length) = true then noSlot i (suite fs (ρ1.set i .no)) else .bad
    | some false => .exc c fs ρ1
    | none => .bad
  | r => r
theorem EnvOk.withW {Γ : Gam} {G H : Hp} {σ : L2.St} {ρ : PEnv} {W : WX} (ok : EnvOk Γ G σ H ρ) : EnvOk { Γ with W := W } G σ H ρ := ⟨ok.len, ok.cH, ok.gH, ok.g0, ok.gC, ok.par, ok.val, ok.own, ok.dis⟩
theorem EnvOk.ofW {Γ : Gam} {G H : Hp} {σ : L2.St} {ρ : PEnv} {W : WX} (ok : EnvOk { Γ with W := W } G σ H ρ) : EnvOk Γ G σ H ρ := ⟨ok.len, ok.cH, ok.gH, ok.g0, ok.gC, ok.par, ok.val, ok.own, ok.dis⟩
def Gam.inSuite (Γ : Gam) (G : Hp) (i : Nat) (a : Addr) : Gam := { Γ with G := G, P := fun j => if j = i then some a else Γ.P j, W := fun _ _ _ _ => False }
theorem EnvOk.toSuite {Γ : Gam} {G H : Hp} {σ : L2.St} {ρ : PEnv} {i : Nat} {a : Addr} (ok : EnvOk Γ G σ H ρ) (hi : i < ρ.length) (np : Γ.P i = none) : EnvOk (Γ.inSuite G i a) G (σ.set i (some (V.ref a))) H (ρ.set i .no) := by
  have o := ok.setNo (i := i) (v := some (V.ref a)) np
  refine ⟨o.len, o.cH, o.gH, Ex.refl G, fun _ _ => rfl, fun j b hj => ?_, o.val, o.own, o.dis⟩
  have hj' : (if j = i then some a else Γ.P j) = some b := hj
  by_cases z : j = i
  · subst z
    rw [if_pos rfl] at hj'
    cases hj'
    exact List.getElem?_set_self (by rw [ok.len]; exact hi)
  · rw [if_neg z] at hj'
    exact o.par j b hj'
theorem EnvOk.ofSuite {Γ : Gam} {G0 G H0 H : Hp} {σ0 σ : L2.St} {ρ0 ρ : PEnv} {i : Nat} {a : Addr} (ok0 : EnvOk Γ G0 σ0 H0 ρ0) (ok : EnvOk (Γ.inSuite G0 i a) G σ H ρ) (np : Γ.P i = none) : EnvOk Γ G σ H ρ := by
  refine ⟨ok.len, ok.cH, ok.gH, ok0.g0.trans ok.g0, fun b hb => (ok.gC b hb).trans (ok0.gC b hb), fun j b hj => ?_, ok.val, ok.own, ok.dis⟩
  have z : j ≠ i := fun z => by rw [z, np] at hj; cases hj
  refine ok.par j b ?_
  show (if j = i then some a else Γ.P j) = some b
  rw [if_neg z]; exact hj
theorem PSs.any {X : Cx} {st : List Stmt} {ι : Type} {t : ι → TS} {p : ι → Prop} (h : ∀ j, p j → PSs X st (t j)) : PSs X st (fun D σ H => ∃ j, p j ∧ t j D σ H) := ⟨fun pins s σ H D I ⟨j, hp, z⟩ => (h j hp).run pins s σ H D I z⟩
theorem s_try {i : Nat} {m : Str → Option Bool} {bf : SF} {sf : List (Str × PV) → SF} {x n : Str} {hv : Value} {body suite : List Stmt} {b₀ : Stmt} {np pos' : Pos} (hx : OkX X Γ) (nP : Γ.P i = none) (hs : X.stack = X.env :: X.outer) (hf : X.env.frame = some X.env.locals) (hN : X.N.Nodup) (hi : X.N[i]? = some n) (hln : X.env.kindOf n = some .local) (hc : Names X x hv) (tk : L2N.Takes X Γ.W)
    (hm : ∀ c C b, m c = some b → X.mg c = some (.ref C) → PySem.W.exmOne X.K (.ref C) hv = some b)
    (hb : ∀ (pn : List (Addr × Obj)) (xe : Value → Shared → Prop) (Γ' : Gam), OkX (X.tr pn xe) Γ' → Γ'.P = Γ.P → L2N.Takes (X.tr pn xe) Γ'.W → PassesOwn (model X.prog X.w) X.A X.env xe → PSs (X.tr pn xe) body (DS Γ' bf))
    (hsu : ∀ (a : Addr) (oe : Obj) (pn : List (Addr × Obj)) (c : Str) (C dd : Addr) (ws : List (Str × V)) (fs : List (Str × PV)) (Γ' : Gam), L2N.Zn (.ref C) (some dd) oe → (∃ vs, oe.data = .fields vs) → m c = some true → X.mg c = some (.ref C) → OkX (X.suite a ((a, oe) :: pn)) Γ' → Γ'.P i = some a →
      (∀ j, j ≠ i → Γ'.P j = Γ.P j) → Γ'.G dd = some (.xd ws) → RepF Γ'.K Γ'.mg Γ'.G ws fs → PSs (X.suite a ((a, oe) :: pn)) (b₀ :: suite) (DS Γ' (sf fs))) :
    PS X (.Try body [.ExceptHandler (some (.Name x np)) (some n) (b₀ :: suite) pos'] [] [] pos) (DS Γ (sTry i m bf sf)) := by
  refine PS.imp (L2N.ps_try_as (pos := pos) (pos' := pos') (np := np) (Wout := Γ.W) (tb := fun W => DS { Γ with W := W } bf) (ts := fun a cls d D σ H => ∃ j : Str × Addr × Addr × List (Str × V) × List (Str × PV) × Gam, (cls = .ref j.2.1 ∧ d = some j.2.2.1 ∧ m j.1 = some true ∧ X.mg j.1 = some (.ref j.2.1) ∧ X.K = j.2.2.2.2.2.K ∧ X.mg = j.2.2.2.2.2.mg ∧ j.2.2.2.2.2.P i = some a ∧
      (∀ k, k ≠ i → j.2.2.2.2.2.P k = Γ.P k) ∧ j.2.2.2.2.2.G j.2.2.1 = some (.xd j.2.2.2.1) ∧ RepF j.2.2.2.2.2.K j.2.2.2.2.2.mg j.2.2.2.2.2.G j.2.2.2.1 j.2.2.2.2.1) ∧ DS j.2.2.2.2.2 (sf j.2.2.2.2.1) D σ H)
    hs hf hN hi hln hc tk (fun W pn xe tkW po => hb pn xe { Γ with W := W } ⟨hx.k, hx.m⟩ rfl tkW po) (fun a oe cls d pn hz hfi => PSs.any fun j hj => ?_)) fun D σ H ⟨G, ρ, ok, q⟩ => ?_
  · obtain ⟨h1, h2, h3, h4, h5, h6, h7, h8, h9, h10⟩ := hj
    subst h1 h2
    exact hsu a oe pn j.1 j.2.1 j.2.2.1 j.2.2.2.1 j.2.2.2.2.1 j.2.2.2.2.2 hz hfi h3 h4 ⟨h5, h6⟩ h7 h8 h9 h10
  · refine ⟨G, ρ, ok.withW, ?_⟩
    unfold sTry at q
    cases hbf : bf ρ with
    | nx ρ1 => rw [hbf] at q; exact fun σ' G' H' e ok' => q σ' G' H' e ok'.ofW
    | bk ρ1 => rw [hbf] at q; exact fun σ' G' H' e ok' => q σ' G' H' e ok'.ofW
    | ct ρ1 => rw [hbf] at q; exact fun σ' G' H' e ok' => q σ' G' H' e ok'.ofW
    | rt p ρ1 => rw [hbf] at q; exact fun v σ' G' H' e ok' => q v σ' G' H' e ok'.ofW
    | ro p ρ1 => rw [hbf] at q; exact fun a o σ' G' H' e ok' => q a o σ' G' H' e ok'.ofW
    | bad => rw [hbf] at q; exact q
    | exc c fs ρ1 =>
      rw [hbf] at q
      simp only at q
      intro C d ws σ' G' H' hmg e ok' hd rf
      have ok1 := ok'.ofW
      cases hmc : m c with
      | none => rw [hmc] at q; exact q.elim
      | some b =>
        rw [hmc] at q
        refine ⟨b, hm c C b hmc (by rw [hx.m]; exact hmg), fun hb' a hna => ?_, fun hb' => ?_⟩
        · subst hb'
          simp only at q
          split at q
          · rename_i hlt
            have hlt' := of_decide_eq_true hlt
            refine ⟨(c, C, d, ws, fs, Γ.inSuite G' i a), ⟨rfl, rfl, hmc, by rw [hx.m]; exact hmg, hx.k, hx.m, ?_, fun k hk => ?_, hd, rf⟩, G', ρ1.set i .no, ok1.toSuite hlt' nP, ?_⟩
            · show (if i = i then some a else Γ.P i) = some a
              rw [if_pos rfl]
            · show (if k = i then some a else Γ.P k) = Γ.P k
              rw [if_neg hk]
            · have q' := PostS.mono e q
              show PostS (Γ.inSuite G' i a) (sf fs (ρ1.set i .no)) G' _
              cases hsf : sf fs (ρ1.set i .no) with
              | nx ρ2 => rw [hsf] at q'; exact fun σ2 G2 H2 e2 ok2 => q' _ G2 H2 e2 ((ok1.ofSuite ok2 nP).setNo nP)
              | bk ρ2 => rw [hsf] at q'; exact fun σ2 G2 H2 e2 ok2 => q' _ G2 H2 e2 ((ok1.ofSuite ok2 nP).setNo nP)
              | ct ρ2 => rw [hsf] at q'; exact fun σ2 G2 H2 e2 ok2 => q' _ G2 H2 e2 ((ok1.ofSuite ok2 nP).setNo nP)
              | rt p ρ2 => rw [hsf] at q'; exact fun v σ2 G2 H2 e2 ok2 r2 => q' v σ2 G2 H2 e2 (ok1.ofSuite ok2 nP) r2
              | ro p ρ2 => rw [hsf] at q'; exact q'.elim
              | exc _ _ _ => rw [hsf] at q'; exact q'.elim
              | bad => rw [hsf] at q'; exact q'.elim
          · exact q.elim
        · subst hb'
          simp only at q
          exact q C d ws σ' G' H' hmg e ok1 hd rf
/-- n.f in the suite -/
def eXf (fs : List (Str × PV)) (f : Str) : EF := fun ρ => oRes (fs.lookup f) ρ
theorem v_xf {a C dd : Addr} {oe : Obj} {pn : List (Addr × Obj)} {e : Expr} {i : Nat} {ws : List (Str × V)} {fs : List (Str × PV)} {f : Str} {Γ' : Gam} (T : XfC X.K C) (hno : PySem.W.findIn X.K (.ref C) f = some none) (hz : L2N.Zn (.ref C) (some dd) oe) (hf : ∃ vs, oe.data = .fields vs) (he : PE (X.suite a ((a, oe) :: pn)) e (tVar i))
    (hP : Γ'.P i = some a) (hd : Γ'.G dd = some (.xd ws)) (rf : RepF Γ'.K Γ'.mg Γ'.G ws fs) (hb : attributeBase e f X.env (eval e X.env) = eval e X.env := by rfl) : PE (X.suite a ((a, oe) :: pn)) (.Attribute e f pos) (DE Γ' (eXf fs f)) :=
  PE.imp (pe_xf (pos := pos) T hno hz.zc hf he hb) fun σ H Q ⟨G, ρ, ok, q⟩ => by
    unfold eXf at q
    cases hl : fs.lookup f with
    | none => rw [hl] at q; exact q.elim
    | some p =>
      rw [hl] at q
      obtain ⟨v, h1, h2⟩ := rf.look hl
      exact ⟨_, ok.par i a hP, rfl, rfl, dd, ws, v, rfl, ok.gH _ _ (ok.g0 _ _ hd), h1, q v G H (Ex.refl G) ok (h2.mono ok.g0)⟩
/-! f-strings of two parts and more -/
def eJs : List EF → Str → EF
  | [], acc => fun ρ => .ok (.str acc) ρ
  | f :: fs, acc => fun ρ => (f ρ).bind fun p ρ1 => match p with
    | .str y => if decide ((acc ++ y).length ≤ 100000) = true then eJs fs (acc ++ y) ρ1 else .bad
    | _ => .bad
inductive PJv (X : Cx) (Γ : Gam) : List Expr → List EF → Prop where
  | nil : PJv X Γ [] []
  | cons {e : Expr} {t : EF} {es : List Expr} {ts : List EF} (h : PE X e (DE Γ t)) (r : PJv X Γ es ts) : PJv X Γ (e :: es) (t :: ts)
theorem PJv.pj : ∀ {es : List Expr} {fs : List EF}, PJv X Γ es fs → PJ X es (fs.map (DE Γ))
  | _, _, .nil => .nil
  | _, _, .cons h r => .cons h r.pj
theorem js_read : ∀ {fs : List EF} {acc : Str} {G H : Hp} {σ : L2.St} {ρ : PEnv} {Q : VK}, EnvOk Γ G σ H ρ → Post Γ (Rep Γ.K Γ.mg) (eJs fs acc ρ) G σ Q → tJs (fs.map (DE Γ)) acc σ H (fun out H1 => Q (.str out) H1)
  | [], acc, G, H, σ, ρ, Q, ok, q => q (.str acc) G H (Ex.refl G) ok (.str acc)
  | f :: fs, acc, G, H, σ, ρ, Q, ok, q => by
    refine DX.bindI ok q fun x G1 H1 p ρ1 e1 ok1 r1 h1 => ?_
    cases p with
    | str y =>
      cases r1
      simp only at h1
      split at h1
      · rename_i c
        exact ⟨y, rfl, szOk (of_decide_eq_true c), js_read ok1 h1⟩
      · exact h1.elim
    | _ => exact h1.elim
theorem v_joined {v1 v2 : Expr} {rest : List Expr} {fs : List EF} (h : PJv X Γ (v1 :: v2 :: rest) fs) : PE X (.JoinedStr (v1 :: v2 :: rest) pos) (DE Γ (eJs fs Str.empty)) :=
  PE.imp (pe_joined h.pj) fun σ H Q ⟨G, ρ, ok, q⟩ => js_read ok q
/-! calls: missing arguments filled up; by keywords; of nothing -/
theorem RelAs.app {σ : L2.St} {G : Hp} : ∀ {vs : List V} {as : List AV}, RelAs Γ σ G vs as → ∀ {ws : List V} {ps : List PV}, Reps Γ.K Γ.mg G ws ps → RelAs Γ σ G (vs ++ ws) (as ++ ps.map AV.val)
  | _, _, .nil, _, _, .nil => .nil
  | _, _, .nil, _, _, .cons h t => .cons (.val h) (RelAs.app (vs := []) (as := []) .nil t)
  | _, _, .cons h t, _, _, r => .cons h (RelAs.app t r)
def eCallD (ms : List Bool) (F : FF) (dps : List PV) (fa : AF2) : EF := fun ρ => (fa ρ).bind fun as ρ1 => callE ms F (as ++ dps.map AV.val) ρ1
theorem v_callD {k : Nat} {x : Str} {nps : List Str} {ms : List Bool} {F : FF} {p : Pos} {e : Expr} {es : List Expr} {fa : AF2} {f : Addr} {fd : FuncData} {dvs : List V} {dps : List PV} (hx : OkX X Γ) (tk : L2N.Takes X Γ.W)
    (ok : FnOk X.prog X.w X.K X.mg X.base (L2N.CX X.prog X.w) k f fd nps (spF X.K X.mg ms F)) (gm : X.mg x = some (.ref f)) (kp : PySem.W.keepIn X.K (.ref f) = true) (hb : ∃ ds, Vals dvs ds ∧ Binds X.K fd nps ds) (hd : ∀ G, Reps Γ.K Γ.mg G dvs dps)
    (hr : Room k X.A) (hg : Gl X x) (ha : PA X (e :: es) (DA2 Γ fa))
    (hdb : (x == ("__debug__" : Str)) = false := by decide) (he : starEach (e :: es) X.env = (false, eval e X.env) :: starEach es X.env := by rfl) (hpl : (backTo pos (starEach es X.env)).any (·.1) = false := by rfl) :
    PE X (.Call (.Name x p) (e :: es) [] pos) (DE Γ (eCallD ms F dps fa)) := by
  obtain ⟨ds, hv, hb⟩ := hb
  refine PE.imp (pe_callSD ok hr hg gm kp hb hv (E := WE Γ.W) (fun σ => L2N.passAt tk σ) ha hdb he hpl) fun σ H Q ⟨G, ρ, ok, q⟩ => ?_
  refine DX.bindI (rel1 := RelAs Γ σ) ok q fun vs G1 H1 as ρ1 e1 ok1 r1 h1 => ?_
  rw [hx.k, hx.m]
  exact callE_sp ok1 (RelAs.app r1 (hd G1)) h1
def noExc {α : Type} (r : ERes α) : ERes α := match r with
  | .ok a ρ => .ok a ρ
  | _ => .bad
/-- keywords; what is raised is not told -/
def eCallK (ms : List Bool) (n m : Nat) (F : FF) (gP : List PV → List PV → List PV) (fa fk : AF) : EF := fun ρ => (fa ρ).bind fun ps ρ1 => (fk ρ1).bind fun qs ρ2 =>
  if decide (ps.length = n ∧ qs.length = m) = true then noExc (callE ms F ((gP ps qs).map AV.val) ρ2) else .bad
theorem RelAs.vals {σ : L2.St} {G : Hp} {ws : List V} {ps : List PV} (r : Reps Γ.K Γ.mg G ws ps) : RelAs Γ σ G ws (ps.map AV.val) := RelAs.app (vs := []) (as := []) .nil r
theorem pk_imp {kws : List Keyword} {t t' : TA} (h : PK X kws t) (i : ∀ σ H Q, t' σ H Q → t σ H Q) : PK X kws t' := ⟨fun a pins s σ H Q I z => h.run a pins s σ H Q I (i σ H Q z)⟩
theorem k_nil : PK X [] (DA Γ aNil) := pk_imp pk_nil fun σ H Q ⟨G, ρ, ok, h⟩ => h [] G H (Ex.refl G) ok .nil
theorem k_cons {e : Expr} {kws : List Keyword} {nm : Option Str} {kpos : Pos} {fa : EF} {fr : AF} (ha : PE X e (DE Γ fa)) (hr : PK X kws (DA Γ fr)) : PK X (⟨nm, e, kpos⟩ :: kws) (DA Γ (aCons fa fr)) :=
  pk_imp (pk_cons ha hr) fun σ H Q ⟨G, ρ, ok, h⟩ => by
    refine DX.bindI ok h fun x G1 H1 p ρ1 e1 ok1 r1 h1 => ?_
    refine DX.bindI ok1 h1 fun xs G2 H2 ps ρ2 e2 ok2 r2 h2 => ?_
    exact h2 (x :: xs) G2 H2 (Ex.refl G2) ok2 (.cons (r1.mono e2) r2)
theorem v_callK {k n m : Nat} {x : Str} {nps ks : List Str} {ms : List Bool} {F : FF} {p : Pos} {e : Expr} {es : List Expr} {kws : List Keyword} {fa fk : AF} {f : Addr} {fd : FuncData} (gP : List PV → List PV → List PV) (gV : List V → List V → List V) (hx : OkX X Γ)
    (ok : FnOk X.prog X.w X.K X.mg X.base (L2N.CX X.prog X.w) k f fd nps (spF X.K X.mg ms F)) (gm : X.mg x = some (.ref f)) (kp : PySem.W.keepIn X.K (.ref f) = true) (hb : ∃ g, KBn X.K fd nps n ks g gV) (hd : ∀ G vs ps ws qs, Reps Γ.K Γ.mg G vs ps → Reps Γ.K Γ.mg G ws qs → Reps Γ.K Γ.mg G (gV vs ws) (gP ps qs))
    (hkl : ks.length = m) (hr : Room k X.A) (hg : Gl X x) (ha : PA X (e :: es) (DA Γ fa)) (hkw : PK X kws (DA Γ fk)) (hall : (backToKw pos (keywordEach kws X.env)).all (·.1.isSome) = true := by rfl) (hks : (backToKw pos (keywordEach kws X.env)).filterMap (·.1) = ks := by rfl)
    (hdb : (x == ("__debug__" : Str)) = false := by decide) (he : starEach (e :: es) X.env = (false, eval e X.env) :: starEach es X.env := by rfl)
    (hpl : ((backTo pos (starEach (e :: es) X.env)).any (·.1) || (backToKw pos (keywordEach kws X.env)).any (·.1.isNone)) = false := by rfl) :
    PE X (.Call (.Name x p) (e :: es) kws pos) (DE Γ (eCallK ms n m F gP fa fk)) := by
  obtain ⟨g, hb⟩ := hb
  refine PE.imp (pe_callN ok hr hg gm kp hb passNo ha hkw hall hks hdb he hpl) fun σ H Q ⟨G, ρ, ok, q⟩ => ?_
  refine DX.bindI ok q fun vs G1 H1 ps ρ1 e1 ok1 r1 q1 => ?_
  refine DX.bindI ok1 q1 fun ws G2 H2 qs ρ2 e2 ok2 r2 q2 => ?_
  split at q2
  · rename_i c
    obtain ⟨c1, c2⟩ := of_decide_eq_true c
    refine ⟨by rw [r1.length]; exact c1, by rw [r2.length, hkl]; exact c2, ?_⟩
    have rr := hd G2 vs ps ws qs (r1.mono e2) r2
    rw [hx.k, hx.m]
    have q3 : Post { Γ with W := fun _ _ _ _ => False } (Rep Γ.K Γ.mg) (callE ms F ((gP ps qs).map AV.val) ρ2) G2 σ Q := by
      cases hc : callE ms F ((gP ps qs).map AV.val) ρ2 with
      | ok p ρ3 =>
        simp only [hc, noExc] at q2
        exact fun v G' H' e ok' r => q2 v G' H' e ok'.ofW r
      | exc _ _ _ => simp only [hc, noExc] at q2; exact q2.elim
      | bad => simp only [hc, noExc] at q2; exact q2
    exact callE_sp (Γ := { Γ with W := fun _ _ _ _ => False }) ok2.withW (RelAs.vals (Γ := { Γ with W := fun _ _ _ _ => False }) rr) q3
  · exact q2.elim
def eCall0 (ms : List Bool) (F : FF) (dps : List PV) : EF := fun ρ => callE ms F (dps.map AV.val) ρ
theorem v_call0 {k : Nat} {x : Str} {nps : List Str} {ms : List Bool} {F : FF} {p : Pos} {f : Addr} {fd : FuncData} {dvs : List V} {dps : List PV} (hx : OkX X Γ) (tk : L2N.Takes X Γ.W)
    (ok : FnOk X.prog X.w X.K X.mg X.base (L2N.CX X.prog X.w) k f fd nps (spF X.K X.mg ms F)) (gm : X.mg x = some (.ref f)) (kp : PySem.W.keepIn X.K (.ref f) = true) (hb : ∃ ds, Vals dvs ds ∧ Binds X.K fd nps ds) (hd : ∀ G, Reps Γ.K Γ.mg G dvs dps)
    (hr : Room k X.A) (hg : Gl X x) (hdb : (x == ("__debug__" : Str)) = false := by decide) : PE X (.Call (.Name x p) [] [] pos) (DE Γ (eCall0 ms F dps)) := by
  obtain ⟨ds, hv, hb⟩ := hb
  refine ⟨fun pins s σ H Q I ⟨G, ρ, ok', q⟩ => ?_⟩
  refine wpAny_Call_Name_kw (ld_glob I hg gm ?_ hdb)
  refine PySem.W.callWith_K0 I.kIn kp (run_fnSD (us := []) (vs := []) ok hr hb hv (E := WE Γ.W) (L2N.passAt tk σ) I .nil ?_)
  rw [hx.k, hx.m]
  exact callE_sp ok' (RelAs.vals (hd G)) q
end
end PL
end

section
set_option Elab.async false
set_option linter.all false
set_option maxRecDepth 100000
set_option maxHeartbeats 4000000
set_option autoImplicit false
namespace PL
open PySem PySem.Spec PyProof.Rows L2
section
variable {X : Cx} {Γ : Gam} {pos : Pos}
/-! + of numbers, texts, lists, tuples -/
def rCatR : R2 := fun x y H Q => ∃ l b xs zs, x = .ref l ∧ y = .ref b ∧ Rd H l (.lst xs) ∧ Rd H b (.lst zs) ∧ xs.length + zs.length ≤ sizeLine ∧ ∀ p, H p = none → Q (.ref p) (upd H p (.lst (xs ++ zs)))
theorem op_catR : OpR X (binaryOp .Add) rCatR := by
  intro pins s σ H x y v u Q I rx ry h
  obtain ⟨l, b, xs, zs, rfl, rfl, hH, hB, hz, q⟩ := h
  cases rx
  cases ry
  obtain ⟨z, its, n, r, e⟩ := hH.ok I.hok
  obtain ⟨z2, its2, n2, r2, e2⟩ := hB.ok I.hok
  refine PySem.P.add_list e e2 ?_ (by rw [List.size_toArray, List.size_toArray]; have := r.length; have := r2.length; omega)
  have ea : its.toArray ++ its2.toArray = (its ++ its2).toArray := by simp
  rw [ea]
  exact ⟨.ref _, _, I.lnew (t' := s.toks) (r.append r2) (by rw [List.length_append]; omega), rfl, q _ I.fresh⟩
def rAddA (K : PySem.W.Frag) : R2 := fun x y H Q => ((rI0 (fun i j => .int (i + j)) x y H Q ∨ (∃ i j, x = .str i ∧ y = .str j ∧ i.length + j.length ≤ sizeLine ∧ Q (.str (i ++ j)) H)) ∨ rCatR x y H Q) ∨ rCatA K x y H Q
theorem op_addA : OpR X (binaryOp .Add) (rAddA X.K) := ((op_add.or op_add_str).or op_catR).or op_catA
def pAddA : PV → PV → Option PV
  | .int i, .int j => some (.int (i + j))
  | .str i, .str j => if decide (i.length + j.length ≤ 100000) = true then some (.str (i ++ j)) else none
  | .lst xs, .lst ys => if decide (xs.length + ys.length ≤ 100000) = true then some (.lst (xs ++ ys)) else none
  | .tup xs, .tup ys => if decide (xs.length + ys.length ≤ 100000) = true then some (.tup (xs ++ ys)) else none
  | _, _ => none
theorem s_addA : OpS Γ (rAddA Γ.K) pAddA := by
  intro G H x y p q z Q gh rx ry hg k
  unfold pAddA at hg
  split at hg
  · cases rx; cases ry; cases hg
    exact .inl (.inl (.inl ⟨_, _, rfl, rfl, k _ G H (Grow.refl gh) (.int _)⟩))
  · split at hg
    · rename_i c
      cases rx; cases ry; cases hg
      exact .inl (.inl (.inr ⟨_, _, rfl, rfl, szOk (of_decide_eq_true c), k _ G H (Grow.refl gh) (.str _)⟩))
    · cases hg
  · split at hg
    · rename_i c
      cases hg
      cases rx with
      | lst h1 r1 =>
        cases ry with
        | lst h2 r2 =>
          refine .inl (.inr ⟨_, _, _, _, rfl, rfl, gh.rdL h1, gh.rdL h2, ?_, fun p hp => k _ _ _ (Grow.new gh hp) (Rep.newL (gh.none hp) (r1.append r2))⟩)
          rw [r1.length, r2.length]
          exact szOk (of_decide_eq_true c)
    · cases hg
  · split at hg
    · rename_i c
      cases hg
      cases rx with
      | tup h1 r1 =>
        cases ry with
        | tup h2 r2 =>
          refine .inr ⟨_, _, _, _, rfl, rfl, gh.sqT h1, gh.sqT h2, ?_, fun e => ?_, fun e1 e2 => ?_, fun e1 e2 p hp => ?_⟩
          · rw [r1.length, r2.length]
            exact szOk (of_decide_eq_true c)
          · subst e
            cases r1
            exact k _ G H (Grow.refl gh) (.tup h2 r2)
          · subst e2
            cases r2
            exact k _ G H (Grow.refl gh) (by rw [List.append_nil]; exact .tup h1 r1)
          · exact k _ _ _ (Grow.new gh hp) (Rep.newT (gh.none hp) (r1.append r2))
    · cases hg
  · cases hg
theorem v_add (hx : OkX X Γ) {a b : Expr} {fa fb : EF} (ha : PE X a (DE Γ fa)) (hb : PE X b (DE Γ fb)) : PE X (.BinOp a .Add b pos) (DE Γ (eOp pAddA fa fb)) := by
  have h := pe_op (pos := pos) (op_addA (X := X)) ha hb
  rw [hx.k] at h
  exact PE.imp h (opImp s_addA)
/-! not, as a value -/
theorem v_not (hx : OkX X Γ) {e : Expr} {f : EF} (h : PE X e (DE Γ f)) : PE X (.UnaryOp .Not e pos) (DE Γ (eNot f)) :=
  PE.imp (pe_notT h) fun σ H Q ⟨G, ρ, ok, q⟩ => by
    refine DX.bindI ok q fun x G1 H1 p ρ1 e1 ok1 r1 h1 => ?_
    cases hp : pTru p with
    | none => simp only [hp] at h1; exact h1.elim
    | some k =>
      simp only [hp] at h1
      exact ⟨k, by rw [hx.k]; exact truV ok1.gH r1 hp, h1 _ G1 H1 (Ex.refl G1) ok1 (.bl _)⟩
/-! an item of a name, owned or not -/
def eIxS (i : Nat) (fb : EF) : EF := fun ρ => match ρ[i]? with
  | some (.own _) => eIxO i fb ρ
  | some (.v p) => (fb ρ).bind fun q ρ1 => oRes (pIx p q) ρ1
  | _ => .bad
theorem v_ixS (hx : OkX X Γ) {a b : Expr} {i : Nat} {fb : EF} (ha : PE X a (tVar i)) (hb : PE X b (DE Γ fb)) (hs : PlainIx b := by exact fun _ _ => rfl) : PE X (.Subscript a b pos) (DE Γ (eIxS i fb)) := by
  have ho := v_ixO (pos := pos) hx ha hb hs
  have h := pe_ix (pos := pos) (ix_any (X := X)) ha hb hs
  rw [hx.k] at h
  refine ⟨fun pins s σ H Q I ⟨G, ρ, ok, q⟩ => ?_⟩
  cases hi : ρ[i]? with
  | none => simp only [eIxS, hi] at q; exact q.elim
  | some s' =>
    cases s' with
    | no => simp only [eIxS, hi] at q; exact q.elim
    | own p => simp only [eIxS, hi] at q; exact ho.run pins s σ H Q I ⟨G, ρ, ok, q⟩
    | v p =>
      simp only [eIxS, hi] at q
      refine h.run pins s σ H Q I ?_
      obtain ⟨x, h1, h2⟩ := ok.val i p hi
      refine ⟨x, h1, ?_⟩
      refine DX.bindI ok q fun y G1 H1 q' ρ1 e1 ok1 r1 k1 => ?_
      cases hg : pIx p q' with
      | none => rw [hg] at k1; exact k1.elim
      | some z =>
        rw [hg] at k1
        exact s_ix G1 H1 x y p q' z Q ok1.gH (h2.mono e1) r1 hg fun v G' H' gr rv => k1 v G' H' gr.gG (ok1.grow gr) rv
/-! a name that the module keeps -/
structure Const (K : PySem.W.Frag) (mg : Str → Option Value) (x : Str) (p : PV) : Prop where
  ex : ∃ u v, mg x = some u ∧ RelV v u ∧ ∀ G, Rep K mg G v p
theorem v_const {x : Str} {p : PV} (c : Const X.K X.mg x p) (hx : OkX X Γ) (hg : Gl X x) (hd : (x == ("__debug__" : Str)) = false := by decide) : PE X (.Name x pos) (DE Γ (eC p)) := by
  obtain ⟨u, v, h1, h2, h3⟩ := c.ex
  rw [hx.k, hx.m] at h3
  exact v_c (pe_glob hg h1 h2 hd) h3
theorem v_ty {x : Str} {T : String} (hg : Gl X x) (hm : X.mg x = none) (hv : bootBuiltins x = some (.type T)) (hn : x ≠ "__name__" := by decide) (hd : (x == ("__debug__" : Str)) = false := by decide) : PE X (.Name x pos) (DE Γ (eC (.atm (.ty T)))) :=
  v_c (pe_bltn (v := .ty T) hg hm hv rfl hn hd) fun _ => .atm _
/-! a comprehension -/
theorem PE.any {X : Cx} {e : Expr} {ι : Type} {t : ι → TE} (h : ∀ j, PE X e (t j)) : PE X e (fun σ H Q => ∃ j, t j σ H Q) := ⟨fun pins s σ H Q I ⟨j, z⟩ => (h j).run pins s σ H Q I z⟩
theorem PT.any {X : Cx} {e : Expr} {ι : Type} {t : ι → TT} (h : ∀ j, PT X e (t j)) : PT X e (fun σ H Q => ∃ j, t j σ H Q) := ⟨fun pins s σ H Q I ⟨j, z⟩ => (h j).run pins s σ H Q I z⟩
theorem PTs.any {X : Cx} {e : List Expr} {ι : Type} {t : ι → TT} (h : ∀ j, PTs X e (t j)) : PTs X e (fun σ H Q => ∃ j, t j σ H Q) := ⟨fun pins s σ H Q I ⟨j, z⟩ => (h j).run pins s σ H Q I z⟩
theorem PG.any {X : Cx} {e : Expr} {ι : Type} {t : ι → TG} (h : ∀ j, PG X e (t j)) : PG X e (fun v σ H Q => ∃ j, t j v σ H Q) := ⟨fun pins s σ H v u Q I r ⟨j, z⟩ => (h j).run pins s σ H v u Q I r z⟩
theorem PTs.imp {X : Cx} {e : List Expr} {t t' : TT} (h : PTs X e t) (i : ∀ σ H Q, t' σ H Q → t σ H Q) : PTs X e t' := ⟨fun pins s σ H Q I z => h.run pins s σ H Q I (i σ H Q z)⟩
theorem ts_nil : PTs X [] (DT Γ tYs) := PTs.imp pts_nil t_yes
theorem ts_one {c : Expr} {t : TF} (h : PT X c (DT Γ t)) : PTs X [c] (DT Γ t) := pts_one h
abbrev blkX (X : Cx) (s : Shared) (H : Hp) (scope : Scope) (C : Addr) (cl : List (Str × Addr)) (fp : List Addr) : Cx := X.blk s H scope (compEnvC scope cl C X.env) fp
section
variable {elt tg iter : Expr} {ifs : List Expr} {scope : Scope} {own : List (Str × Nat)} {is : List Nat} {fi : IF} {g : GF} {t : TF} {e : EF}
theorem f_lc (hc : X.calm = true) (hN : X.N.Nodup) (hx : OkX X Γ) (hi : PI X tg iter (DI Γ fi)) (ok : BlkOk X.N X.env.scope scope own) (hp : ∀ j ∈ own.map (·.2), Γ.P j = none) (his : ∀ j ∈ is, j ∈ own.map (·.2))
    (hb : ∀ (s : Shared) (H : Hp) (C : Addr) (cl : List (Str × Addr)) (fp : List Addr) (Γ2 : Gam), OkX (blkX X s H scope C cl fp) Γ2 → Γ2.P = Γ.P → L2N.Takes (blkX X s H scope C cl fp) Γ2.W →
      PG (blkX X s H scope C cl fp) tg (DG Γ2 is g) ∧ PTs (blkX X s H scope C cl fp) ifs (DT Γ2 t) ∧ PE (blkX X s H scope C cl fp) elt (DE Γ2 e)) (hs : ∀ x, foldedSetIterable iter X.env x = pure x := by intro _; rfl) :
    PE X (.ListComp elt [⟨tg, iter, ifs, 0⟩] scope pos) (DF Γ (eLc (own.map (·.2)) fi g t e)) := by
  have hb' := fun s H C cl fp (j : Addr × HO) => hb s H C cl fp (Γ.guard j.1 j.2) ⟨hx.k, hx.m⟩ rfl takesN0
  refine PE.imp (pe_lc (pos := pos) hc hN hi ok (fun s H C cl fp => PG.any fun j => (hb' s H C cl fp j).1) (fun s H C cl fp => PTs.any fun j => (hb' s H C cl fp j).2.1) (fun s H C cl fp => PE.any fun j => (hb' s H C cl fp j).2.2) hs) ?_
  exact f_lcI (fun _ _ _ h => h) hp his (fun D o v σ H Q h => ⟨(D, o), h⟩) (fun D o σ H Q h => ⟨(D, o), h⟩) (fun D o σ H Q h => ⟨(D, o), h⟩)
/-- y = [..] -/
theorem p_setLc {i : Nat} {y : Str} {py spos : Pos} (hc : X.calm = true) (hN : X.N.Nodup) (hy : X.N[i]? = some y) (hyl : X.env.scope.names.lookup y = some .local)
    (hsw : swapsWith (.ListComp elt [⟨tg, iter, ifs, 0⟩] scope pos) (some (.Name y py)) spos.line X.env = pure true) (hx : OkX X Γ) (hi : PI X tg iter (DI Γ fi)) (ok : BlkOk X.N X.env.scope scope own) (hp : ∀ j ∈ own.map (·.2), Γ.P j = none) (his : ∀ j ∈ is, j ∈ own.map (·.2))
    (hb : ∀ (s : Shared) (H : Hp) (C : Addr) (cl : List (Str × Addr)) (fp : List Addr) (Γ2 : Gam), OkX (blkX X s H scope C cl fp) Γ2 → Γ2.P = Γ.P → L2N.Takes (blkX X s H scope C cl fp) Γ2.W →
      PG (blkX X s H scope C cl fp) tg (DG Γ2 is g) ∧ PTs (blkX X s H scope C cl fp) ifs (DT Γ2 t) ∧ PE (blkX X s H scope C cl fp) elt (DE Γ2 e)) (hs : ∀ x, foldedSetIterable iter X.env x = pure x := by intro _; rfl) :
    PS X (.Assign [.Name y py] (.ListComp elt [⟨tg, iter, ifs, 0⟩] scope pos) spos) (tAsg (DF Γ (eLc (own.map (·.2)) fi g t e)) (gName i)) := by
  have hb' := fun s H C cl fp (j : Addr × HO) => hb s H C cl fp (Γ.guard j.1 j.2) ⟨hx.k, hx.m⟩ rfl takesN0
  refine PS.imp (ps_setLc (pos := pos) hc hN hy hyl hsw hi ok (fun s H C cl fp => PG.any fun j => (hb' s H C cl fp j).1) (fun s H C cl fp => PTs.any fun j => (hb' s H C cl fp j).2.1) (fun s H C cl fp => PE.any fun j => (hb' s H C cl fp j).2.2) hs) ?_
  intro D σ H h
  exact f_lcI (fun _ _ _ h => h) hp his (fun D o v σ H Q h => ⟨(D, o), h⟩) (fun D o σ H Q h => ⟨(D, o), h⟩) (fun D o σ H Q h => ⟨(D, o), h⟩) σ H _ h
end
theorem asgF {i : Nat} {st : Stmt} {f : EF} (h : PS X st (tAsg (DF Γ f) (gName i))) : PS X st (tAsg (DE Γ f) (gName i)) := PS.imp h fun D σ H ⟨G, ρ, ok, q⟩ => by
  refine ⟨G, ρ, ok, ?_⟩
  cases hf : f ρ with
  | ok p ρ' =>
    rw [hf] at q
    exact fun a o G' H' h1 h2 h3 h4 h5 h6 h7 => q _ (upd G' a o) H' (h1.trans (Ex.new h4)) (h2.addG h3 h4 h5 h7) (h6.frz h4)
  | exc c fs ρ' => rw [hf] at q; exact q
  | bad => rw [hf] at q; exact q
end
/-! the law's end -/
theorem noexc {P : Program} {w : World} {K : PySem.W.Frag} {mg : Str → Option Value} {base : Heap} {k : Nat} {f : Addr} {fd : FuncData} {ps : List Str} {sp : Sp} (F : FnOk P w K mg base (L2N.CX P w) k f fd ps sp) :
    FnOk P w K mg base CX0 k f fd ps (fun vs H Q _ => sp vs H Q fun _ _ _ => False) := by
  refine ⟨fun vs H Q E h => F.len vs H Q _ h, fun A outer s H args us vs Q E hr e0 hb hv h => ?_⟩
  refine codeAny_mono (F.run A outer s H args us vs Q _ hr e0 hb hv h) fun r s' hq => ?_
  cases r with
  | error e =>
    obtain ⟨_, _, _, _, _, _, _, _, _, _, _, _, z⟩ := hq
    exact z.elim
  | ok fl => cases fl <;> exact hq
theorem scriptRep {K : PySem.W.Frag} {mg : Str → Option Value} {H : Hp} {a : Addr} {ns : List Int} (h : SqL K H a (ns.map V.int)) : Rep K mg H (.ref a) (.scr (ns.map PV.int)) := by
  refine .scr h ?_
  clear h
  induction ns with
  | nil => exact .nil
  | cons n ns ih => exact .cons (.int n) ih
theorem law_sp {K : PySem.W.Frag} {mg : Str → Option Value} {F : FF} {H : Hp} {a : Addr} {ns : List Int} (h : SqL K H a (ns.map V.int)) (hF : F [.scr (ns.map PV.int)] = .ret (.bl true) []) :
    spF K mg [false] F [.ref a] H (fun v _ => v = .bl true) (fun _ _ _ => False) := by
  refine ⟨H, H, [.scr (ns.map PV.int)], rfl, rfl, ⟨rfl, Ex.refl H, Ex.refl H, Ex.refl H, fun _ _ => rfl, fun i b hi => ?_, fun i p hi => ?_, fun i p hi => ?_, fun i j p q b _ hi => ?_⟩, ?_⟩
  · have hi' : parOf [false] [.ref a] i = some b := hi
    unfold parOf at hi'
    split at hi'
    · rename_i h1 _
      cases i <;> simp at h1
    · cases hi'
  · obtain ⟨m, p', h1, h2, h3⟩ := slotsOf_get hi
    cases i with
    | zero =>
      simp at h1 h2
      subst h1 h2
      cases h3
      exact ⟨.ref a, rfl, scriptRep h⟩
    | succ i => simp at h1
  · obtain ⟨m, p', h1, h2, h3⟩ := slotsOf_get hi
    cases i with
    | zero => simp at h1; subst h1; cases h3
    | succ i => simp at h1
  · obtain ⟨m, p', h1, h2, h3⟩ := slotsOf_get hi
    cases i with
    | zero => simp at h1; subst h1; cases h3
    | succ i => simp at h1
  · rw [hF]
    intro v σ' G' H' ρ' _ _ _ r
    cases r; rfl
end PL
end

section
set_option Elab.async false
set_option linter.all false
set_option maxRecDepth 100000
set_option maxHeartbeats 4000000
set_option autoImplicit false
namespace PL
open PySem PySem.Spec PyProof.Rows L2
/-! ### the head's facts -/
def SaysX (fa : List He.Fa) (fn : List He.DefD) (ex : PySem.W.Frag → Bool) (K : PySem.W.Frag) : Prop := He.SaysD fa fn K ∧ ex K = true
def obsX (n : Nat) (fa : List He.Fa) (fn : List He.DefD) (ex : PySem.W.Frag → Bool) (g : Addr → Option Obj) : He.AlD × Bool := (fun K => (He.obsD fa fn K, ex K)) (He.frG g (He.asD g n))
def hookX (n : Nat) (fa : List He.Fa) (fn : List He.DefD) (ex : PySem.W.Frag → Bool) : PySem.W.Hook where
  α := He.AlD × Bool
  obs := fun s => obsX n fa fn ex s.heap.get?
  val := fun _ => (He.valD fn, true)
  says := fun _ h => ∃ K : PySem.W.Frag, K.In h ∧ SaysX fa fn ex K
  of := fun _ s e => ⟨He.frG s.heap.get? (He.asD s.heap.get? n), He.frG_in, congrArg (fun z : He.AlD × Bool => z.1) e, congrArg (fun z : He.AlD × Bool => z.2) e⟩
  keeps := fun _ _ _ ⟨K, hK, c⟩ k => ⟨K, PySem.W.Frag.In.keeps hK k, c⟩
theorem obsX_eq {n : Nat} {fa : List He.Fa} {fn : List He.DefD} {ex : PySem.W.Frag → Bool} {g : Addr → Option Obj} {s : Shared} (h : ∀ a, g a = s.heap.get? a) : obsX n fa fn ex g = (hookX n fa fn ex).obs s := by
  have e : g = s.heap.get? := funext h
  rw [e] <;> rfl
/-! a class of errors -/
def oexB (K : PySem.W.Frag) (C : Addr) : Bool := match K.lookup C with
  | some ⟨.type "type", _, .cls cd, sl⟩ => (match cd.mro, sl.toList with
    | .ref C' :: bm, [_, _, _, _, some (.builtin n), _] => decide (C' = C) && (decide (n = "ValueError.__new__") && (!cd.hasDel && (cd.hasDict && PySem.HandSPX.refsVE bm)))
    | _, _ => false)
  | _ => false
theorem oexB_ok {K : PySem.W.Frag} {C : Addr} (q : oexB K C = true) : ∃ nm q N bs bm sn sub ab col dd k0 k1 k2 k3 k5, K.lookup C = some (excClassObj nm q C N bs bm true sn sub ab col dd k0 k1 k2 k3 k5 "ValueError.__new__") ∧ PySem.HandSPX.refsVE bm = true := by
  unfold oexB at q
  split at q
  · rename_i dd cd sl ho
    split at q
    · rename_i C' bm k0 k1 k2 k3 n k5 hm hs
      obtain ⟨q1, q⟩ := Bool.and_eq_true_iff.mp q
      obtain ⟨q2, q⟩ := Bool.and_eq_true_iff.mp q
      obtain ⟨q3, q⟩ := Bool.and_eq_true_iff.mp q
      obtain ⟨q4, q5⟩ := Bool.and_eq_true_iff.mp q
      have e1 := of_decide_eq_true q1
      have e2 := of_decide_eq_true q2
      subst e1 e2
      obtain ⟨nm, bs, mro, ns, qn, hd, sn, sub, ab, col, del⟩ := cd
      dsimp only at hm q3 q4
      have q3' : del = false := by simpa using q3
      subst hm q3' q4
      have hsl : sl = #[k0, k1, k2, k3, some (.builtin "ValueError.__new__"), k5] := by
        obtain ⟨l⟩ := sl
        simp only at hs
        rw [hs]
      subst hsl
      exact ⟨nm, qn, ns, bs, bm, sn, sub, ab, col, dd, k0, k1, k2, k3, k5, ho, q5⟩
    · cases q
  · cases q
def exB (c : Str) (ns : List Str) (K : PySem.W.Frag) : Bool :=
  oexB K (He.ga K c) && (He.eqO (PySem.W.nsIn K mainGlobals c) (some (some (.ref (He.ga K c)))) && (He.eqO (PySem.W.findIn K (.ref (He.ga K c)) "__setattr__") (some (some (.builtin "object.__setattr__"))) &&
  (decide (PySem.W.subIn K (.ref (He.ga K c)) (.type "BaseException") = some true) && (decide (PySem.W.typeIn K (.ref (He.ga K c)) = some (.type "type")) && (PySem.W.keepIn K (.ref (He.ga K c)) &&
  (He.eqO (PySem.W.findIn K (.ref (He.ga K c)) "__init__") (some (some (.ref (He.ma K (He.ga K c) "__init__")))) && (decide (PySem.W.typeIn K (.ref (He.ma K (He.ga K c) "__init__")) = some (.type "function")) &&
  (xfB K (He.ga K c) && ns.all fun f => He.eqO (PySem.W.findIn K (.ref (He.ga K c)) f) (some none)))))))))
structure ExF (K : PySem.W.Frag) (c : Str) (ns : List Str) : Prop where
  T : OexC K (He.ga K c)
  gC : PySem.W.nsIn K mainGlobals c = some (some (.ref (He.ga K c)))
  iC : PySem.W.findIn K (.ref (He.ga K c)) "__init__" = some (some (.ref (He.ma K (He.ga K c) "__init__")))
  tI : PySem.W.typeIn K (.ref (He.ma K (He.ga K c) "__init__")) = some (.type "function")
  xf : XfC K (He.ga K c)
  no : ∀ f ∈ ns, PySem.W.findIn K (.ref (He.ga K c)) f = some none
theorem exB_ok {c : Str} {ns : List Str} {K : PySem.W.Frag} (h : exB c ns K = true) : ExF K c ns := by
  unfold exB at h
  obtain ⟨h1, h⟩ := Bool.and_eq_true_iff.mp h
  obtain ⟨h2, h⟩ := Bool.and_eq_true_iff.mp h
  obtain ⟨h3, h⟩ := Bool.and_eq_true_iff.mp h
  obtain ⟨h4, h⟩ := Bool.and_eq_true_iff.mp h
  obtain ⟨h5, h⟩ := Bool.and_eq_true_iff.mp h
  obtain ⟨h6, h⟩ := Bool.and_eq_true_iff.mp h
  obtain ⟨h7, h⟩ := Bool.and_eq_true_iff.mp h
  obtain ⟨h8, h⟩ := Bool.and_eq_true_iff.mp h
  obtain ⟨h9, h10⟩ := Bool.and_eq_true_iff.mp h
  exact ⟨⟨oexB_ok h1, He.eqO_ok h3, of_decide_eq_true h4, of_decide_eq_true h5, h6⟩, He.eqO_ok h2, He.eqO_ok h7, of_decide_eq_true h8, xfB_ok h9, fun f hf => He.eqO_ok (List.all_eq_true.mp h10 f hf)⟩
/-! a name for a built-in function -/
def bltB (x : Str) (id : String) (K : PySem.W.Frag) : Bool := He.eqO (PySem.W.nsIn K mainGlobals x) (some (some (.builtin id)))
theorem bltB_ok {x : Str} {id : String} {K : PySem.W.Frag} {h : Heap} {mg : Str → Option Value} (X : K.In h) (G : h.Ns mainGlobals mg) (c : bltB x id K = true) : mg x = some (.builtin id) := PySem.W.mg_of X G (He.eqO_ok c)
/-! constants -/
theorem constI {x : Str} {i : Int} {K : PySem.W.Frag} {h : Heap} {mg : Str → Option Value} (X : K.In h) (G : h.Ns mainGlobals mg) (c : (He.Fa.int x i).ok K = true) : Const K mg x (.int i) := by
  obtain ⟨t, e⟩ := He.int_ok X G c
  exact ⟨_, .int i, e, ⟨t, rfl⟩, fun _ => .int i⟩
theorem constT2 {x : Str} {i j : Int} {K : PySem.W.Frag} {h : Heap} {mg : Str → Option Value} (X : K.In h) (G : h.Ns mainGlobals mg) (g : (He.Fa.glo x).ok K = true) (c : He.tupB K x [.int i, .int j] = true) : Const K mg x (.tup [.int i, .int j]) :=
  ⟨_, .ref (He.ga K x), He.glo_ok X G g, rfl, fun G' => .tup (He.tupB_ok c G') (.cons (.int i) (.cons (.int j) .nil))⟩
/-! a def of which nothing is told -/
theorem fn_bad {P : Program} {w : World} {K : PySem.W.Frag} {mg : Str → Option Value} {base : Heap} {k : Nat} {f : Addr} {fd : FuncData} {ps : List Str} {ms : List Bool} (hl : ps.length = ms.length) : FnOk P w K mg base (L2N.CX P w) k f fd ps (spF K mg ms fun _ => .bad) :=
  ⟨fun vs H Q E ⟨_, _, _, h1, _⟩ => by rw [h1, hl], fun A outer s H args us vs Q E hr e0 hb hv ⟨_, _, _, _, _, _, q⟩ => q.elim⟩
/-! binding with keywords over defaults -/
section
variable {K : PySem.W.Frag} {x qual : Str} {params : Arguments} {body : List Stmt} {scope : Scope} {dvs : List V} {kws : List (Str × V)} {f : Addr} {fd : FuncData} {ps : List Str}
theorem bindsAll (F : FunD K x qual params body scope dvs kws f fd) (hd : dvs ≠ []) (h : ∀ (T : Addr) (kV doc pm : Value) (an : Option Addr) (cdv ct : Value) (us its : List Value), us.length = ps.length → its.length = dvs.length →
      ∃ k, bindArgs (PySem.W.fnOf x qual params body scope (.ref T) kV doc pm an cdv ct) ⟨us, []⟩ = seqItems? (.ref T) >>= k ∧ k (some its.toArray) = pure (ps.zip us)) : Binds K fd ps [] := by
  obtain ⟨ds, h1, h2⟩ := FunD.binds1 (ps := ps) F ps.length dvs.length hd (by omega) (fun T kV doc pm an cdv ct us its l1 l2 => by
    obtain ⟨k, e1, e2⟩ := h T kV doc pm an cdv ct us its l1 l2
    refine ⟨k, e1, ?_⟩
    rw [e2, ← l2, List.drop_length, List.append_nil])
  rw [List.drop_length] at h1
  cases h1
  exact h2
/-- n values, then the defaults from a on, b of them, then the keyword's -/
theorem kb1 (F : FunD K x qual params body scope dvs kws f fd) (n a b : Nat) (ks : List Str) (hd : dvs ≠ [])
    (h : ∀ (T : Addr) (kV doc pm : Value) (an : Option Addr) (cdv ct : Value) (us its ws : List Value), us.length = n → its.length = dvs.length → ws.length = ks.length →
      ∃ k, bindArgs (PySem.W.fnOf x qual params body scope (.ref T) kV doc pm an cdv ct) ⟨us, ks.zip ws⟩ = seqItems? (.ref T) >>= k ∧ k (some its.toArray) = pure (ps.zip (us ++ ((its.drop a).take b ++ ws)))) :
    ∃ g, KBn K fd ps n ks g (fun vs zs => vs ++ ((dvs.drop a).take b ++ zs)) := by
  have ⟨_, _, _, kwv, docs, prm, ann, cel, ty, _, isFd, _, _, dfl, _⟩ := F.ex
  subst isFd
  match dfl with
  | .inl ⟨none_, _⟩ => exact absurd none_ hd
  | .inr ⟨_, tup, _, items, _, isTup, lookT, tyT, relT⟩ =>
    subst isTup
    refine ⟨fun us zs => us ++ ((items.drop a).take b ++ zs), ?_, fun p1 p2 => p1.append (((relT.drop a).take b).append p2)⟩
    intro st us zs inK len1 len2
    have ⟨after, eq1, eq2⟩ := h tup kwv docs prm ann cel ty us items zs len1 relT.length.symm len2
    apply BindsTo.of_looks
    intro mdl
    rw [eq1]
    exact looks_items inK lookT tyT (.of_pure eq2)
end
end PL
end

section
set_option Elab.async false
set_option linter.all false
set_option maxRecDepth 100000
set_option maxHeartbeats 4000000
set_option autoImplicit false
namespace PL
open PySem PySem.Spec PyProof.Rows L2
section
variable {env : Env} {es : List Expr}
theorem star_Name {x : Str} {p : Pos} : starEach (.Name x p :: es) env = (false, eval (.Name x p) env) :: starEach es env := rfl
theorem star_Constant {c : PySem.Const} {k : Nat} {p : Pos} : starEach (.Constant c k p :: es) env = (false, eval (.Constant c k p) env) :: starEach es env := rfl
theorem star_BinOp {a b : Expr} {o : Operator} {p : Pos} : starEach (.BinOp a o b p :: es) env = (false, eval (.BinOp a o b p) env) :: starEach es env := rfl
theorem star_UnaryOp {a : Expr} {o : UnaryOp} {p : Pos} : starEach (.UnaryOp o a p :: es) env = (false, eval (.UnaryOp o a p) env) :: starEach es env := rfl
theorem star_BoolOp {a : List Expr} {o : BoolOp} {p : Pos} : starEach (.BoolOp o a p :: es) env = (false, eval (.BoolOp o a p) env) :: starEach es env := rfl
theorem star_Compare {a : Expr} {o : List CmpOp} {b : List Expr} {p : Pos} : starEach (.Compare a o b p :: es) env = (false, eval (.Compare a o b p) env) :: starEach es env := rfl
theorem star_Call {a : Expr} {o : List Expr} {b : List Keyword} {p : Pos} : starEach (.Call a o b p :: es) env = (false, eval (.Call a o b p) env) :: starEach es env := rfl
theorem star_IfExp {a b c : Expr} {p : Pos} : starEach (.IfExp a b c p :: es) env = (false, eval (.IfExp a b c p) env) :: starEach es env := rfl
theorem star_Attribute {a : Expr} {x : Str} {p : Pos} : starEach (.Attribute a x p :: es) env = (false, eval (.Attribute a x p) env) :: starEach es env := rfl
theorem star_Subscript {a b : Expr} {p : Pos} : starEach (.Subscript a b p :: es) env = (false, eval (.Subscript a b p) env) :: starEach es env := rfl
theorem star_List {a : List Expr} {p : Pos} : starEach (.List a p :: es) env = (false, eval (.List a p) env) :: starEach es env := rfl
theorem star_Tuple {a : List Expr} {k : Nat} {p : Pos} : starEach (.Tuple a k p :: es) env = (false, eval (.Tuple a k p) env) :: starEach es env := rfl
theorem star_JoinedStr {a : List Expr} {p : Pos} : starEach (.JoinedStr a p :: es) env = (false, eval (.JoinedStr a p) env) :: starEach es env := rfl
theorem star_ListComp {a : Expr} {g : List Comprehension} {sc : Scope} {p : Pos} : starEach (.ListComp a g sc p :: es) env = (false, eval (.ListComp a g sc p) env) :: starEach es env := rfl
end
theorem units65 {k : Nat} {A : Around} (hr : Room k A) : A.units + 65 < cLine := by have := hr.un; omega
theorem ownNot (vs : List Nat) (ms : List Bool) {j : Nat} (hj : j ∈ vs) (h : ∀ v ∈ vs, ms[v]? ≠ some true) : ms[j]? ≠ some true := h j hj
theorem blkP {Γ Γ2 : Gam} {p : Nat → Prop} {α : Prop} (hΓ : Γ2.P = Γ.P) (hP : ∀ i : Nat, p i → Γ.P i = none) (k : (∀ i : Nat, p i → Γ2.P i = none) → α) : α := k (by rw [hΓ]; exact hP)
theorem tryP {Γ Γ2 : Gam} {p : Nat → Prop} {α : Prop} (hΓ : Γ2.P = Γ.P) (hP : ∀ i : Nat, p i → Γ.P i = none) (k : (∀ i : Nat, p i → Γ2.P i = none) → α) : α := k (by rw [hΓ]; exact hP)
theorem suiteP {Γ Γ2 : Gam} {i : Nat} {p : Nat → Prop} {α : Prop} (hPo : ∀ j, j ≠ i → Γ2.P j = Γ.P j) (hP : ∀ i : Nat, p i → Γ.P i = none) (k : (∀ j : Nat, (j ≠ i ∧ p j) → Γ2.P j = none) → α) : α := k fun j hj => (hPo j hj.1).trans (hP j hj.2)
def onlyC (c : Str) : Str → Option Bool := fun d => if d = c then some true else none
theorem onlyM {K : PySem.W.Frag} {mg : Str → Option Value} {c : Str} {C0 : Addr} (gm : mg c = some (.ref C0)) (m : PySem.W.exmOne K (.ref C0) (.ref C0) = some true) : ∀ c' C b, onlyC c c' = some b → mg c' = some (.ref C) → PySem.W.exmOne K (.ref C) (.ref C0) = some b := by
  intro c' C b h1 h2
  unfold onlyC at h1
  split at h1
  · rename_i e
    subst e
    cases h1
    rw [gm] at h2
    cases h2
    exact m
  · cases h1
theorem onlyD {mg : Str → Option Value} {c c' : Str} {C C0 : Addr} {α : Prop} (h1 : onlyC c c' = some true) (h2 : mg c' = some (.ref C)) (gm : mg c = some (.ref C0)) (k : C = C0 → α) : α := by
  unfold onlyC at h1
  split at h1
  · rename_i e
    subst e
    rw [gm] at h2
    cases h2
    exact k rfl
  · cases h1
section
variable {X : Cx} {Γ : Gam} {pos : Pos}
theorem v_eq {a b : Expr} {fa fb : EF} (hx : OkX X Γ) (hu : X.A.units + 64 < cLine) (ha : PE X a (DE Γ fa)) (hb : PE X b (DE Γ fb)) (hm : behindInMarks .Eq b = false) : PE X (.Compare a [.Eq] [b] pos) (DE Γ (eOp pEq fa fb)) := by
  have h := pe_cmpR (pos := pos) (op_eqD (X := X) hu) ha hb hm
  rw [hx.k] at h
  exact PE.imp h (opImp s_eqD)
theorem v_ne {a b : Expr} {fa fb : EF} (hx : OkX X Γ) (hu : X.A.units + 64 < cLine) (ha : PE X a (DE Γ fa)) (hb : PE X b (DE Γ fb)) (hm : behindInMarks .NotEq b = false) : PE X (.Compare a [.NotEq] [b] pos) (DE Γ (eOp pNe fa fb)) := by
  have h := pe_cmpR (pos := pos) (op_neD (X := X) hu) ha hb hm
  rw [hx.k] at h
  exact PE.imp h (opImp s_neD)
theorem v_in {a b : Expr} {fa fb : EF} (hx : OkX X Γ) (hu : X.A.units + 65 < cLine) (ha : PE X a (DE Γ fa)) (hb : PE X b (DE Γ fb)) (hm : behindInMarks .In b = false) : PE X (.Compare a [.In] [b] pos) (DE Γ (eOp pIn fa fb)) := by
  have h := pe_cmpR (pos := pos) (op_inD (X := X) hu) ha hb hm
  rw [hx.k] at h
  exact PE.imp h (opImp s_in)
theorem v_notin {a b : Expr} {fa fb : EF} (hx : OkX X Γ) (hu : X.A.units + 65 < cLine) (ha : PE X a (DE Γ fa)) (hb : PE X b (DE Γ fb)) (hm : behindInMarks .NotIn b = false) : PE X (.Compare a [.NotIn] [b] pos) (DE Γ (eOp pNotIn fa fb)) := by
  have h := pe_cmpR (pos := pos) (op_notInD (X := X) hu) ha hb hm
  rw [hx.k] at h
  exact PE.imp h (opImp s_notIn)
/-! comparisons as tests -/
def tBl (f : EF) : TF := fun ρ => (f ρ).bind fun p ρ1 => match p with
  | .bl b => .ok b ρ1
  | _ => .bad
theorem t_bl {e : Expr} {t : TE} {f : EF} (h : PT X e (tTest t)) (i : ∀ σ H Q, DE Γ f σ H Q → t σ H Q) : PT X e (DT Γ (tBl f)) :=
  PT.imp h fun σ H Q ⟨G, ρ, ok, q⟩ => i σ H _ (DX.bindI ok q fun x G1 H1 p ρ1 e1 ok1 r1 h1 => by
    cases r1 with
    | bl b => exact ⟨b, rfl, h1 b G1 H1 (Ex.refl G1) ok1 rfl⟩
    | _ => exact h1.elim)
theorem t_cmp {a b : Expr} {fa fb : EF} {op : CmpOp} {r : R2} {g : PV → PV → Option PV} (ho : OpR X (compareOp op) r) (os : OpS Γ r g) (ha : PE X a (DE Γ fa)) (hb : PE X b (DE Γ fb)) (hm : behindInMarks op b = false) : PT X (.Compare a [op] [b] pos) (DT Γ (tBl (eOp g fa fb))) :=
  t_bl (pt_cmpR ho ha hb hm) (opImp os)
theorem t_eq {a b : Expr} {fa fb : EF} (hx : OkX X Γ) (hu : X.A.units + 64 < cLine) (ha : PE X a (DE Γ fa)) (hb : PE X b (DE Γ fb)) (hm : behindInMarks .Eq b = false) : PT X (.Compare a [.Eq] [b] pos) (DT Γ (tBl (eOp pEq fa fb))) := by
  have h := pt_cmpR (pos := pos) (op_eqD (X := X) hu) ha hb hm
  rw [hx.k] at h
  exact t_bl h (opImp s_eqD)
theorem t_ne {a b : Expr} {fa fb : EF} (hx : OkX X Γ) (hu : X.A.units + 64 < cLine) (ha : PE X a (DE Γ fa)) (hb : PE X b (DE Γ fb)) (hm : behindInMarks .NotEq b = false) : PT X (.Compare a [.NotEq] [b] pos) (DT Γ (tBl (eOp pNe fa fb))) := by
  have h := pt_cmpR (pos := pos) (op_neD (X := X) hu) ha hb hm
  rw [hx.k] at h
  exact t_bl h (opImp s_neD)
theorem t_in {a b : Expr} {fa fb : EF} (hx : OkX X Γ) (hu : X.A.units + 65 < cLine) (ha : PE X a (DE Γ fa)) (hb : PE X b (DE Γ fb)) (hm : behindInMarks .In b = false) : PT X (.Compare a [.In] [b] pos) (DT Γ (tBl (eOp pIn fa fb))) := by
  have h := pt_cmpR (pos := pos) (op_inD (X := X) hu) ha hb hm
  rw [hx.k] at h
  exact t_bl h (opImp s_in)
theorem t_notin {a b : Expr} {fa fb : EF} (hx : OkX X Γ) (hu : X.A.units + 65 < cLine) (ha : PE X a (DE Γ fa)) (hb : PE X b (DE Γ fb)) (hm : behindInMarks .NotIn b = false) : PT X (.Compare a [.NotIn] [b] pos) (DT Γ (tBl (eOp pNotIn fa fb))) := by
  have h := pt_cmpR (pos := pos) (op_notInD (X := X) hu) ha hb hm
  rw [hx.k] at h
  exact t_bl h (opImp s_notIn)
theorem chainImp {fa fb fc : EF} {r r' : R2} {g g' : PV → PV → Option PV} (os : OpB Γ r g) (os' : OpS Γ r' g') : ∀ σ H Q, DE Γ (eChain g g' fa fb fc) σ H Q → tChain r r' (DE Γ fa) (DE Γ fb) (DE Γ fc) σ H Q := fun σ H Q ⟨G, ρ, ok, h⟩ => by
    refine DX.bindI ok h fun x G1 H1 p ρ1 e1 ok1 r1 h1 => ?_
    refine DX.bindI ok1 h1 fun y G2 H2 q ρ2 e2 ok2 r2 h2 => ?_
    cases hg : g p q with
    | none => rw [hg] at h2; exact h2.elim
    | some z =>
      rw [hg] at h2
      cases z with
      | bl k =>
        refine os G2 H2 x y p q k _ ok2.gH (r1.mono e2) r2 hg ⟨k, rfl, ?_⟩
        cases k with
        | true =>
          show DE Γ fc σ H2 _
          refine DX.bindI ok2 h2 fun w G3 H3 s ρ3 e3 ok3 r3 h3 => ?_
          cases hg' : g' q s with
          | none => rw [hg'] at h3; exact h3.elim
          | some z' =>
            rw [hg'] at h3
            exact os' G3 H3 y w q s z' Q ok3.gH (r2.mono e3) r3 hg' fun v G' H' gr rv => h3 v G' H' gr.gG (ok3.grow gr) rv
        | false =>
          show Q (.bl false) H2
          exact h2 _ G2 H2 (Ex.refl G2) ok2 (.bl false)
      | _ => exact h2.elim
theorem t_chain {e : Expr} {fa fb fc : EF} {r r' : R2} {g g' : PV → PV → Option PV} (os : OpB Γ r g) (os' : OpS Γ r' g') (h : PT X e (tTest (tChain r r' (DE Γ fa) (DE Γ fb) (DE Γ fc)))) : PT X e (DT Γ (tBl (eChain g g' fa fb fc))) := t_bl h (chainImp os os')
section
variable {x : Str} {p : Pos} {e : Expr} {es : List Expr} {fa : AF}
theorem v_len (hx : OkX X Γ) (hg : Gl X x) (hm : X.mg x = none) (hv : bootBuiltins x = some (.builtin "len")) (ha : PA X (e :: es) (DA Γ fa))
    (hn : x ≠ "__name__" := by decide) (hdb : (x == ("__debug__" : Str)) = false := by decide)
    (he : starEach (e :: es) X.env = (false, eval e X.env) :: starEach es X.env := by rfl) (hpl : (backTo pos (starEach es X.env)).any (·.1) = false := by rfl) : PE X (.Call (.Name x p) (e :: es) [] pos) (DE Γ (eCall pLen fa)) := by
  have h := call_len (X := X)
  rw [hx.k] at h
  exact v_callB h c_len hg hm hv ha hn hdb he hpl
theorem v_isi (hx : OkX X Γ) (hg : Gl X x) (hm : X.mg x = none) (hv : bootBuiltins x = some (.builtin "isinstance")) (ha : PA X (e :: es) (DA Γ fa))
    (hn : x ≠ "__name__" := by decide) (hdb : (x == ("__debug__" : Str)) = false := by decide)
    (he : starEach (e :: es) X.env = (false, eval e X.env) :: starEach es X.env := by rfl) (hpl : (backTo pos (starEach es X.env)).any (·.1) = false := by rfl) : PE X (.Call (.Name x p) (e :: es) [] pos) (DE Γ (eCall pIsi fa)) := by
  have h := call_isi (X := X)
  rw [hx.k] at h
  exact v_callB h c_isi hg hm hv ha hn hdb he hpl
theorem v_tupleC (hx : OkX X Γ) (hg : Gl X x) (hm : X.mg x = none) (hv : bootBuiltins x = some (.type "tuple")) (ha : PA X (e :: es) (DA Γ fa))
    (hn : x ≠ "__name__" := by decide) (hdb : (x == ("__debug__" : Str)) = false := by decide)
    (he : starEach (e :: es) X.env = (false, eval e X.env) :: starEach es X.env := by rfl) (hpl : (backTo pos (starEach es X.env)).any (·.1) = false := by rfl) : PE X (.Call (.Name x p) (e :: es) [] pos) (DE Γ (eCall pTuple fa)) := by
  have h := call_tuple_of (X := X)
  rw [hx.k] at h
  exact v_callTy h c_tuple hg hm hv ha hn hdb he hpl
end
end
section
variable {X : Cx} {Γ : Gam} {pos : Pos}
/-- f(e, k = v) -/
theorem v_callK1 {k : Nat} {x kw : Str} {nps : List Str} {ms : List Bool} {F : FF} {p kpos : Pos} {e ek : Expr} {fa fk : EF} {f : Addr} {fd : FuncData} (gP : List PV → List PV → List PV) (gV : List V → List V → List V) (hx : OkX X Γ)
    (ok : FnOk X.prog X.w X.K X.mg X.base (L2N.CX X.prog X.w) k f fd nps (spF X.K X.mg ms F)) (gm : X.mg x = some (.ref f)) (kp : PySem.W.keepIn X.K (.ref f) = true) (hb : ∃ g, KBn X.K fd nps 1 [kw] g gV) (hd : ∀ G vs ps ws qs, Reps Γ.K Γ.mg G vs ps → Reps Γ.K Γ.mg G ws qs → Reps Γ.K Γ.mg G (gV vs ws) (gP ps qs))
    (hr : Room k X.A) (hg : Gl X x) (ha : PE X e (DE Γ fa)) (hk : PE X ek (DE Γ fk)) (hdb : (x == ("__debug__" : Str)) = false) (he : starEach [e] X.env = (false, eval e X.env) :: starEach [] X.env) :
    PE X (.Call (.Name x p) [e] [⟨some kw, ek, kpos⟩] pos) (DE Γ (eCallK ms 1 1 F gP (aCons fa aNil) (aCons fk aNil))) :=
  v_callK gP gV hx ok gm kp hb hd rfl hr hg (v_cons ha v_nil he) (k_cons hk k_nil) rfl rfl hdb he (by rw [he]; rfl)
end
end PL
end

section
set_option Elab.async false
set_option linter.all false
set_option maxRecDepth 100000
set_option maxHeartbeats 4000000
set_option autoImplicit false
namespace PL
open PySem PySem.Spec PyProof.Rows L2
variable {X : Cx} {Γ : Gam} {pos : Pos}
/-! isinstance(x, (T1, T2, ..)) -/
def eIsiT (ns : List String) (fa : EF) : EF := fun ρ => (fa ρ).bind fun p ρ1 => match tyName p with
  | some a => if (ns.all fun n => decide (n ∈ tyIs)) = true then .ok (.bl (ns.any fun n => isaT a n)) ρ1 else .bad
  | none => .bad
theorem kitAny_ty {K : PySem.W.Frag} {a : String} (ha : a ∈ tyIs) : ∀ ns : List String, (ns.all fun n => decide (n ∈ tyIs)) = true → PySem.W.kitAny K (.type a) (ns.map Value.type) = some (ns.any fun n => isaT a n)
  | [], _ => kitAny_nil
  | n :: ns, h => by
    rw [List.all_cons, Bool.and_eq_true] at h
    have h1 := kit_isa a ha n (of_decide_eq_true h.1) K
    have h2 := kitAny_ty (K := K) ha ns h.2
    rw [List.map_cons, List.any_cons]
    refine kitAny_cons h1 (fun hb => ?_) (fun hb => by rw [hb]; rfl)
    rw [hb, Bool.false_or]; exact h2
theorem clsV_tys : ∀ ns : List String, Paired ClsV (ns.map V.ty) (ns.map Value.type)
  | [] => .nil
  | n :: ns => .cons (.ty n) (clsV_tys ns)
theorem reps_tys {K : PySem.W.Frag} {mg : Str → Option Value} {G : Hp} : ∀ {ns : List String} {vs : List V}, Reps K mg G vs (ns.map fun n => PV.atm (.ty n)) → vs = ns.map V.ty
  | [], _, .nil => rfl
  | n :: ns, _, .cons h t => by
    cases h
    rw [reps_tys t]; rfl
theorem v_isiT {x : Str} {p tpos : Pos} {e : Expr} {ts : List Expr} {k : Nat} {fa : EF} {ft : AF} {ns : List String} (hx : OkX X Γ) (hg : Gl X x) (hm : X.mg x = none) (hv : bootBuiltins x = some (.builtin "isinstance")) (ha : PE X e (DE Γ fa)) (ht : PA X ts (DA Γ ft)) (hf : ∀ ρ, ft ρ = .ok (ns.map fun n => PV.atm (.ty n)) ρ) (hl : ns.length ≤ 100000 := by decide)
    (hn : x ≠ "__name__" := by decide) (hdb : (x == ("__debug__" : Str)) = false := by decide) (hs : starEach [e, .Tuple ts k tpos] X.env = (false, eval e X.env) :: starEach [.Tuple ts k tpos] X.env := by rfl)
    (hpl : (backTo pos (starEach [.Tuple ts k tpos] X.env)).any (·.1) = false := by rfl) : PE X (.Call (.Name x p) [e, .Tuple ts k tpos] [] pos) (DE Γ (eIsiT ns fa)) := by
  have hc := call_isiT (X := X)
  rw [hx.k] at hc
  refine PE.imp (pe_callB hc hg hm hv (pa_cons ha (pa_cons (pe_tup ht) pa_nil rfl) hs) hn hdb hs hpl) fun σ H Q ⟨G, ρ, ok, h⟩ => ?_
  refine DX.bindI ok h fun v G1 H1 q ρ1 e1 ok1 r1 h1 => ?_
  refine ⟨G1, ρ1, ok1, ?_⟩
  rw [hf]
  intro vs G2 H2 e2 ok2 r2
  have hvs := reps_tys r2
  subst hvs
  cases hty : tyName q with
  | none => rw [hty] at h1; exact h1.elim
  | some a =>
    simp only [hty] at h1
    split at h1
    · rename_i c
      refine ⟨?_, fun tp hp => ?_⟩
      · exact szOk (by rw [List.length_map]; exact hl)
      · have ok3 := ok2.grow (Grow.newH (o := .tup (ns.map V.ty)) ok2.gH hp)
        refine ⟨v, tp, ns.map V.ty, _, ns.map Value.type, ns.any fun n => isaT a n, rfl, upd_same, clsV_tys ns, tyX_of ok3.gH (r1.mono e2) hty, kitAny_ty (tyName_in hty) ns c, ?_⟩
        exact h1 _ G2 _ e2 ok3 (.bl _)
    · exact h1.elim
end PL
end

section
set_option Elab.async false
set_option linter.all false
set_option maxRecDepth 100000
set_option maxHeartbeats 4000000
set_option autoImplicit false
namespace PL
open PySem PySem.Spec PyProof.Rows L2
/-! enumerate of a tuple -/
theorem en_new {v : Value} {oi : Obj} {Z : Heap → Prop} (B : Begins v oi Z) : Meets (Builtin.«enumerate.__new__» ⟨[.type "enumerate", v], []⟩) (fun _ R s =>
    Z s.heap ∧ R (.ok (.ret (.ref (s.heap.push oi).objs.size))) { s with heap := (s.heap.push oi).push ⟨.type "enumerate", none, .fields #[.none, .bool false, .ref s.heap.objs.size, rawInt 0, .none, .none], #[]⟩ }) :=
  .of_wp fun pr wo A R s hz => by
    obtain ⟨hp, gs, dr, tk, os⟩ := s
    obtain ⟨z1, z2⟩ := hz
    have hsub := sub_enumerate
    have go : ∀ {A' : Around} {E' Q' : Value → Shared → Prop}, Q' (.ref hp.objs.size) ⟨hp.push oi, gs, dr, tk, os⟩ → wpAny (model pr wo) A' (pyIter v) Q' E' ⟨hp, gs, dr, tk, os⟩ := fun q => B.iter pr wo _ _ ⟨hp, gs, dr, tk, os⟩ _ z1 q
    wp_walk using go
    refine wpAny_stack_any fun st => wpAny_pure ?_
    split
    · rename_i c _ _ _ _ _
      cases (c == Value.type "enumerate") <;> (wp_walk using go; exact ⟨_, rfl, z2⟩)
    · wp_walk using go
      exact ⟨_, rfl, z2⟩

theorem en_call {prog : Program} {w : World} {A : Around} {E Q : Value → Shared → Prop} {s : Shared} {v : Value} {oi : Obj} {Z : Heap → Prop} (B : Begins v oi Z) (hz : Z s.heap)
    (k : ∀ h2 : Heap, IsEnum h2 (s.heap.objs.size + 1) s.heap.objs.size 0 .none → h2.get? s.heap.objs.size = some oi → (∀ b u, s.heap.get? b = some u → h2.get? b = some u) → Q (.ref (s.heap.objs.size + 1)) { s with heap := h2 }) :
    wpAny (model prog w) A (call (.type "enumerate") [v]) Q E s := by
  refine callType_new F.called_enumerate (by decide) (F.typeCall_enumerate_1 _) (F.newCall_enumerate_1 _)
    (fun ob => F.args_object_init_2 ob _) F.entry_enumerate_new (en_new B) ⟨hz, ?_⟩
  have sz : (s.heap.push oi).objs.size = s.heap.objs.size + 1 := Heap.size_push ..
  have cell : IsEnum ((s.heap.push oi).push ⟨.type "enumerate", none, .fields #[.none, .bool false, .ref s.heap.objs.size, rawInt 0, .none, .none], #[]⟩)
      (s.heap.objs.size + 1) s.heap.objs.size 0 .none := by
    have g := Heap.get?_push_size (s.heap.push oi) (o := ⟨.type "enumerate", none, .fields #[.none, .bool false, .ref s.heap.objs.size, rawInt 0, .none, .none], #[]⟩) rfl
    rw [sz] at g
    exact g
  show _ ∧ _
  rw [sz]
  exact ⟨⟨_, cell, rfl⟩, k _ cell (Heap.get?_push_of_some _ (Heap.get?_push_size _ B.free)) fun b u q => Heap.get?_push_of_some _ (Heap.get?_push_of_some _ q)⟩
/-- the tuple at a, each item in a new pair -/
def IteT (K : PySem.W.Frag) (a : Addr) : It where
  go := fun i H => ∃ (xs : List V) (x : V), SqT K H a xs ∧ xs[i]? = some x
  yld := fun i H v H' => ∃ T x, v = .ref T ∧ H T = none ∧ H' = upd H T (.tup [.int (i : Nat), x]) ∧ ∀ xs, SqT K H a xs → xs[i]? = some x
  stop := fun i H => ∃ xs : List V, SqT K H a xs ∧ xs.length = i
theorem turn_enT {P : Program} {w : World} {K : PySem.W.Frag} {elts : List Expr} {kk : Nat} {tpos : Pos} (a e it : Addr) :
    Turn P w K (.Tuple elts kk tpos) (IteT K a) [e, it] e (fun i h => (∃ old, IsEnum h e it ((i : Nat) : Int) old) ∧ h.IsTupleIter it a i ∧ e ≠ it ∧ a ≠ e ∧ a ≠ it) := by
  constructor
  · exact List.mem_cons_self
  · rintro i h ⟨⟨old, he⟩, ⟨o, ho, _, hd⟩, _⟩ b hb
    rcases (show b = e ∨ b = it by simpa using hb) with rfl | rfl
    · exact ⟨_, he, fun v q => nomatch q⟩
    · exact ⟨o, ho, fun v q => by rw [hd] at q; cases q⟩
  · rintro i h h' ⟨⟨old, he⟩, hi, hne⟩ k
    exact ⟨⟨old, k e (by simp) _ he⟩, hi.at fun o q => k it (by simp) o q, hne⟩
  · intro X hP hw hK hc i pins s σ H E I hf st hg
    subst hP hw hK
    obtain ⟨⟨old, he⟩, hit, hne, hae, hai⟩ := st
    obtain ⟨xs, x, hq, hx⟩ := hg
    obtain ⟨its, rv, p, hz⟩ := I.tuple hq
    obtain ⟨u, hu, ru⟩ := rv.get hx
    have hh : X.A.in1.handled = none := I.ok.hd hc
    have eL : e < s.heap.objs.size := Heap.lt_size he
    have iL : it < s.heap.objs.size := by obtain ⟨_, z, _⟩ := hit; exact Heap.lt_size z
    have hu2 : its.toArray[i]? = some u := by simpa using hu
    have hi : i < its.toArray.size := (Array.getElem?_eq_some_iff.mp hu2).1
    refine wpAny_pyNext_enum_itemD (Draws.tuple hh it a hai its.toArray) he ⟨hit, p⟩ hi hne (by simp [hne, Ne.symm hae]) fun y h1 tk hy oy st1 hT hs hk => ?_
    have ey : y = u := by rw [hu2] at hy; exact (Option.some.inj hy).symm
    subst ey
    refine ⟨_, rfl, wpAny_letOwnedTupleGo_enum (s := { s with heap := h1, toks := tk + 1 }) oy fun h2 z1 z2 => ?_⟩
    have hT2 : h2.get? s.heap.objs.size = some { cls := .type "tuple", data := .seq #[.int i tk, y] } := (z2.2 _ (Nat.ne_of_gt eL)).trans hT
    have nw : ObjOk X.prog X.w (upd H s.heap.objs.size (.tup [.int (i : Nat), x])) h2 s.heap.objs.size (.tup [.int (i : Nat), x]) :=
      ⟨by show 2 ≤ sizeLine; decide, [.int i tk, y], .cons ⟨_, rfl⟩ (.cons ru .nil), ⟨_, hT2, rfl, _, rfl⟩⟩
    have I1 : Inv X pins σ (upd H s.heap.objs.size (.tup [.int (i : Nat), x])) { s with heap := h2, toks := tk + 1 } := by
      refine I.turnedNew (ch := [e, it]) (fun b ob hb q => ?_) hf (Nat.le_refl _) nw
      have n1 : b ≠ e := fun z => hb (by simp [z])
      have n2 : b ≠ it := fun z => hb (by simp [z])
      exact (z2.2 b n1).trans (hk b ob n1 n2 q)
    refine ⟨.ref s.heap.objs.size, _, I1, rfl, ⟨_, x, rfl, I.hok.fresh (Nat.le_refl _), rfl, fun ys hy => by rw [I.tuple_inj hy hq]; exact hx⟩, ⟨⟨y, ?_⟩, st1.1.at fun o q => (z2.2 it (Ne.symm hne)).trans q, hne, hae, hai⟩, fun b hb => ?_⟩
    · rw [show ((i + 1 : Nat) : Int) = (i : Int) + 1 by omega]
      exact z1
    · have bl : b < s.heap.objs.size := by
        rcases (show b = e ∨ b = it by simpa using hb) with rfl | rfl
        · exact eL
        · exact iL
      rw [upd_ne (Nat.ne_of_lt bl)]
      exact (hf b hb).1
  · intro X hP hw hK hc i pins s σ H E I hf st hg
    subst hP hw hK
    obtain ⟨⟨old, he⟩, hit, hne, hae, hai⟩ := st
    obtain ⟨xs, hq, hx⟩ := hg
    obtain ⟨its, rv, p, hz⟩ := I.tuple hq
    have hh : X.A.in1.handled = none := I.ok.hd hc
    obtain ⟨f0, f1, f2, f3, f4, f5⟩ := hf it (by simp)
    have hn : its.toArray.size = i := by rw [List.size_toArray, ← rv.length]; exact hx
    have st0 : s.heap.IsTupleIter it a its.toArray.size ∧ s.heap.IsTuple a its.toArray := ⟨by rw [hn]; exact hit, p⟩
    exact wpAny_pyNext_enum_endD (Draws.tuple hh it a hai its.toArray) he st0 fun h1 eb => ⟨rfl, I.turned (t' := s.toks) (fun b o hb q => eb b o hb q) f0 f1 f3 f4 f5⟩
  · rintro A i s Q E ⟨⟨_, he⟩, _⟩ h
    exact wpAny_pyIter_enum he h

def iEnT (K : PySem.W.Frag) (ta : TA) : TI := fun σ H R => ta σ H fun vs H1 => ∃ a xs, vs = [.ref a] ∧ SqT K H1 a xs ∧ R (IteT K a) H1
theorem pi_enT {X : Cx} {e : Expr} {ta : TA} {p pos tpos : Pos} {elts : List Expr} {kk : Nat} (hg : Gl X "enumerate") (hm : X.mg "enumerate" = none) (ha : PA X [e] ta)
    (hs : starEach [e] X.env = [(false, eval e X.env)] := by rfl) : PI X (.Tuple elts kk tpos) (.Call (.Name "enumerate" p) [e] [] pos) (iEnT X.K ta) := by
  refine ⟨fun pins s σ H R I h => Call_ (ld_blt I hg hm boot_enumerate (PyProof.Rows.callWith_type1 (thn (ha.run pos pins s σ H _ I h) fun us s1 ⟨vs, H1, I1, r1, a, xs, ex, hq, q⟩ => ?_) hs rfl))⟩
  subst ex
  obtain ⟨u, rfl, r⟩ : ∃ u, us = [u] ∧ RelV (.ref a) u := by
    cases r1 with
    | cons r rr => cases rr; exact ⟨_, rfl, r⟩
  cases (show u = Value.ref a from r)
  obtain ⟨its, rv, p', hz⟩ := I1.tuple hq
  have aL : a < s1.heap.objs.size := by obtain ⟨_, z, _⟩ := p'; exact Heap.lt_size z
  refine en_call (begins_tuple a its.toArray) p' fun h2 he hit hk => wpAny_pyIter_enum he ?_
  have I2 : Inv X pins σ H1 { s1 with heap := h2 } := I1.kept (t' := s1.toks) hk
  refine ⟨s1.heap.objs.size + 1, [s1.heap.objs.size + 1, s1.heap.objs.size], _, _, H1, rfl, I2, turn_enT a (s1.heap.objs.size + 1) s1.heap.objs.size,
    ⟨⟨.none, he⟩, ⟨_, hit, rfl, rfl⟩, Nat.succ_ne_self _, Nat.ne_of_lt (Nat.lt_succ_of_lt aL), Nat.ne_of_lt aL⟩, fun b hb => ?_, q⟩
  have le : s1.heap.objs.size ≤ b := by
    rcases (show b = s1.heap.objs.size + 1 ∨ b = s1.heap.objs.size by simpa using hb) with z | z
    · rw [z]; exact Nat.le_add_right _ _
    · rw [z]; exact Nat.le_refl _
  exact I1.fpOk le (I1.hok.fresh le)
section
variable {X : Cx} {Γ : Gam} {pos : Pos}
theorem walks_enT {G : Hp} {a : Addr} {vs : List V} {ps : List PV} (h : SqT Γ.K G a vs) (r : Reps Γ.K Γ.mg G vs ps) : Walks Γ (IteT Γ.K a) G (enumP ps) where
  goes := fun i H hi e => by
    rw [enumP_len, ← r.length] at hi
    exact ⟨vs, vs[i], e.sqT h, by simp [hi]⟩
  stops := fun H e => ⟨vs, e.sqT h, by rw [enumP_len, r.length]⟩
  yields := fun i H x H' hi e ⟨T, u, h1, h2, h3, h4⟩ => by
    subst h1 h3
    obtain ⟨p, g1, g2⟩ := r.getV (h4 vs (e.sqT h))
    exact ⟨_, enumP_get g1, fun G1 e1 e2 => repPair e2 h2 (.int _) (g2.mono e1)⟩
def pEnum : List PV → Option (List PV)
  | [.lst xs] => some (enumP xs)
  | [.tup xs] => some (enumP xs)
  | [.scr xs] => some (enumP xs)
  | _ => none
theorem i_enum (hx : OkX X Γ) {e : Expr} {fa : AF} {p tpos : Pos} {elts : List Expr} {kk : Nat} (hg : Gl X "enumerate") (hm : X.mg "enumerate" = none) (ha : PA X [e] (DA Γ fa)) (hs : starEach [e] X.env = [(false, eval e X.env)] := by rfl) :
    PI X (.Tuple elts kk tpos) (.Call (.Name "enumerate" p) [e] [] pos) (DI Γ (iArg pEnum fa)) := by
  have A := pi_enum (X := X) (p := p) (pos := pos) (tpos := tpos) (elts := elts) (kk := kk) hg hm ha hs
  have B := pi_enT (X := X) (p := p) (pos := pos) (tpos := tpos) (elts := elts) (kk := kk) hg hm ha hs
  rw [hx.k] at A B
  refine PI.or A B fun σ H R ⟨G, ρ, ok, q⟩ => ?_
  cases hf : fa ρ with
  | bad => simp only [iArg, hf, ERes.bind] at q
  | exc c fs ρ1 =>
    simp only [iArg, hf, ERes.bind] at q
    refine .inl ⟨G, ρ, ok, ?_⟩
    rw [hf]; exact q
  | ok ps ρ1 =>
    simp only [iArg, hf, ERes.bind] at q
    cases hp : pEnum ps with
    | none => rw [hp] at q; exact q.elim
    | some zs =>
      rw [hp] at q
      unfold pEnum at hp
      split at hp
      · rename_i xs
        cases hp
        refine .inl ⟨G, ρ, ok, ?_⟩
        rw [hf]
        intro vs G1 H1 e1 ok1 r1
        obtain ⟨v, rfl, rv⟩ := reps1 r1
        cases rv with
        | lst h r => exact ⟨_, _, rfl, .inl (ok1.gH.rdL h), q _ G1 H1 e1 ok1 (walks_enum (.inl (.inl h)) r)⟩
      · rename_i xs
        cases hp
        refine .inr ⟨G, ρ, ok, ?_⟩
        rw [hf]
        intro vs G1 H1 e1 ok1 r1
        obtain ⟨v, rfl, rv⟩ := reps1 r1
        cases rv with
        | tup h r => exact ⟨_, _, rfl, ok1.gH.sqT h, q _ G1 H1 e1 ok1 (walks_enT h r)⟩
      · rename_i xs
        cases hp
        refine .inl ⟨G, ρ, ok, ?_⟩
        rw [hf]
        intro vs G1 H1 e1 ok1 r1
        obtain ⟨v, rfl, rv⟩ := reps1 r1
        cases rv with
        | scr h r => exact ⟨_, _, rfl, ok1.gH.sqL h, q _ G1 H1 e1 ok1 (walks_enum h r)⟩
      · cases hp
end
end PL
end

section
set_option Elab.async false
set_option linter.all false
set_option maxRecDepth 100000
set_option maxHeartbeats 4000000
set_option autoImplicit false
namespace PL
open PySem PySem.Spec PyProof.Rows L2
variable {X : Cx} {Γ : Gam} {pos : Pos}
theorem PG.or {tg : Expr} {t u t' : TG} (h : PG X tg t) (h2 : PG X tg u) (i : ∀ v σ H Q, t' v σ H Q → t v σ H Q ∨ u v σ H Q) : PG X tg t' := ⟨fun pins s σ H v w Q I r z => by
  rcases i v σ H Q z with q | q
  · exact h.run pins s σ H v w Q I r q
  · exact h2.run pins s σ H v w Q I r q⟩
/-- a tuple or a list of this length -/
def gTL (n : Nat) (gs : GsF) : GF := fun p ρ => match p with
  | .tup xs => if decide (xs.length = n) = true then gs xs ρ else none
  | .lst xs => if decide (xs.length = n) = true then gs xs ρ else none
  | _ => none
theorem g_tl (hx : OkX X Γ) {es : List Expr} {k n : Nat} {is : List Nat} {gs : GsF} (hc : X.calm = true) (h : PGs X es (DGs Γ is gs)) (hn : (assignEach es X.env).length = n := by rfl) (hst : (assignEach es X.env).findIdx? (·.1) = none := by rfl) : PG X (.Tuple es k pos) (DG Γ is (gTL n gs)) :=
  PG.or (pg_tup (pos := pos) (k := k) hc h hn hst) (pg_lst (pos := pos) (k := k) hc h hn hst) fun v σ H Q ⟨G, ρ, p, ok, r, q⟩ => by
    cases r with
    | tup h1 r1 =>
      left
      simp only [gTL] at q
      split at q
      · rename_i ρ' e
        split at e
        · rename_i c
          exact ⟨_, _, rfl, by rw [hx.k]; exact ok.gH.sqT h1, by rw [r1.length]; exact of_decide_eq_true c, G, ρ, _, ok, r1, by rw [e]; exact q⟩
        · cases e
      · exact q.elim
    | lst h1 r1 =>
      right
      simp only [gTL] at q
      split at q
      · rename_i ρ' e
        split at e
        · rename_i c
          exact ⟨_, _, rfl, by rw [hx.k]; exact .inl (ok.gH.rdL h1), by rw [r1.length]; exact of_decide_eq_true c, G, ρ, _, ok, r1, by rw [e]; exact q⟩
        · cases e
      · exact q.elim
    | _ => exact q.elim
end PL
end

section
set_option Elab.async false
set_option linter.all false
set_option maxRecDepth 100000
set_option maxHeartbeats 4000000
set_option autoImplicit false
/-! slices, list(x), all(..), insert and pop, owned lists that are only read -/
namespace PL
open PySem PySem.Spec PyProof.Rows L2
section
variable {X : Cx} {Γ : Gam} {pos : Pos}

/-! ### slices -/
abbrev OF := PEnv → ERes (Option Int)
abbrev DO (Γ : Gam) (f : OF) : TO := DX Γ (fun _ a b => a = b) f
def oN : OF := fun ρ => .ok none ρ
def oI (p : PV) (ρ : PEnv) : ERes (Option Int) := match p with
  | .int i => .ok (some i) ρ
  | _ => .bad
def oS (f : EF) : OF := fun ρ => (f ρ).bind oI
theorem PO.imp {e : Option Expr} {t t' : TO} (h : PO X e t) (i : ∀ σ H Q, t' σ H Q → t σ H Q) : PO X e t' := ⟨fun pins s σ H Q I z => h.run pins s σ H Q I (i σ H Q z)⟩
theorem o_none : PO X none (DO Γ oN) := PO.imp po_none fun σ H Q ⟨G, ρ, ok, q⟩ => q none G H (Ex.refl G) ok rfl
theorem o_some {e : Expr} {f : EF} (h : PE X e (DE Γ f)) : PO X (some e) (DO Γ (oS f)) := PO.imp (po_some h) fun σ H Q ⟨G, ρ, ok, q⟩ => by
  refine DX.bindI ok q fun x G1 H1 p ρ1 e1 ok1 r1 h1 => ?_
  cases r1 <;> first | exact (h1 : False).elim | skip
  rename_i i
  exact ⟨i, rfl, h1 (some i) G1 H1 (Ex.refl G1) ok1 rfl⟩
def cutP (xs : List PV) (lo hi : Option Int) : List PV := (xs.drop (HT.sIx xs.length 0 lo)).take (HT.sIx xs.length xs.length hi - HT.sIx xs.length 0 lo)
theorem cut_reps {K : PySem.W.Frag} {mg : Str → Option Value} {G : Hp} {vs : List V} {xs : List PV} {lo hi : Option Int} (r : Reps K mg G vs xs) : Reps K mg G (cutV vs lo hi) (cutP xs lo hi) := by
  unfold cutV cutP
  rw [r.length]
  exact (r.drop _).take _
theorem cut_whole {vs : List V} {lo hi : Option Int} (h : HT.sIx vs.length 0 lo = 0 ∧ HT.sIx vs.length vs.length hi = vs.length) : cutV vs lo hi = vs := by
  unfold cutV
  rw [h.1, h.2]
  simp
def pSl (p : PV) (lo hi : Option Int) : Option PV := match p with
  | .lst xs => some (.lst (cutP xs lo hi))
  | .tup xs => some (.tup (cutP xs lo hi))
  | _ => none
def eSl (f : EF) (l h : OF) : EF := fun ρ => (f ρ).bind fun p ρ1 => (l ρ1).bind fun lo ρ2 => (h ρ2).bind fun hi ρ3 => oRes (pSl p lo hi) ρ3
def rSlB (K : PySem.W.Frag) : V → Option Int → Option Int → Hp → VK → Prop := fun x lo hi H Q => rSlL K x lo hi H Q ∨ rSlA K x lo hi H Q
theorem sl_any : SlR X (rSlB X.K) := SlR.or sl_list sl_tupA
theorem v_sl (hx : OkX X Γ) {e : Expr} {lo hi : Option Expr} {p2 : Pos} {f : EF} {l h : OF} (he : PE X e (DE Γ f)) (hl : PO X lo (DO Γ l)) (hh : PO X hi (DO Γ h)) : PE X (.Subscript e (.Slice lo hi none p2) pos) (DE Γ (eSl f l h)) := by
  have hs := sl_any (X := X)
  rw [hx.k] at hs
  refine PE.imp (pe_slice hs he hl hh) fun σ H Q ⟨G, ρ, ok, q⟩ => ?_
  refine DX.bindI ok q fun x G1 H1 p ρ1 e1 ok1 r1 h1 => ?_
  refine DX.bindI (rel1 := fun _ a b => a = b) ok1 h1 fun lo G2 H2 lo' ρ2 e2 ok2 r2 h2 => ?_
  refine DX.bindI (rel1 := fun _ a b => a = b) ok2 h2 fun hi G3 H3 hi' ρ3 e3 ok3 r3 h3 => ?_
  have z1 : lo = lo' := r2
  have z2 : hi = hi' := r3
  subst z1 z2
  have r := (r1.mono e2).mono e3
  cases r <;> first | exact (h3 : False).elim | skip
  · rename_i a vs xs ht rr
    refine .inr ⟨a, vs, rfl, ok3.gH.sqT ht, fun w => ?_, fun _ p hp => ?_⟩
    · refine h3 _ G3 H3 (Ex.refl G3) ok3 (.tup ht ?_)
      have := cut_reps (lo := lo) (hi := hi) rr
      rwa [cut_whole w] at this
    · exact h3 _ _ _ (Ex.new (ok3.gH.none hp)) (ok3.grow (Grow.new ok3.gH hp)) (Rep.newT (ok3.gH.none hp) (cut_reps rr))
  · rename_i a vs xs ht rr
    refine .inl ⟨a, vs, rfl, .inl (ok3.gH.rdL ht), fun p hp => ?_⟩
    exact h3 _ _ _ (Ex.new (ok3.gH.none hp)) (ok3.grow (Grow.new ok3.gH hp)) (Rep.newL (ok3.gH.none hp) (cut_reps rr))

/-! ### all, any -/
def blsOf : List PV → Option (List Bool)
  | [] => some []
  | .bl b :: xs => match blsOf xs with
    | some bs => some (b :: bs)
    | none => none
  | _ :: _ => none
theorem blsOf_reps {K : PySem.W.Frag} {mg : Str → Option Value} {G : Hp} : ∀ {xs : List PV} {vs : List V} {bs : List Bool}, Reps K mg G vs xs → blsOf xs = some bs → vs = bs.map V.bl
  | [], _, _, .nil, e => by cases e; rfl
  | x :: xs, _, bs, .cons h t, e => by
    cases x <;> first | (cases e; done) | skip
    simp only [blsOf] at e
    cases q : blsOf xs with
    | none => rw [q] at e; cases e
    | some cs =>
      rw [q] at e
      cases e
      cases h
      rw [blsOf_reps t q]; rfl
def pAllB : List PV → Option PV
  | [.lst xs] => match blsOf xs with
    | some bs => some (.bl (bs.all id))
    | none => none
  | _ => none
def pAnyB : List PV → Option PV
  | [.lst xs] => match blsOf xs with
    | some bs => some (.bl (bs.any id))
    | none => none
  | _ => none
theorem c_allB : CallS Γ (rAll Γ.K) pAllB := by
  intro G H vs ps z Q gh r hg k
  unfold pAllB at hg
  split at hg
  · rename_i xs
    split at hg
    · rename_i bs hb
      obtain ⟨v, rfl, h1⟩ := reps1 r
      cases hg
      cases h1 with
      | lst h rr =>
        refine ⟨_, bs, rfl, ?_, k _ G H (Grow.refl gh) (.bl _)⟩
        rw [← blsOf_reps rr hb]
        exact .inl (gh.rdL h)
    · cases hg
  · cases hg
theorem c_anyB : CallS Γ (rAny Γ.K) pAnyB := by
  intro G H vs ps z Q gh r hg k
  unfold pAnyB at hg
  split at hg
  · rename_i xs
    split at hg
    · rename_i bs hb
      obtain ⟨v, rfl, h1⟩ := reps1 r
      cases hg
      cases h1 with
      | lst h rr =>
        refine ⟨_, bs, rfl, ?_, k _ G H (Grow.refl gh) (.bl _)⟩
        rw [← blsOf_reps rr hb]
        exact .inl (gh.rdL h)
    · cases hg
  · cases hg
section
variable {x : Str} {p : Pos} {e : Expr} {es : List Expr} {fa : AF}
theorem v_allB (hx : OkX X Γ) (hc : X.calm = true) (hg : Gl X x) (hm : X.mg x = none) (hv : bootBuiltins x = some (.builtin "all")) (ha : PA X (e :: es) (DA Γ fa))
    (hn : x ≠ "__name__" := by decide) (hdb : (x == ("__debug__" : Str)) = false := by decide)
    (he : starEach (e :: es) X.env = (false, eval e X.env) :: starEach es X.env := by rfl) (hpl : (backTo pos (starEach es X.env)).any (·.1) = false := by rfl) : PE X (.Call (.Name x p) (e :: es) [] pos) (DE Γ (eCall pAllB fa)) := by
  have h := cr_all (X := X) hc
  rw [hx.k] at h
  exact v_callB h c_allB hg hm hv ha hn hdb he hpl
theorem v_anyB (hx : OkX X Γ) (hc : X.calm = true) (hg : Gl X x) (hm : X.mg x = none) (hv : bootBuiltins x = some (.builtin "any")) (ha : PA X (e :: es) (DA Γ fa))
    (hn : x ≠ "__name__" := by decide) (hdb : (x == ("__debug__" : Str)) = false := by decide)
    (he : starEach (e :: es) X.env = (false, eval e X.env) :: starEach es X.env := by rfl) (hpl : (backTo pos (starEach es X.env)).any (·.1) = false := by rfl) : PE X (.Call (.Name x p) (e :: es) [] pos) (DE Γ (eCall pAnyB fa)) := by
  have h := cr_any (X := X) hc
  rw [hx.k] at h
  exact v_callB h c_anyB hg hm hv ha hn hdb he hpl

/-! ### list(x) -/
def pListP : PV → Option PV
  | .lst xs => some (.lst xs)
  | .tup xs => some (.lst xs)
  | .scr xs => some (.lst xs)
  | _ => none
def pList : List PV → Option PV
  | [p] => pListP p
  | _ => none
theorem pList_seq {K : PySem.W.Frag} {mg : Str → Option Value} {G H : Hp} {v : V} {p z : PV} (gh : Ex G H) (r : Rep K mg G v p) (h : pListP p = some z) : ∃ a vs xs, v = .ref a ∧ z = .lst xs ∧ (SqL K H a vs ∨ SqT K H a vs) ∧ Reps K mg G vs xs := by
  cases r with
  | tup h1 r1 => cases h; exact ⟨_, _, _, rfl, rfl, .inr (gh.sqT h1), r1⟩
  | lst h1 r1 => cases h; exact ⟨_, _, _, rfl, rfl, .inl (.inl (gh.rdL h1)), r1⟩
  | scr h1 r1 => cases h; exact ⟨_, _, _, rfl, rfl, .inl (gh.sqL h1), r1⟩
  | _ => cases h
theorem c_list : CallS Γ (fun xs H Q => ∃ p ys, xs = [.ref p] ∧ (SqL Γ.K H p ys ∨ SqT Γ.K H p ys) ∧ ∀ l, H l = none → Q (.ref l) (upd H l (.lst ys))) pList := by
  intro G H vs ps z Q gh r hg k
  unfold pList at hg
  split at hg
  · rename_i p
    obtain ⟨v, rfl, h1⟩ := reps1 r
    obtain ⟨a, ws, xs, rfl, rfl, hs, rr⟩ := pList_seq gh h1 hg
    exact ⟨a, ws, rfl, hs, fun l hl => k _ (upd G l (.lst ws)) _ (Grow.new gh hl) (Rep.newL (gh.none hl) rr)⟩
  · cases hg
theorem v_listC (hx : OkX X Γ) (hg : Gl X x) (hm : X.mg x = none) (hv : bootBuiltins x = some (.type "list")) (ha : PA X (e :: es) (DA Γ fa))
    (hn : x ≠ "__name__" := by decide) (hdb : (x == ("__debug__" : Str)) = false := by decide)
    (he : starEach (e :: es) X.env = (false, eval e X.env) :: starEach es X.env := by rfl) (hpl : (backTo pos (starEach es X.env)).any (·.1) = false := by rfl) : PE X (.Call (.Name x p) (e :: es) [] pos) (DE Γ (eCall pList fa)) := by
  have h := call_list_of (X := X)
  rw [hx.k] at h
  exact v_callTy h c_list hg hm hv ha hn hdb he hpl
/-- a list that may be changed -/
theorem f_listC (hx : OkX X Γ) (hg : Gl X x) (hm : X.mg x = none) (hv : bootBuiltins x = some (.type "list")) (ha : PA X (e :: es) (DA Γ fa))
    (hn : x ≠ "__name__" := by decide) (hdb : (x == ("__debug__" : Str)) = false := by decide)
    (he : starEach (e :: es) X.env = (false, eval e X.env) :: starEach es X.env := by rfl) (hpl : (backTo pos (starEach es X.env)).any (·.1) = false := by rfl) : PE X (.Call (.Name x p) (e :: es) [] pos) (DF Γ (eCall pList fa)) := by
  have h := call_list_of (X := X)
  rw [hx.k] at h
  refine PE.imp (pe_callTy h hg hm hv ha hn hdb he hpl) fun σ H Q ⟨G, ρ, ok, q⟩ => ?_
  refine DX.bindF (rel1 := Reps Γ.K Γ.mg) ok q fun vs G1 H1 ps ρ1 e1 ok1 r1 h1 => ?_
  cases hg : pList ps with
  | none => rw [hg] at h1; exact (h1 : False).elim
  | some z =>
    rw [hg] at h1
    unfold pList at hg
    split at hg
    · rename_i p
      obtain ⟨v, rfl, r2⟩ := reps1 r1
      obtain ⟨a, ws, xs, rfl, rfl, hs, rr⟩ := pList_seq ok1.gH r2 hg
      exact ⟨a, ws, rfl, hs, fun l hl => h1 l (.lst ws) G1 _ (Ex.refl G1) (ok1.grow (Grow.newH ok1.gH hl)) (ok1.cH.none hl) (ok1.gH.none hl) upd_same (.lst rr) fun i q hi => ok1.notOwn hl i q hi⟩
    · cases hg
end

/-! ### an owned list is changed by a method -/
def sMeth (i : Nat) (g : List PV → List PV → Option (List PV)) (fa : AF) : SF := fun ρ => match ρ[i]? with
  | some (.own (.lst _)) => (fa ρ).bindS fun ps ρ1 => match ρ1[i]? with
    | some (.own (.lst xs)) => match g xs ps with
      | some ys => .nx (ρ1.set i (.own (.lst ys)))
      | none => .bad
    | _ => .bad
  | _ => .bad
def MethS (Γ : Gam) (r : V → List V → Hp → VK → Prop) (g : List PV → List PV → Option (List PV)) : Prop := ∀ (G H : Hp) (a : Addr) (vs ws : List V) (xs ps ys : List PV) (Q : VK), Reps Γ.K Γ.mg G vs xs → Reps Γ.K Γ.mg G ws ps →
  H a = some (.lst vs) → g xs ps = some ys → (∀ y vs', Reps Γ.K Γ.mg G vs' ys → Q y (upd H a (.lst vs'))) → r (.ref a) ws H Q
theorem s_meth {i : Nat} {st : Stmt} {r : V → List V → Hp → VK → Prop} {g : List PV → List PV → Option (List PV)} {fa : AF} (os : MethS Γ r g) (h : PS X st (tDrop (tBM X.K "list" r (tVar i) (DA Γ fa)))) : PS X st (DS Γ (sMeth i g fa)) :=
  PS.imp h fun D σ H ⟨G, ρ, ok, q⟩ => by
    cases hi : ρ[i]? with
    | none => simp only [sMeth, hi] at q; exact q.elim
    | some s =>
      cases s with
      | own p =>
        cases p with
        | lst xs0 =>
          simp only [sMeth, hi] at q
          obtain ⟨a, o, h1, h2, h3, h4, h5⟩ := ok.own i _ hi
          cases h5 with
          | lst r5 =>
            refine ⟨_, h1, .inl ⟨rfl, _, .inl (.inl h4)⟩, ?_⟩
            refine DX.bindS (rel1 := Reps Γ.K Γ.mg) ok q fun y G1 H1 p1 ρ1 e1 ok1 r1 k1 => ?_
            cases hj : ρ1[i]? with
            | none => simp only [hj] at k1; exact k1.elim
            | some s1 =>
              cases s1 with
              | own p1' =>
                cases p1' with
                | lst xs =>
                  simp only [hj] at k1
                  obtain ⟨a', o', g1, g2, g3, g4, g5⟩ := ok1.own i _ hj
                  rw [h1] at g1
                  cases g1
                  cases hys : g xs p1 with
                  | none => simp only [hys] at k1; exact k1.elim
                  | some ys =>
                    simp only [hys] at k1
                    cases g5 with
                    | lst rr =>
                      rename_i vs
                      exact os G1 H1 a vs y xs p1 ys _ rr r1 g4 hys fun y' vs' rv => k1 σ G1 _ (Ex.refl G1) (ok1.write hj h1 (.lst rv))
                | _ => simp only [hj] at k1; exact k1.elim
              | _ => simp only [hj] at k1; exact k1.elim
        | _ => simp only [sMeth, hi] at q; exact q.elim
      | _ => simp only [sMeth, hi] at q; exact q.elim
def pInsert (xs ps : List PV) : Option (List PV) := match ps with
  | [.int i, p] => if decide (xs.length < 100000 ∧ 0 ≤ i ∧ i < 2 ^ 63) = true then some (xs.take i.toNat ++ [p] ++ xs.drop i.toNat) else none
  | _ => none
theorem m_insert : MethS Γ (fun x vs H Q => ∃ (l : Addr) (xs : List V) (i : Int) (y : V), x = .ref l ∧ vs = [.int i, y] ∧ H l = some (.lst xs) ∧ xs.length < sizeLine ∧ 0 ≤ i ∧ i < 2 ^ 63 ∧
    Q .non (upd H l (.lst (xs.take i.toNat ++ [y] ++ xs.drop i.toNat)))) pInsert := by
  intro G H a vs ws xs ps ys Q r1 r2 ha hg k
  unfold pInsert at hg
  split at hg
  · rename_i i p
    split at hg
    · rename_i c
      obtain ⟨c1, c2, c3⟩ := of_decide_eq_true c
      obtain ⟨v, w, rfl, h1, h2⟩ := reps2 r2
      cases h1
      cases hg
      exact ⟨a, vs, i, w, rfl, rfl, ha, by rw [r1.length]; exact Nat.lt_of_lt_of_le c1 (szOk (Nat.le_refl _)), c2, c3, k _ _ (((r1.take _).append (.cons h2 .nil)).append (r1.drop _))⟩
    · cases hg
  · cases hg
theorem Reps.eraseIdx {K : PySem.W.Frag} {mg : Str → Option Value} {G : Hp} : ∀ {v : List V} {p : List PV} (i : Nat), Reps K mg G v p → Reps K mg G (v.eraseIdx i) (p.eraseIdx i)
  | _, _, _, .nil => .nil
  | _, _, 0, .cons _ t => t
  | _, _, i + 1, .cons h t => .cons h (Reps.eraseIdx i t)
def pPopAt (xs ps : List PV) : Option (List PV) := match ps with
  | [.int i] => if decide (-(2 ^ 63) ≤ i ∧ i < 2 ^ 63) = true then (match seqIndex? i xs.length with
    | some k => if k < xs.length then some (xs.eraseIdx k) else none
    | none => none) else none
  | _ => none
theorem m_popAt : MethS Γ rPopAt pPopAt := by
  intro G H a vs ws xs ps ys Q r1 r2 ha hg k
  unfold pPopAt at hg
  split at hg
  · rename_i i
    split at hg
    · rename_i c
      obtain ⟨c1, c2⟩ := of_decide_eq_true c
      split at hg
      · rename_i j hj
        split at hg
        · rename_i hl
          obtain ⟨v, rfl, h1⟩ := reps1 r2
          cases h1
          cases hg
          have hl' : j < vs.length := by rw [r1.length]; exact hl
          exact ⟨a, vs, i, j, vs[j], rfl, rfl, ha, c1, c2, by rw [r1.length]; exact hj, by simp [hl'], k _ _ (r1.eraseIdx j)⟩
        · cases hg
      · cases hg
    · cases hg
  · cases hg

/-! ### an owned list is read, and stays -/
def eLenO (i : Nat) : EF := fun ρ => match ρ[i]? with
  | some (.own (.lst xs)) => .ok (.int xs.length) ρ
  | some (.v p) => oRes (pLen [p]) ρ
  | _ => .bad
theorem v_lenO (hx : OkX X Γ) {x : Str} {p : Pos} {e : Expr} {i : Nat} (hg : Gl X x) (hm : X.mg x = none) (hv : bootBuiltins x = some (.builtin "len")) (he : PE X e (tVar i)) (hn : x ≠ "__name__" := by decide) (hdb : (x == ("__debug__" : Str)) = false := by decide)
    (hs : starEach [e] X.env = (false, eval e X.env) :: starEach [] X.env := by rfl) (hpl : (backTo pos (starEach [] X.env)).any (·.1) = false := by rfl) : PE X (.Call (.Name x p) [e] [] pos) (DE Γ (eLenO i)) := by
  have h := call_len (X := X)
  rw [hx.k] at h
  refine PE.imp (pe_callB h hg hm hv (pa_cons he pa_nil hs) hn hdb hs hpl) fun σ H Q ⟨G, ρ, ok, q⟩ => ?_
  cases hi : ρ[i]? with
  | none => simp only [eLenO, hi] at q; exact q.elim
  | some s =>
    cases s with
    | own p =>
      cases p with
      | lst xs =>
        simp only [eLenO, hi] at q
        obtain ⟨a, o, h1, h2, h3, h4, h5⟩ := ok.own i _ hi
        cases h5 with
        | lst r5 => exact ⟨_, h1, _, _, rfl, .inl ⟨_, .inl (.inl h4), rfl⟩, q _ G H (Ex.refl G) ok (by rw [r5.length]; exact .int _)⟩
      | _ => simp only [eLenO, hi] at q; exact q.elim
    | v p =>
      simp only [eLenO, hi] at q
      obtain ⟨y, h1, h2⟩ := ok.val i p hi
      cases hz : pLen [p] with
      | none => rw [hz] at q; exact q.elim
      | some z =>
        rw [hz] at q
        exact ⟨y, h1, c_len G H [y] [p] z Q ok.gH (.cons h2 .nil) hz fun v G' H' gr rv => q v G' H' gr.gG (ok.grow gr) rv⟩
    | no => simp only [eLenO, hi] at q; exact q.elim
def eInO (neg : Bool) (fa : EF) (i : Nat) : EF := fun ρ => (fa ρ).bind fun p ρ1 => match ρ1[i]? with
  | some (.own (.lst xs)) => oRes (if neg = true then pNotIn p (.lst xs) else pIn p (.lst xs)) ρ1
  | some (.v q) => oRes (if neg = true then pNotIn p q else pIn p q) ρ1
  | _ => .bad
theorem inO_some {G H : Hp} {x : V} {a : Addr} {vs : List V} {p z : PV} {xs : List PV} (gh : Ex G H) (rx : Rep Γ.K Γ.mg G x p) (ha : H a = some (.lst vs)) (rr : Reps Γ.K Γ.mg G vs xs) (hg : pIn p (.lst xs) = some z) :
    ∃ d ds, Dp Γ.K H x d ∧ Dp Γ.K H (.ref a) (.list ds) ∧ SeqAt.shaped d = true ∧ SeqAt.shaped (.list ds) = true ∧ z = .bl (ds.any fun z => PyData.eqv z d) := by
  simp only [pIn] at hg
  cases hp : toD p with
  | none => rw [hp] at hg; cases hg
  | some d =>
    rw [hp] at hg
    simp only [toD] at hg
    cases hq : toDs xs with
    | none => rw [hq] at hg; cases hg
    | some ds =>
      rw [hq] at hg
      simp only at hg
      split at hg
      · rename_i c
        obtain ⟨c1, c2⟩ := Bool.and_eq_true_iff.mp c
        cases hg
        exact ⟨d, ds, dp_mono gh (toD_dp rx hp), .lst (.inl (.inl ha)) (dps_mono gh (toDs_dp rr hq)), c1, c2, rfl⟩
      · cases hg
theorem inO_imp {fa : EF} {i : Nat} (neg : Bool) : ∀ σ H Q, DE Γ (eInO neg fa i) σ H Q → tOp (if neg = true then rNotInD Γ.K else rInD Γ.K) (DE Γ fa) (tVar i) σ H Q := fun σ H Q ⟨G, ρ, ok, q⟩ => by
  refine DX.bindI ok q fun x G1 H1 p ρ1 e1 ok1 r1 k1 => ?_
  cases hi : ρ1[i]? with
  | none => simp only [hi] at k1; exact (k1 : False).elim
  | some s =>
    cases s with
    | own p' =>
      cases p' with
      | lst xs =>
        simp only [hi] at k1
        obtain ⟨a, o, h1, h2, h3, h4, h5⟩ := ok1.own i _ hi
        cases h5 with
        | lst r5 =>
          refine ⟨_, h1, ?_⟩
          cases neg with
          | false =>
            cases hz : pIn p (.lst xs) with
            | none => simp only [hz] at k1; exact (k1 : False).elim
            | some z =>
              simp only [hz] at k1
              obtain ⟨d, ds, g1, g2, g3, g4, rfl⟩ := inO_some ok1.gH r1 h4 r5 hz
              exact ⟨d, ds, g1, g2, g3, g4, k1 _ G1 H1 (Ex.refl G1) ok1 (.bl _)⟩
          | true =>
            cases hz : pIn p (.lst xs) with
            | none => simp only [pNotIn, hz] at k1; exact (k1 : False).elim
            | some z =>
              obtain ⟨d, ds, g1, g2, g3, g4, rfl⟩ := inO_some ok1.gH r1 h4 r5 hz
              simp only [pNotIn, hz] at k1
              exact ⟨d, ds, g1, g2, g3, g4, k1 _ G1 H1 (Ex.refl G1) ok1 (.bl _)⟩
      | _ => simp only [hi] at k1; exact (k1 : False).elim
    | v q' =>
      simp only [hi] at k1
      obtain ⟨y, h1, h2⟩ := ok1.val i q' hi
      refine ⟨y, h1, ?_⟩
      cases neg with
      | false =>
        cases hz : pIn p q' with
        | none => simp only [hz] at k1; exact (k1 : False).elim
        | some z =>
          simp only [hz] at k1
          exact s_in G1 H1 x y p q' z Q ok1.gH r1 h2 hz fun v G' H' gr rv => k1 v G' H' gr.gG (ok1.grow gr) rv
      | true =>
        cases hz : pNotIn p q' with
        | none => simp only [hz] at k1; exact (k1 : False).elim
        | some z =>
          simp only [hz] at k1
          exact s_notIn G1 H1 x y p q' z Q ok1.gH r1 h2 hz fun v G' H' gr rv => k1 v G' H' gr.gG (ok1.grow gr) rv
    | no => simp only [hi] at k1; exact (k1 : False).elim
theorem v_inO (hx : OkX X Γ) {a b : Expr} {fa : EF} {i : Nat} (hu : X.A.units + 65 < cLine) (ha : PE X a (DE Γ fa)) (hb : PE X b (tVar i)) (hm : behindInMarks .In b = false) : PE X (.Compare a [.In] [b] pos) (DE Γ (eInO false fa i)) := by
  have h := pe_cmpR (pos := pos) (op_inD hu) ha hb hm
  rw [hx.k] at h
  exact PE.imp h (inO_imp false)
theorem v_notinO (hx : OkX X Γ) {a b : Expr} {fa : EF} {i : Nat} (hu : X.A.units + 65 < cLine) (ha : PE X a (DE Γ fa)) (hb : PE X b (tVar i)) (hm : behindInMarks .NotIn b = false) : PE X (.Compare a [.NotIn] [b] pos) (DE Γ (eInO true fa i)) := by
  have h := pe_cmpR (pos := pos) (op_notInD hu) ha hb hm
  rw [hx.k] at h
  exact PE.imp h (inO_imp true)
theorem t_inO (hx : OkX X Γ) {a b : Expr} {fa : EF} {i : Nat} (hu : X.A.units + 65 < cLine) (ha : PE X a (DE Γ fa)) (hb : PE X b (tVar i)) (hm : behindInMarks .In b = false) : PT X (.Compare a [.In] [b] pos) (DT Γ (tBl (eInO false fa i))) := by
  have h := pt_cmpR (pos := pos) (op_inD hu) ha hb hm
  rw [hx.k] at h
  exact t_bl h (inO_imp false)
theorem t_notinO (hx : OkX X Γ) {a b : Expr} {fa : EF} {i : Nat} (hu : X.A.units + 65 < cLine) (ha : PE X a (DE Γ fa)) (hb : PE X b (tVar i)) (hm : behindInMarks .NotIn b = false) : PT X (.Compare a [.NotIn] [b] pos) (DT Γ (tBl (eInO true fa i))) := by
  have h := pt_cmpR (pos := pos) (op_notInD hu) ha hb hm
  rw [hx.k] at h
  exact t_bl h (inO_imp true)
end
end PL
end

section
set_option Elab.async false
set_option linter.all false
set_option maxRecDepth 100000
set_option maxHeartbeats 4000000
set_option autoImplicit false
/-! repr of data: wants to know that nothing is being shown around; so a law's own def is walked from the caller that the claim tells -/
namespace PL
open PySem PySem.Spec PyProof.Rows L2
section
variable {X : Cx} {Γ : Gam} {pos : Pos}
def showOk (d : PyData) : Bool := d.showable && !d.hasDict && decide (d.shown.length ≤ 100000) && decide (d.depth ≤ 60)
def pRepr : List PV → Option PV
  | [.lst xs] => match toD (.lst xs) with
    | some d => if showOk d = true then some (.str d.shown) else none
    | none => none
  | _ => none
def rShow (K : PySem.W.Frag) : List V → Hp → VK → Prop := fun vs H Q => ∃ a d, vs = [.ref a] ∧ Dp K H (.ref a) d ∧ showOk d = true ∧ Q (.str d.shown) H
theorem cr_show (hg : X.A.guards = some []) (hu : X.A.units + 64 < cLine) : CallR X (.builtin "repr") (rShow X.K) := by
  intro pins s σ H vs us Q I r h
  obtain ⟨a, d, rfl, hd, hs, q⟩ := h
  obtain ⟨u, rfl, ru⟩ := vals1 r
  cases ru
  obtain ⟨as, rd⟩ := Dp.reads I d _ _ hd rfl
  obtain ⟨hs, h4⟩ := Bool.and_eq_true_iff.mp hs
  obtain ⟨hs, h3⟩ := Bool.and_eq_true_iff.mp hs
  obtain ⟨h1, h2⟩ := Bool.and_eq_true_iff.mp hs
  have h4 := of_decide_eq_true h4
  refine repr_of_reads' rd h1 (PyData.noDict_hsm (by simpa using h2)) hg (by omega) (fun b o e => e) (fun h' u tk hk => ⟨.str _, H, I.kept hk, ⟨u, rfl⟩, q⟩) (szOk (of_decide_eq_true h3))
theorem c_repr : CallS Γ (rShow Γ.K) pRepr := by
  intro G H vs ps z Q gh r hg k
  unfold pRepr at hg
  split at hg
  · rename_i xs
    split at hg
    · rename_i d hd
      split at hg
      · rename_i c
        obtain ⟨v, rfl, h1⟩ := reps1 r
        cases hg
        have hdp := dp_mono gh (toD_dp h1 hd)
        cases h1 with
        | lst h rr => exact ⟨_, d, rfl, hdp, c, k _ G H (Grow.refl gh) (.str _)⟩
      · cases hg
    · cases hg
  · cases hg
theorem v_repr {x : Str} {p : Pos} {e : Expr} {es : List Expr} {fa : AF} (hx : OkX X Γ) (hgd : X.A.guards = some []) (hu : X.A.units + 64 < cLine) (hg : Gl X x) (hm : X.mg x = none) (hv : bootBuiltins x = some (.builtin "repr")) (ha : PA X (e :: es) (DA Γ fa))
    (hn : x ≠ "__name__" := by decide) (hdb : (x == ("__debug__" : Str)) = false := by decide)
    (he : starEach (e :: es) X.env = (false, eval e X.env) :: starEach es X.env := by rfl) (hpl : (backTo pos (starEach es X.env)).any (·.1) = false := by rfl) : PE X (.Call (.Name x p) (e :: es) [] pos) (DE Γ (eCall pRepr fa)) := by
  have h := cr_show hgd hu
  rw [hx.k] at h
  exact v_callB h c_repr hg hm hv ha hn hdb he hpl
end

/-! ### a def that is called where nothing is being shown -/
def FnG (P : Program) (w : World) (K : PySem.W.Frag) (mg : Str → Option Value) (base : Heap) (CX : CXT) (k : Nat) (f : Addr) (fd : FuncData) (ps : List Str) (sp : Sp) : Prop :=
  ∀ (A : Around) (outer : List Env) (s : Shared) (H : Hp) (args : Args) (us : List Value) (vs : List V) (Q : VK) (E : XK), A.guards = some [] → Room k A → Env0 P w K mg base A outer s H → BindsTo s fd args (ps.zip us) → Vals vs us → sp vs H Q E →
    codeAny (model P w) A (.call (.ref f) args) (CR CX outer P w H s Q E) s
section
variable {P : Program} {w : World} {K : PySem.W.Frag} {mg : Str → Option Value} {base : Heap} {x qual : Str} {params : Arguments} {body : List Stmt} {scope : Scope} {dvs : List V} {kws : List (Str × V)} {f : Addr} {fd : FuncData}
theorem fnG_by {CX : CXT} {N ps : List Str} {k : Nat} {sp : Sp} (F : FunD K x qual params body scope dvs kws f fd) (S : FnScope N ps scope) (len : ∀ vs H Q E, sp vs H Q E → vs.length = ps.length)
    (hb : ∀ (cd : Value) (A : Around) (outer : List Env) (s : Shared) (H : Hp) (vs : List V) (Q : VK) (E : XK), A.guards = some [] → Room k (A.deeper (envOfC qual scope s.heap.objs.size f cd)) → sp vs H Q E →
      ∃ t, PSs (cxOf CX P w K mg base N qual scope f cd A outer s H E) body t ∧ t { nx := fun _ H' => Q .non H', rt := Q } (start N vs) H) : FnG P w K mg base CX (k + 1) f fd ps sp := by
  obtain ⟨oc, od, dV, kV, doc, pm, an, cd, ct, osl, e, look, hcode, _, _⟩ := F.ex
  subst e
  intro A outer s H args us vs Q E gd room env bind vals promise
  have lenEq := len _ _ _ _ promise
  have inH : K.In s.heap := env.mod.kin.keeps fun b o z => (env.bs b o z).1
  have noLim : s.heap.NoLimit := env.mod.nolimit.keeps fun b o z => (env.bs b o z).1
  refine codeAny_call_function room.depth (inH _ _ look) rfl S.co S.gen rfl (PySem.W.codeRec_of inH hcode) (bind _ _ _ _ ?_)
  refine wpAny_newFunctionEnv_cells S.kind (fun ⟨n, v⟩ hy => ?_) fun env' he s1 made => ?_
  · rcases S.par n (List.of_mem_zip hy).1 with z | z
    · exact Or.inl z
    · exact Or.inr ⟨z, PySem.W.cellsFrom_some _ _ _ (Or.inl z)⟩
  subst he
  obtain ⟨t, walk, want⟩ := hb cd A outer s H vs Q E gd (room.deeper _) promise
  have J0 := inv_start (CX := CX) (E := E) (outer := outer) S room.hd env lenEq vals made
  refine ⟨noLim.keeps made.toInCall.keep, codeAny_func (wpAny_mono (walk.run [] s1 (start N vs) H _ J0 want) (fun fl s' got => ?_) fun e s' got => got)⟩
  cases fl with
  | brk => obtain ⟨_, _, _, z⟩ := got; exact False.elim z
  | cont => obtain ⟨_, _, _, z⟩ := got; exact False.elim z
  | next => obtain ⟨σ', H', J, z⟩ := got; exact ⟨V.non, H', J.os, J.bare, J.base, J.hok, rfl, z⟩
  | ret u => obtain ⟨v, σ', H', J, rv, z⟩ := got; exact ⟨v, H', J.os, J.bare, J.base, J.hok, rv, z⟩
theorem fn_okG {N ps : List Str} {k : Nat} {ms : List Bool} {B : SF} (F : FunD K x qual params body scope dvs kws f fd) (S : FnScope N ps scope) (hms : ps.length = ms.length)
    (hb : ∀ (cdv : Value) (A : Around) (outer : List Env) (s : Shared) (H : Hp) (E : XK) (Γ : Gam), A.guards = some [] → Room k (A.deeper (envOfC qual scope s.heap.objs.size f cdv)) → OkX (cxOf (L2N.CX P w) P w K mg base N qual scope f cdv A outer s H E) Γ →
      (∀ i : Nat, ms[i]? ≠ some true → Γ.P i = none) → L2N.Takes (cxOf (L2N.CX P w) P w K mg base N qual scope f cdv A outer s H E) Γ.W → PassesOwn (model P w) (cxOf (L2N.CX P w) P w K mg base N qual scope f cdv A outer s H E).A (cxOf (L2N.CX P w) P w K mg base N qual scope f cdv A outer s H E).env (cxOf (L2N.CX P w) P w K mg base N qual scope f cdv A outer s H E).xe → PSs (cxOf (L2N.CX P w) P w K mg base N qual scope f cdv A outer s H E) body (DS Γ B)) :
    FnG P w K mg base (L2N.CX P w) (k + 1) f fd ps (spF K mg ms (runF ms N.length B)) := by
  refine fnG_by F S (fun vs H Q E h => ?_) (fun cdv A outer s H vs Q E hgd hr h => ?_)
  · obtain ⟨C, G, qs, h1, _⟩ := h
    rw [h1, hms]
  · obtain ⟨C, G, qs, h1, h2, ok, q⟩ := h
    refine ⟨DS (gamOf K mg C G ms vs E) B, hb cdv A outer s H E (gamOf K mg C G ms vs E) hgd hr ⟨rfl, rfl⟩ (fun i hi => ?_) (L2N.takes_of rfl rfl rfl rfl) (passes_of rfl), ?_⟩
    · show parOf ms vs i = none
      unfold parOf
      split
      · rename_i e _; exact absurd e hi
      · rfl
    · have okp := ok.pad (N.length - vs.length)
      refine ⟨G, _, okp, ?_⟩
      have e0 : N.length - vs.length = N.length - ms.length := by rw [h1]
      rw [e0]
      unfold runF at q
      cases hB : B (slotsOf ms qs ++ List.replicate (N.length - ms.length) .no) with
      | nx ρ' =>
        rw [hB] at q
        simp only at q
        cases ho : ownsOf ms ρ' with
        | none => rw [ho] at q; exact q.elim
        | some os => rw [ho] at q; exact fun σ' G' H' e ok' => q .non σ' G' H' ρ' e ok' ho .non
      | rt p ρ' =>
        rw [hB] at q
        simp only at q
        cases ho : ownsOf ms ρ' with
        | none => rw [ho] at q; exact q.elim
        | some os => rw [ho] at q; exact fun v σ' G' H' e ok' r => q v σ' G' H' ρ' e ok' ho r
      | ro p ρ' =>
        rw [hB] at q
        simp only at q
        cases ho : ownsOf ms ρ' with
        | none => rw [ho] at q; exact q.elim
        | some os => rw [ho] at q; exact fun a o σ' G' H' e ok' c1 c2 c3 c4 c5 => q a o σ' G' H' ρ' e ok' ho c1 c2 c3 c4 c5
      | exc c fs ρ' =>
        rw [hB] at q
        simp only at q
        cases ho : ownsOf ms ρ' with
        | none => rw [ho] at q; exact q.elim
        | some os => rw [ho] at q; exact fun C' d ws σ' G' H' hm e ok' c1 c2 => q C' d ws σ' G' H' ρ' hm e ok' ho c1 c2
      | bk ρ' => rw [hB] at q; exact q.elim
      | ct ρ' => rw [hB] at q; exact q.elim
      | bad => rw [hB] at q; exact q.elim
theorem noexcG {k : Nat} {ps : List Str} {sp : Sp} (F : FnG P w K mg base (L2N.CX P w) k f fd ps sp) : FnG P w K mg base CX0 k f fd ps (fun vs H Q _ => sp vs H Q fun _ _ _ => False) := by
  intro A outer s H args us vs Q E gd hr e0 hb hv h
  refine codeAny_mono (F A outer s H args us vs Q _ gd hr e0 hb hv h) fun r s' hq => ?_
  cases r with
  | error e =>
    obtain ⟨_, _, _, _, _, _, _, _, _, _, _, _, z⟩ := hq
    exact z.elim
  | ok fl => cases fl <;> exact hq
end
/-- the law's call, from the claim's own caller -/
theorem call_law {P : Program} {w : World} {K : PySem.W.Frag} {mg mb : Str → Option Value} {k : Nat} {fa a : Addr} {fd : FuncData} {x : Str} {sp : Sp} {s1 : Shared} {vs : List Value} {ns : List Int}
    (KX : K.In s1.heap) (hM : s1.heap.Ns mainGlobals mg) (hB : s1.heap.Ns builtinsNs mb) (hBB : ∀ y : Str, y ≠ "__name__" → mb y = bootBuiltins y) (hL : s1.heap.NoLimit) (hG : s1.gens = #[])
    (ha : s1.heap.get? a = some { cls := .type "list", data := .seq vs.toArray }) (hi : IntsAre vs ns) (hl : ns.length ≤ sizeLine) (room : Room k callerA)
    (F : ∀ base : Heap, K.In base → base.Ns mainGlobals mg → FnG P w K mg base CX0 k fa fd [x] sp) (bind : ∀ (s : Shared) (u : Value), BindsTo s fd ⟨[u], []⟩ [(x, u)])
    (want : ∀ H : Hp, Only H → SqL K H a (ns.map V.int) → sp [.ref a] H (fun v _ => v = .bl true) fun _ _ _ => False) :
    codeAny (model P w) callerA (.call (.ref fa) ⟨[.ref a], []⟩) (fun r s' => r = .ok (.ret (.bool true)) ∧ OldK s1.heap s'.heap ∧ s'.os = s1.os ∧ AllBare s'.gens) s1 := by
  have vals : Vals (ns.map V.int) vs := vals_ints hi
  have len := hi.length
  have main : ∀ H : Hp, Only H → SqL K H a (ns.map V.int) → HOk P w H s1.heap → (∀ b, b ≠ a → H b = none) → (K.lookup a = none ∨ H a = none) →
      codeAny (model P w) callerA (.call (.ref fa) ⟨[.ref a], []⟩) (fun r s' => r = .ok (.ret (.bool true)) ∧ OldK s1.heap s'.heap ∧ s'.os = s1.os ∧ AllBare s'.gens) s1 := by
    intro H only seq hok away kept
    have dictFree : ∀ {b : Addr} {o : Obj} {es : Array DictEntry} {ep : Nat}, s1.heap.get? b = some o → o.data = .dict es ep → H b = none := by
      intro b o es ep e d
      by_cases z : b = a
      · subst z
        rw [ha] at e
        cases e
        cases (show Data.seq vs.toArray _ = Data.dict es ep from d)
      · exact away b z
    have ns_ : ∀ {b : Addr} {m : Str → Option Value}, s1.heap.Ns b m → (hidT s1.heap H).Ns b m := by
      intro b m ⟨o, es, ep, e, d, r⟩
      exact ⟨o, es, ep, hidT_get e (dictFree e d), d, r⟩
    have kin : K.In (hidT s1.heap H) := by
      intro b o e
      refine hidT_get (KX b o e) ?_
      by_cases z : b = a
      · subst z
        rcases kept with q | q
        · rw [q] at e; cases e
        · exact q
      · exact away b z
    obtain ⟨mc, l1, l2⟩ := hL
    have env : Env0 P w K mg (hidT s1.heap H) callerA [] s1 H :=
      ⟨rfl, ⟨kin, ns_ hM, ⟨mb, ns_ hB, hBB⟩, ⟨mc, ns_ l1, l2⟩⟩, fun b o e => of_hidT e, Nat.le_of_eq (hidT_size _ _), trivial, fun b z => (by cases z), hok, .of_eq hG⟩
    refine codeAny_mono (F _ kin (ns_ hM) callerA [] s1 H ⟨[.ref a], []⟩ [.ref a] [.ref a] _ _ rfl room env (bind s1 (.ref a)) (.cons rfl .nil) (want H only seq)) fun r s' got => ?_
    match r, got with
    | .error e, z => exact z.elim
    | .ok .next, z => exact z.elim
    | .ok .brk, z => exact z.elim
    | .ok .cont, z => exact z.elim
    | .ok (.ret u), ⟨v, H', os, bare, un, hok', rv, (z : v = .bl true)⟩ =>
      subst z
      obtain rfl : u = Value.bool true := rv
      refine ⟨rfl, OldK.of_keep fun b o e => ?_, os, bare⟩
      rcases only b with q | ⟨ob, xs, q⟩
      · exact un.keep b o e q (by intro y; cases y) (by simp)
      · have q1 := (hok b _ q).1
        have q2 := (hok' b _ (un.frzs b ob _ q)).1
        rw [e] at q1
        cases q1
        exact q2
  cases look : K.lookup a with
  | none =>
    have at_a : (fun b : Addr => if b = a then some (HO.frz { cls := .type "list", data := .seq vs.toArray } (.lst (ns.map V.int))) else none) a = some (.frz { cls := .type "list", data := .seq vs.toArray } (.lst (ns.map V.int))) := if_pos rfl
    refine main _ (fun b => ?_) (.inl (.inr ⟨_, at_a⟩)) (fun b u z => ?_) (fun b z => if_neg z) (.inl look)
    · by_cases z : b = a
      · exact .inr ⟨_, _, if_pos z⟩
      · exact .inl (if_neg z)
    · by_cases y : b = a
      · subst y
        have z := at_a.symm.trans z
        cases z
        exact ⟨ha, by rw [List.length_map]; exact hl, vs, _, vals, ha⟩
      · have z' := (if_neg y).symm.trans z
        cases z'
  | some o =>
    have e := KX a o look
    rw [ha] at e
    cases e
    exact main (fun _ => none) (fun _ => .inl rfl) (.inr ⟨_, vs.toArray, _, look, rfl, rfl, rfl, by rw [List.size_toArray, len]; exact hl, by simpa using vals⟩) (fun b u z => nomatch z) (fun _ _ => rfl) (.inr rfl)
theorem walk_law {l : PySem.W.OpenLaw} {n k : Nat} {q : Program} {loose : List Str} {XP : (Str → Option Value) → Heap → Prop} {YP : World → Heap → Prop} {d : DefRec} {x : Str}
    (hn : l.most = some n) (hz : n ≤ sizeLine) (hdf : d.params.defaults = []) (room : Room k callerA)
    (F : ∀ (w : World) (mg : Str → Option Value) (fa : Addr) (h : Heap), YP w h → h.Ns mainGlobals mg → mg d.name = some (.ref fa) →
      ∃ (K : PySem.W.Frag) (fd : FuncData) (sp : Sp), K.In h ∧ (∀ (s : Shared) (u : Value), BindsTo s fd ⟨[u], []⟩ [(x, u)]) ∧
        (∀ (H : Hp) (a : Addr) (ns : List Int), ns.length ≤ n → Only H → SqL K H a (ns.map V.int) → sp [.ref a] H (fun v _ => v = .bl true) fun _ _ _ => False) ∧
        ∀ base : Heap, K.In base → base.Ns mainGlobals mg → FnG l.prog w K mg base CX0 k fa fd [x] sp) :
    PySem.W.WalkO q loose XP YP l.row.toRowW d [] (fun f vs => PySem.call f vs) := by
  refine Att.attach_call hn hdf fun w s0 s1 mg mb fa o pm cd doc a vs ns G Y ho hd hcd hmg hobj hints hlen hg => ?_
  obtain ⟨K, fd, sp, kin, bind, want, fns⟩ := F w mg fa _ Y G.T.g hmg
  exact call_law kin G.T.g G.T.b G.T.builtins G.T.nolimit hg hobj hints (Nat.le_trans hlen hz) room fns bind fun H only seq => want H a ns hlen only seq
end PL
end

section
set_option Elab.async false
set_option linter.all false
set_option maxRecDepth 100000
set_option maxHeartbeats 4000000
set_option autoImplicit false
/-! comprehensions and calls while an exception is handled -/
namespace PL
open PySem PySem.Spec PyProof.Rows L2 L2H HotX

section
variable {prog : Program} {w : World} {A : Around} {E : Value → Shared → Prop} {s : Shared}
theorem lastL {cur lst x1 : Addr} {n : Nat} {xs : Array Value} {Q : Option Value → Shared → Prop} (hot : HotAt A x1 s.heap) (at_ : s.heap.IsListIter cur lst n) (isL : s.heap.IsList lst xs) (ends : xs[n]? = none) (nx : cur ≠ x1)
    (fin : ∀ h', Heap.ExtBut cur s.heap h' → Q none { s with heap := h' }) : wpAny (model prog w) A (pyNext (.ref cur)) Q E s := by
  obtain ⟨ob, gob, cob, dob⟩ := id at_
  obtain ⟨ol, gol, _, nl, dol⟩ := isL
  obtain ⟨hand, o1, v1, g1, d1, c1⟩ := hot
  unfold pyNext
  refine wpAny_bind (wpAny_attempt (wpAny_callSpecial?_slot (name := Str.ofString "__next__") at_.typeIs slot_listiter_next (wpAny_call_entry slot_listiter_next at_.typeIs entry_listiter_next ?_ (args_listiter_next _))))
  show wpAny _ _ (field (.ref cur) 0 >>= _) _ _ s
  refine wpAny_bind (wpAny_field gob dob (x := .ref lst) rfl ?_); show wpAny _ _ (if (Value.ref lst == Value.none) = true then _ else _) _ _ s
  rw [if_neg (show ¬ ((Value.ref lst == Value.none) = true) from Bool.false_ne_true)]; show wpAny _ _ (field (.ref cur) 1 >>= _) _ _ s
  refine wpAny_bind (wpAny_field gob dob (x := .int n 0) rfl ?_); show wpAny _ _ (seqItems? (.ref lst) >>= _) _ _ s
  refine wpAny_bind (wpAny_seqItems gol dol ?_); simp only [Int.toNat_natCast, ends]
  refine wpAny_bind (wpAny_rule (wpAny_bind (wpAny_setField gob dob (by simp) ?_))); show wpAny _ _ (newExc (.type "StopIteration") [] >>= _) _ _ _
  refine wpAny_bind ?_; simp only [newExc, newTuple]
  refine wpAny_bind (wpAny_newObj_type ?_ (by size_fits)); refine wpAny_bind (m := firstArgMember _ _) (wpAny_of_eq (a := Value.none) (by first | rfl | (simp only [firstArgMember]; rfl)) ?_)
  have g1' : (s.heap.update cur (Obj.mapFields (·.setIfInBounds 0 .none))).get? x1 = some o1 := by rw [Heap.get?_update_other _ _ nx]; exact g1
  refine wpAny_newObj_type ?_ (by size_fits); refine raiseNew_hot (x1 := x1) ⟨hand, o1, v1, Heap.get?_push_of_some _ (Heap.get?_push_of_some _ g1'), d1, c1⟩ (Nat.ne_of_lt (Heap.lt_size (Heap.get?_push_of_some _ g1'))) (Heap.get?_push_size _ rfl) rfl (by first | (simp; done) | (simp; omega)) ?_
  refine wpAny_bind (wpAny_isInstance (T := "StopIteration") (b := true) ⟨_, Heap.get?_update_self _ (Heap.get?_push_size _ rfl) rfl, rfl⟩ isSubtype_stop ?_); refine wpAny_pure (fin _ ?_)
  intro b o hb e
  have e' : (s.heap.update cur (Obj.mapFields (·.setIfInBounds 0 .none))).get? b = some o := by rw [Heap.get?_update_other _ _ (Ne.symm hb)]; exact e
  rw [Heap.get?_update_other _ _ (Nat.ne_of_gt (Heap.lt_size (Heap.get?_push_of_some _ e')))]
  exact Heap.get?_push_of_some _ (Heap.get?_push_of_some _ e')
theorem lastT {cur lst x1 : Addr} {n : Nat} {xs : Array Value} {Q : Option Value → Shared → Prop} (hot : HotAt A x1 s.heap) (at_ : s.heap.IsTupleIter cur lst n) (isL : s.heap.IsTuple lst xs) (ends : xs[n]? = none) (nx : cur ≠ x1)
    (fin : ∀ h', Heap.ExtBut cur s.heap h' → Q none { s with heap := h' }) : wpAny (model prog w) A (pyNext (.ref cur)) Q E s := by
  obtain ⟨ob, gob, cob, dob⟩ := id at_
  obtain ⟨ol, gol, _, nl, dol⟩ := isL
  obtain ⟨hand, o1, v1, g1, d1, c1⟩ := hot
  unfold pyNext
  refine wpAny_bind (wpAny_attempt (wpAny_callSpecial?_slot (name := Str.ofString "__next__") at_.typeIs F.slot_tuple_iterator_next (wpAny_call_entry F.slot_tuple_iterator_next at_.typeIs F.entry_tuple_iterator_next ?_ (F.args_tuple_iterator_next_1 _))))
  show wpAny _ _ (field (.ref cur) 0 >>= _) _ _ s
  refine wpAny_bind (wpAny_field gob dob (x := .ref lst) rfl ?_); show wpAny _ _ (if (Value.ref lst == Value.none) = true then _ else _) _ _ s
  rw [if_neg (show ¬ ((Value.ref lst == Value.none) = true) from Bool.false_ne_true)]; show wpAny _ _ (field (.ref cur) 1 >>= _) _ _ s
  refine wpAny_bind (wpAny_field gob dob (x := .int n 0) rfl ?_); show wpAny _ _ (seqItems? (.ref lst) >>= _) _ _ s
  refine wpAny_bind (wpAny_seqItems gol dol ?_); simp only [Int.toNat_natCast, ends]
  refine wpAny_bind (wpAny_rule (wpAny_bind (wpAny_setField gob dob (by simp) ?_))); show wpAny _ _ (newExc (.type "StopIteration") [] >>= _) _ _ _
  refine wpAny_bind ?_; simp only [newExc, newTuple]
  refine wpAny_bind (wpAny_newObj_type ?_ (by size_fits)); refine wpAny_bind (m := firstArgMember _ _) (wpAny_of_eq (a := Value.none) (by first | rfl | (simp only [firstArgMember]; rfl)) ?_)
  have g1' : (s.heap.update cur (Obj.mapFields (·.setIfInBounds 0 .none))).get? x1 = some o1 := by rw [Heap.get?_update_other _ _ nx]; exact g1
  refine wpAny_newObj_type ?_ (by size_fits); refine raiseNew_hot (x1 := x1) ⟨hand, o1, v1, Heap.get?_push_of_some _ (Heap.get?_push_of_some _ g1'), d1, c1⟩ (Nat.ne_of_lt (Heap.lt_size (Heap.get?_push_of_some _ g1'))) (Heap.get?_push_size _ rfl) rfl (by first | (simp; done) | (simp; omega)) ?_
  refine wpAny_bind (wpAny_isInstance (T := "StopIteration") (b := true) ⟨_, Heap.get?_update_self _ (Heap.get?_push_size _ rfl) rfl, rfl⟩ isSubtype_stop ?_); refine wpAny_pure (fin _ ?_)
  intro b o hb e
  have e' : (s.heap.update cur (Obj.mapFields (·.setIfInBounds 0 .none))).get? b = some o := by rw [Heap.get?_update_other _ _ (Ne.symm hb)]; exact e
  rw [Heap.get?_update_other _ _ (Nat.ne_of_gt (Heap.lt_size (Heap.get?_push_of_some _ e')))]
  exact Heap.get?_push_of_some _ (Heap.get?_push_of_some _ e')
end
/-- the handled exception, apart from an address that is free -/
theorem hot_at {X : Cx} {pins : List (Addr × Obj)} {σ : L2.St} {H : Hp} {s : Shared} {b : Addr} (c : HotC X) (I : Inv X pins σ H s) (f : FpOk X pins H b) : ∃ x1, HotAt X.A x1 s.heap ∧ b ≠ x1 := by
  have ⟨p, ⟨hand, vs, d1, c1⟩, hp⟩ := c
  exact ⟨p.1, ⟨hand, p.2, vs, (I.pin p (List.mem_append_left _ hp)).1, d1, c1⟩, fun z => f.2.2.2.2.2 p (List.mem_append_left _ hp) z.symm⟩
theorem turnHL {P : Program} {w : World} {K : PySem.W.Frag} {tg : Expr} (a it : Addr) : TurnH P w K tg (Itl K a) [it] it (fun i h => h.IsListIter it a i) := by
  have T := turn_list (P := P) (w := w) (K := K) (tg := tg) a it
  refine ⟨T.mem, T.obj, T.keep, ?_, ?_, T.self⟩
  · intro X e1 e2 e3 _ i pins s σ H E I fr stands goes
    subst e1 e2 e3
    have ⟨xs, x, sq, at_⟩ := goes
    have ⟨its, rv, p, _⟩ := I.list sq
    have ⟨u, hu, ru⟩ := rv.get at_
    have ⟨f0, f1, f2, f3, f4, f5⟩ := fr it (List.mem_singleton.mpr rfl)
    apply wpAny_pyNext_list_item stands p.isList (x := u) (by simpa using hu)
    intro h' st' sb
    have J : Inv X pins σ H { s with heap := h' } := I.turned (t' := s.toks) (fun b o hb z => (sb.2 b hb).trans z) f0 f1 f3 f4 f5
    have ⟨o, eo, co, do_⟩ := st'
    refine ⟨u, rfl, go_of (s := { s with heap := h' }) eo co do_ (by decide) ⟨x, H, J, ru, ⟨rfl, ?_⟩, st', fun b hb => (fr b hb).1⟩⟩
    intro ys hy
    rw [I.list_inj hy sq]; exact at_
  · intro X e1 e2 e3 hc i pins s σ H E I fr stands goes
    subst e1 e2 e3
    have ⟨xs, sq, long⟩ := goes
    have ⟨its, rv, p, _⟩ := I.list sq
    have fit := fr it (List.mem_singleton.mpr rfl)
    have ⟨x1, hot, ne⟩ := hot_at hc I fit
    have ⟨f0, f1, f2, f3, f4, f5⟩ := fit
    have len := rv.length
    exact lastL hot stands p.isList (by simp; omega) ne fun h' eb => ⟨rfl, I.turned (t' := s.toks) (fun b o hb z => eb b o hb z) f0 f1 f3 f4 f5⟩
theorem turnHT {P : Program} {w : World} {K : PySem.W.Frag} {tg : Expr} (a it : Addr) : TurnH P w K tg (Itt K a) [it] it (fun i h => h.IsTupleIter it a i) := by
  have T := turn_tuple (P := P) (w := w) (K := K) (tg := tg) a it
  refine ⟨T.mem, T.obj, T.keep, ?_, ?_, T.self⟩
  · intro X e1 e2 e3 _ i pins s σ H E I fr stands goes
    subst e1 e2 e3
    have ⟨xs, x, sq, at_⟩ := goes
    have ⟨its, rv, p, _⟩ := I.tuple sq
    have ⟨u, hu, ru⟩ := rv.get at_
    have ⟨f0, f1, f2, f3, f4, f5⟩ := fr it (List.mem_singleton.mpr rfl)
    apply wpAny_pyNext_tuple_item stands (show s.heap.IsTuple a its.toArray from p) (x := u) (by simpa using hu)
    intro h' st' sb
    have J : Inv X pins σ H { s with heap := h' } := I.turned (t' := s.toks) (fun b o hb z => (sb.2 b hb).trans z) f0 f1 f3 f4 f5
    have ⟨o, eo, co, do_⟩ := st'
    refine ⟨u, rfl, go_of (s := { s with heap := h' }) eo co do_ (by decide) ⟨x, H, J, ru, ⟨rfl, ?_⟩, st', fun b hb => (fr b hb).1⟩⟩
    intro ys hy
    rw [I.tuple_inj hy sq]; exact at_
  · intro X e1 e2 e3 hc i pins s σ H E I fr stands goes
    subst e1 e2 e3
    have ⟨xs, sq, long⟩ := goes
    have ⟨its, rv, p, _⟩ := I.tuple sq
    have fit := fr it (List.mem_singleton.mpr rfl)
    have ⟨x1, hot, ne⟩ := hot_at hc I fit
    have ⟨f0, f1, f2, f3, f4, f5⟩ := fit
    have len := rv.length
    exact lastT hot stands (show s.heap.IsTuple a its.toArray from p) (by simp; omega) ne fun h' eb => ⟨rfl, I.turned (t' := s.toks) (fun b o hb z => eb b o hb z) f0 f1 f3 f4 f5⟩
section
variable {X : Cx} {Γ : Gam} {tg e : Expr}
theorem piH_list {tl : TE} (hl : PE X e tl) : PIH X tg e (iList X.K tl) := by
  constructor
  intro pn st env hp0 R inv want
  apply thn (hl.run pn st env hp0 _ inv want)
  rintro v s1 ⟨x, H1, J, rel, a, rfl, ⟨xs, sq⟩, q⟩
  cases rel
  have ⟨its, rv, p, _⟩ := J.list sq
  apply wpAny_pyIter_list p.isList
  refine ⟨s1.heap.objs.size, [s1.heap.objs.size], _, _, H1, rfl, J.kept (t' := s1.toks) fun b o z => Heap.get?_push_of_some _ z, turnHL a _, ⟨_, Heap.get?_push_size _ rfl, rfl, rfl⟩, ?_, q⟩
  intro b hb
  rw [List.mem_singleton.mp hb]
  exact J.fpOk (Nat.le_refl _) (J.hok.fresh (Nat.le_refl _))
theorem piH_tup {tl : TE} (hl : PE X e tl) : PIH X tg e (iTup X.K tl) := by
  constructor
  intro pn st env hp0 R inv want
  apply thn (hl.run pn st env hp0 _ inv want)
  rintro v s1 ⟨x, H1, J, rel, a, rfl, ⟨xs, sq⟩, q⟩
  cases rel
  have ⟨its, rv, p, _⟩ := J.tuple sq
  apply wpAny_pyIter_tuple (show s1.heap.IsTuple a its.toArray from p)
  refine ⟨s1.heap.objs.size, [s1.heap.objs.size], _, _, H1, rfl, J.kept (t' := s1.toks) fun b o z => Heap.get?_push_of_some _ z, turnHT a _, ⟨_, Heap.get?_push_size _ rfl, rfl, rfl⟩, ?_, q⟩
  intro b hb
  rw [List.mem_singleton.mp hb]
  exact J.fpOk (Nat.le_refl _) (J.hok.fresh (Nat.le_refl _))
theorem piH_or {t u t' : TI} (h : PIH X tg e t) (h2 : PIH X tg e u) (i : ∀ σ H R, t' σ H R → t σ H R ∨ u σ H R) : PIH X tg e t' := by
  constructor
  intro pn st env hp0 R inv want
  rcases i env hp0 R want with q | q
  · exact h.run pn st env hp0 R inv q
  · exact h2.run pn st env hp0 R inv q
end
end PL
end

section
set_option Elab.async false
set_option linter.all false
set_option maxRecDepth 100000
set_option maxHeartbeats 4000000
set_option autoImplicit false
/-! comprehensions and calls while an exception is handled: the block -/
namespace PL
open PySem PySem.Spec PyProof.Rows L2 L2H HotX
/-- a comprehension's block that bears the handled exception -/
abbrev blkH (X : Cx) (s : Shared) (H : Hp) (scope : Scope) (cenv : Env) (fp : List Addr) (p : Addr × Obj) : Cx := { X.blk s H scope cenv fp with pn := [p] }
section
variable {X : Cx} {s0 : Shared} {H0 : Hp} {scope : Scope} {cenv : Env} {fp : List Addr} {p : Addr × Obj}
theorem okToH (k : (X.blk s0 H0 scope cenv fp).Ok) : (blkH X s0 H0 scope cenv fp p).Ok := ⟨k.mod, k.kind, k.glob, k.blt, k.above, k.inj, k.has, k.cab, k.hd, k.frames, k.stk, k.exf, k.bs, k.bsz, k.noex, k.exfs, k.funs, k.frf⟩
theorem invToH {σ : L2.St} {H : Hp} {s : Shared} (I : Inv (X.blk s0 H0 scope cenv fp) [p] σ H s) : Inv (blkH X s0 H0 scope cenv fp p) [] σ H s := ⟨okToH I.ok, I.os, I.bare, I.base, I.loc, I.cell, I.free, I.freeC, I.pin, I.hok, I.len⟩
end
section
variable {X : Cx}
theorem lcH_core {pn : List (Addr × Obj)} {s : Shared} {σ : L2.St} {H : Hp} {Q : VK} {elt tg iter : Expr} {ifs : List Expr} {scope : Scope} {own : List (Str × Nat)} {pos pos' : Pos} {wi : TI} {g : TG} {tt : TT} {te : TE} {use : Option (Value → Sem Unit)} {Qf : Value → Shared → Prop}
    (hc : HotC X) (nd : X.N.Nodup) (I : Inv X pn σ H s) (hi : PIH X tg iter wi) (ok : BlkOk X.N X.env.scope scope own)
    (hb : ∀ (s : Shared) (H : Hp) (C : Addr) (cl : List (Str × Addr)) (fp : List Addr) (p : Addr × Obj), Hot1 X.A p → PG (blkH X s H scope (compEnvC scope cl C X.env) fp p) tg g ∧ PTs (blkH X s H scope (compEnvC scope cl C X.env) fp p) ifs tt ∧ PE (blkH X s H scope (compEnvC scope cl C X.env) fp p) elt te)
    (fold : ∀ x, foldedSetIterable iter X.env x = pure x) (want : tLc wi g tt te (own.map (·.2)) σ H Q)
    (rest : ∀ D C s' m H', Inv X pn σ H' s' → Q (.ref D) H' → s'.heap.Ns C m → FpOk X pn H' C → compPost (model X.prog X.w) X.A X.xe use Qf (.ref D) C (.ok .next) s') :
    wpAny (model X.prog X.w) X.A (comprehension (.ListComp elt [⟨tg, iter, ifs, 0⟩] scope pos) scope X.env pos' (newList []) false (eval iter X.env) use) Qf X.xe s := by
  have clo : ∀ y ∈ scope.names, y.2 = .free → ∃ c, X.env.cells.lookup y.1 = some c := by
    intro y hy z
    rcases ok.free y hy z with k | k
    · exact I.ok.has _ (.inl k)
    · exact I.ok.has _ (.inr k)
  have ⟨p, hot, hp⟩ := hc
  refine wpAny_comprehension_free (use := use) rfl fold (closure_ok clo) ok.kind (fun y hy z => by rw [ok.uniq y hy, z]) ?_
  refine thn (hi.run pn s σ H _ I want) fun xv s1 q1 => thn q1 ?_
  rintro itv s2 ⟨it, fp, tn, J, H2, rfl, I2, T, st2, f2, q2⟩
  refine wpAny_newObj_type (newEnv_comp ?_) (by show 0 ≤ sizeLine; decide)
  generalize hD : s2.heap.objs.size = D
  have nD : H2 D = none := I2.hok.fresh (Nat.le_of_eq hD)
  have ⟨W, ⟨m0, w0⟩, turn⟩ := q2 D nD
  generalize hs3 : ({ s2 with heap := s2.heap.push { cls := .type "list", data := .seq ([] : List Value).toArray } } : Shared) = s3
  have h3 : s3.heap = s2.heap.push { cls := .type "list", data := .seq ([] : List Value).toArray } := by subst hs3; rfl
  have at3 : s3.heap.get? D = some { cls := .type "list", data := .seq ([] : List Value).toArray } := by rw [h3, ← hD]; exact Heap.get?_push_size _ rfl
  have I3 : Inv X pn σ (upd H2 D (.lst [])) s3 := by
    subst hs3
    exact I2.laid (t' := s2.toks) (fun b o z => Heap.get?_push_of_some _ z) (Nat.le_of_eq hD) ⟨Nat.zero_le _, [], 0, .nil, at3⟩
  have low : ∀ b ∈ fp, b < s2.heap.objs.size := by
    intro b hb
    have ⟨o, z, _⟩ := T.obj _ _ st2 b hb
    exact Heap.lt_size z
  have f3 : ∀ b ∈ fp, FpOk X pn (upd H2 D (.lst [])) b ∧ b < s3.heap.objs.size := by
    intro b hb
    have lt := low b hb
    refine ⟨⟨?_, (f2 b hb).2⟩, by rw [h3, Heap.size_push]; exact Nat.lt_succ_of_lt lt⟩
    rw [upd_ne (by rw [← hD]; exact Nat.ne_of_lt lt)]; exact (f2 b hb).1
  have st3 : tn 0 s3.heap := T.keep _ _ _ st2 fun b _ o z => by rw [h3]; exact Heap.get?_push_of_some _ z
  have I4 := block_start I3 ok nd f3
  have ⟨pg, pt, pe⟩ := hb s3 (upd H2 D (.lst [])) s3.heap.objs.size (cellsFrom (s3.heap.objs.size + 1) scope.names (cloFrom X.env.cells scope.names [])) fp p hot
  show codeAny _ _ (.compStart (.ListComp elt [⟨tg, iter, ifs, 0⟩] scope pos) 0 (.ref it) (.ref D) (compEnvC scope (cellsFrom (s3.heap.objs.size + 1) scope.names (cloFrom X.env.cells scope.names [])) s3.heap.objs.size X.env)) (compPost (model X.prog X.w) X.A X.xe use Qf (.ref D) s3.heap.objs.size) { s3 with heap := pushCells (s3.heap.push { cls := .type "dict", data := .dict #[] }) scope.names }
  have nfp : ∀ b ∈ fp, (upd H2 D (.lst [])) b = none := fun b hb => (f3 b hb).1.1
  generalize hce : compEnvC scope (cellsFrom (s3.heap.objs.size + 1) scope.names (cloFrom X.env.cells scope.names [])) s3.heap.objs.size X.env = ce at I4 pg pt pe ⊢
  have cL : ce.locals = s3.heap.objs.size := by subst hce; rfl
  generalize hH3 : upd H2 D (.lst []) = H3 at I3 I4 pg pt pe w0 nfp f3
  have kp : ∀ b o, s3.heap.get? b = some o → (pushCells (s3.heap.push { cls := .type "dict", data := .dict #[] }) scope.names).get? b = some o := fun b o z => pushCells_keeps _ _ _ _ (Heap.get?_push_of_some _ z)
  generalize hs4 : ({ s3 with heap := pushCells (s3.heap.push { cls := .type "dict", data := .dict #[] }) scope.names } : Shared) = s4 at I4 ⊢
  have kp4 : ∀ b o, s3.heap.get? b = some o → s4.heap.get? b = some o := by subst hs4; exact kp
  have st4 : tn 0 s4.heap := T.keep _ _ _ st3 fun b _ o z => kp4 _ _ z
  -- the handled exception stands in the block, too
  have P3 := I3.pin p (List.mem_append_left _ hp)
  have I4' : Inv (blkH X s3 H3 scope ce fp p) [] (wipe σ (own.map (·.2))) H3 s4 := by
    refine invToH (I4.pins_of fun q hq => ?_)
    rw [List.mem_singleton.mp hq]
    refine ⟨kp4 _ _ P3.1, P3.2.1, ?_, fun hm => ?_, P3.2.2.2.2⟩
    · rw [show (X.blk s3 H3 scope ce fp).env.locals = s3.heap.objs.size from cL]
      exact Nat.ne_of_lt (Heap.lt_size P3.1)
    · exact (List.mem_cons.mp (I3.stkSub p.1 hm)).elim P3.2.2.1 P3.2.2.2.1
  have hcB : HotC (blkH X s3 H3 scope ce fp p) := ⟨p, hot, List.mem_singleton.mpr rfl⟩
  have stat : ∀ {σ' : L2.St} {H' : Hp} {s' : Shared}, Inv (blkH X s3 H3 scope ce fp p) [] σ' H' s' → (∀ b ∈ fp, H' b = none) → ∀ b ∈ fp, FpOk (blkH X s3 H3 scope ce fp p) [] H' b := by
    intro σ' H' s' J' hn b hb
    refine ⟨hn b hb, (J'.ok.exf b hb).1, J'.ok.exfs b hb, .inl hb, fun x c z => (J'.ok.exf b hb).2 x c z, fun q hq => ?_⟩
    have hq' : q ∈ ([p] : List (Addr × Obj)) := by simpa using hq
    rw [List.mem_singleton.mp hq']
    exact (f2 b hb).2.2.2.2.2 p (List.mem_append_left _ hp)
  have loop : codeAny (model X.prog X.w) X.A (.compLoop (.ListComp elt [⟨tg, iter, ifs, 0⟩] scope pos) 0 (.ref it) (.ref D) ce) (compPost (model X.prog X.w) X.A X.xe use Qf (.ref D) s3.heap.objs.size) s4 := by
    apply compLoop_any (fun n s' => ∃ i H', Inv (blkH X s3 H3 scope ce fp p) [] (wipe σ (own.map (·.2))) H' s' ∧ tn i s'.heap ∧ (∀ b ∈ fp, H' b = none) ∧ W i n H') _ m0 ⟨0, H3, I4', st4, nfp, w0⟩
    rintro n s5 ⟨i, H5, I5, st5, n5, w5⟩
    rcases turn i n H5 w5 with ⟨stop, qq⟩ | ⟨go, Nx, hNx, step⟩
    · have last := T.done (blkH X s3 H3 scope ce fp p) rfl rfl rfl hcB i [] s5 _ H5 (fun _ _ => False) I5 (stat I5 n5) st5 stop
      apply thnF last
      rintro r s6 ⟨rfl, I6⟩
      have I7 : Inv X pn σ H5 s6 := I3.call' (ch := fp) I6.os I6.base I6.hok I6.bare fun b hb => ⟨(f3 b hb).1.2.2.2.1, (f3 b hb).1.2.1, (f3 b hb).1.2.2.2.2.1, (f3 b hb).1.2.2.2.2.2⟩
      have gone : H5 ce.locals = none := I6.free
      have ⟨m, ns, _⟩ := I6.loc
      have ns : s6.heap.Ns ce.locals m := ns
      rw [cL] at gone ns
      exact rest D s3.heap.objs.size s6 m H5 I7 qq ns (I3.fpOk (Nat.le_refl _) gone)
    · have next := T.item (blkH X s3 H3 scope ce fp p) rfl rfl rfl hcB i [] s5 _ H5 (fun _ _ => False) I5 (stat I5 n5) st5 go
      apply thnF next
      rintro r s6 ⟨u, rfl, h6⟩
      apply thnF h6
      rintro _ s7 ⟨x, H7, I7, r7, y7, st7, n7⟩
      have I7p := I7.pinned (stat I7 n7) (T.obj _ _ st7)
      apply thnF (pg.run _ s7 _ H7 x u _ I7p r7 (step x H7 y7))
      rintro _ s8 ⟨σ8, H8, I8, hw8, q8⟩
      apply thnF (pt.run _ s8 σ8 H8 _ I8 q8)
      rintro b s9 ⟨H9, I9, q9⟩
      have again : ∀ {s' : Shared} {H' : Hp}, Inv (blkH X s3 H3 scope ce fp p) ([] ++ pinsAt fp s7.heap) σ8 H' s' → Nx H' → ∃ m, m < n ∧ ∃ i H', Inv (blkH X s3 H3 scope ce fp p) [] (wipe σ (own.map (·.2))) H' s' ∧ tn i s'.heap ∧ (∀ b ∈ fp, H' b = none) ∧ W i m H' := by
        intro s' H' J' nx
        have ⟨m', lt, w'⟩ := hNx H' nx
        have stays : ∀ b ∈ fp, ∀ o, s7.heap.get? b = some o → s'.heap.get? b = some o ∧ H' b = none := by
          intro b hb o z
          have q := J'.pin (b, o) (List.mem_append_right _ (List.mem_append_right _ (mem_pinsAt hb z)))
          exact ⟨q.1, q.2.1⟩
        have len : (wipe σ (own.map (·.2))).length = σ8.length := by rw [← hw8, wipe_length]
        refine ⟨m', lt, i + 1, H', (J'.unpinned (pins := [])).weak len (fun j v z => ?_), T.keep _ _ _ st7 fun b hb o z => (stays b hb o z).1, fun b hb => ?_, w'⟩
        · rw [← hw8] at z; exact (wipe_some z).1
        · have ⟨o, z, _⟩ := T.obj _ _ st7 b hb
          exact (stays b hb o z).2
      cases b with
      | false =>
        simp only [Bool.false_eq_true, if_false] at q9 ⊢; exact again I9 q9
      | true =>
        simp only [if_true] at q9 ⊢
        apply thnF (pe.run _ s9 σ8 H9 _ I9 q9)
        rintro z s10 ⟨yv, H10, I10, r10, acc, hD10, hz10, nx⟩
        exact app_ok (X := blkH X s3 H3 scope ce fp p) I10 hD10 hz10 r10 fun s11 I11 => again I11 nx
  apply codeAny_compStart_list loop
  exact T.self X.A 0 _ _ _ st4 loop
theorem pe_lcH {elt tg iter : Expr} {ifs : List Expr} {scope : Scope} {own : List (Str × Nat)} {pos : Pos} {wi : TI} {g : TG} {tt : TT} {te : TE} (hc : HotC X) (nd : X.N.Nodup) (hi : PIH X tg iter wi) (ok : BlkOk X.N X.env.scope scope own)
    (hb : ∀ (s : Shared) (H : Hp) (C : Addr) (cl : List (Str × Addr)) (fp : List Addr) (p : Addr × Obj), Hot1 X.A p → PG (blkH X s H scope (compEnvC scope cl C X.env) fp p) tg g ∧ PTs (blkH X s H scope (compEnvC scope cl C X.env) fp p) ifs tt ∧ PE (blkH X s H scope (compEnvC scope cl C X.env) fp p) elt te)
    (fold : ∀ x, foldedSetIterable iter X.env x = pure x := by intro _; rfl) : PE X (.ListComp elt [⟨tg, iter, ifs, 0⟩] scope pos) (tLc wi g tt te (own.map (·.2))) := by
  constructor
  intro pn st env hp0 Q inv want
  rw [eval_ListComp]
  apply lcH_core hc nd inv hi ok hb fold want
  intro D C s' m H' J q ns f
  have ⟨f0, f1, f2, f3, f4, f5⟩ := f
  exact ⟨m, ns, fun h'' sb => ⟨.ref D, H', J.turned (t' := s'.toks) (fun b o hb z => (sb.2 b hb).trans z) f0 f1 f3 f4 f5, rfl, q⟩⟩
end
/-! ### over the pure layer -/
def DIH (Γ : Gam) (f : IF) : TI := DI Γ f
section
variable {X : Cx} {Γ : Gam} {pos : Pos} {tg e : Expr}
theorem iH_seq (hx : OkX X Γ) {f : EF} (h : PE X e (DE Γ f)) : PIH X tg e (DI Γ (iSeq f)) := by
  refine piH_or (piH_list (tg := tg) h) (piH_tup (tg := tg) h) ?_
  rintro σ H R ⟨G, ρ, ok, q⟩
  unfold iSeq at q
  generalize hf : f ρ = r at q
  match r, q with
  | .bad, q => exact q.elim
  | .exc c fs ρ1, q => exact .inl ⟨G, ρ, ok, by rw [hf]; exact q⟩
  | .ok p ρ1, q =>
    cases p with
    | lst xs =>
      refine .inl ⟨G, ρ, ok, ?_⟩
      rw [hf]
      intro v G' H' e1 ok1 r1
      cases r1 with
      | lst h1 rr => exact ⟨_, rfl, ⟨_, .inl (ok1.gH.rdL h1)⟩, by rw [hx.k]; exact q _ G' H' e1 ok1 (walks_list (.inl (.inl h1)) rr)⟩
    | scr xs =>
      refine .inl ⟨G, ρ, ok, ?_⟩
      rw [hf]
      intro v G' H' e1 ok1 r1
      cases r1 with
      | scr h1 rr => exact ⟨_, rfl, ⟨_, by rw [hx.k]; exact ok1.gH.sqL h1⟩, by rw [hx.k]; exact q _ G' H' e1 ok1 (walks_list h1 rr)⟩
    | tup xs =>
      refine .inr ⟨G, ρ, ok, ?_⟩
      rw [hf]
      intro v G' H' e1 ok1 r1
      cases r1 with
      | tup h1 rr => exact ⟨_, rfl, ⟨_, by rw [hx.k]; exact ok1.gH.sqT h1⟩, by rw [hx.k]; exact q _ G' H' e1 ok1 (walks_tup h1 rr)⟩
    | _ => exact q.elim
abbrev blkHX (X : Cx) (s : Shared) (H : Hp) (scope : Scope) (C : Addr) (cl : List (Str × Addr)) (fp : List Addr) (p : Addr × Obj) : Cx := blkH X s H scope (compEnvC scope cl C X.env) fp p
theorem f_lcH {elt iter : Expr} {ifs : List Expr} {scope : Scope} {own : List (Str × Nat)} {is : List Nat} {fi : IF} {g : GF} {t : TF} {ef : EF} (hc : HotC X) (nd : X.N.Nodup) (hx : OkX X Γ) (hi : PIH X tg iter (DI Γ fi)) (ok : BlkOk X.N X.env.scope scope own) (hp : ∀ j ∈ own.map (·.2), Γ.P j = none) (his : ∀ j ∈ is, j ∈ own.map (·.2))
    (hb : ∀ (s : Shared) (H : Hp) (C : Addr) (cl : List (Str × Addr)) (fp : List Addr) (p : Addr × Obj) (Γ2 : Gam), OkX (blkHX X s H scope C cl fp p) Γ2 → Γ2.P = Γ.P → L2N.Takes (blkHX X s H scope C cl fp p) Γ2.W → HotC (blkHX X s H scope C cl fp p) →
      PG (blkHX X s H scope C cl fp p) tg (DG Γ2 is g) ∧ PTs (blkHX X s H scope C cl fp p) ifs (DT Γ2 t) ∧ PE (blkHX X s H scope C cl fp p) elt (DE Γ2 ef)) (hs : ∀ x, foldedSetIterable iter X.env x = pure x := by intro _; rfl) :
    PE X (.ListComp elt [⟨tg, iter, ifs, 0⟩] scope pos) (DF Γ (eLc (own.map (·.2)) fi g t ef)) := by
  have each := fun s H C cl fp p (hot : Hot1 X.A p) (j : Addr × HO) => hb s H C cl fp p (Γ.guard j.1 j.2) ⟨hx.k, hx.m⟩ rfl takesN0 ⟨p, hot, List.mem_singleton.mpr rfl⟩
  refine PE.imp (pe_lcH (pos := pos) hc nd hi ok (fun s H C cl fp p hot => ⟨PG.any fun j => (each s H C cl fp p hot j).1, PTs.any fun j => (each s H C cl fp p hot j).2.1, PE.any fun j => (each s H C cl fp p hot j).2.2⟩) hs) ?_
  exact f_lcI (fun _ _ _ h => h) hp his (fun D o v σ H Q h => ⟨(D, o), h⟩) (fun D o σ H Q h => ⟨(D, o), h⟩) (fun D o σ H Q h => ⟨(D, o), h⟩)
end
end PL
end

section
set_option Elab.async false
set_option linter.all false
set_option maxRecDepth 100000
set_option maxHeartbeats 4000000
set_option autoImplicit false
/-! defs that are called while an exception is handled -/
namespace PL
open PySem PySem.Spec PyProof.Rows L2 L2H HotX
theorem runF_post {K : PySem.W.Frag} {mg : Str → Option Value} {C G : Hp} {ms : List Bool} {vs : List V} {E : XK} {n : Nat} {B : SF} {qs : List PV} {Q : VK} (q : PostR (gamOf K mg C G ms vs E) ms (runF ms n B qs) G Q) :
    PostS (gamOf K mg C G ms vs E) (B (slotsOf ms qs ++ List.replicate (n - ms.length) .no)) G { nx := fun _ H' => Q .non H', rt := Q } := by
  unfold runF at q
  generalize B (slotsOf ms qs ++ List.replicate (n - ms.length) .no) = r at q
  cases r with
  | nx ρ' => simp only at q; generalize ho : ownsOf ms ρ' = o at q; cases o with
    | none => exact q.elim
    | some os => exact fun σ' G' H' z ok' => q .non σ' G' H' ρ' z ok' ho .non
  | rt p ρ' => simp only at q; generalize ho : ownsOf ms ρ' = o at q; cases o with
    | none => exact q.elim
    | some os => exact fun v σ' G' H' z ok' r => q v σ' G' H' ρ' z ok' ho r
  | ro p ρ' => simp only at q; generalize ho : ownsOf ms ρ' = o at q; cases o with
    | none => exact q.elim
    | some os => exact fun a o σ' G' H' z ok' c1 c2 c3 c4 c5 => q a o σ' G' H' ρ' z ok' ho c1 c2 c3 c4 c5
  | exc c fs ρ' => simp only at q; generalize ho : ownsOf ms ρ' = o at q; cases o with
    | none => exact q.elim
    | some os => exact fun C' d ws σ' G' H' hm z ok' c1 c2 => q C' d ws σ' G' H' ρ' hm z ok' ho c1 c2
  | bk ρ' => exact q.elim
  | ct ρ' => exact q.elim
  | bad => exact q.elim
section
variable {P : Program} {w : World} {K : PySem.W.Frag} {mg : Str → Option Value} {base : Heap} {x qual : Str} {params : Arguments} {body : List Stmt} {scope : Scope} {dvs : List V} {kws : List (Str × V)} {f : Addr} {fd : FuncData}
theorem fn_okH {N ps : List Str} {k : Nat} {ms : List Bool} {B : SF} (F : FunD K x qual params body scope dvs kws f fd) (S : FnScope N ps scope) (hms : ps.length = ms.length)
    (hb : ∀ (cdv : Value) (A : Around) (outer : List Env) (s : Shared) (H : Hp) (E : XK) (p : Addr × Obj) (Γ : Gam), RoomH k (A.deeper (envOfC qual scope s.heap.objs.size f cdv)) → OkX (cxH (L2N.CX P w) P w K mg base N qual scope f cdv A outer s H E p) Γ → (∀ i : Nat, ms[i]? ≠ some true → Γ.P i = none) →
      HotC (cxH (L2N.CX P w) P w K mg base N qual scope f cdv A outer s H E p) → PSs (cxH (L2N.CX P w) P w K mg base N qual scope f cdv A outer s H E p) body (DS Γ B)) :
    FnH P w K mg base (L2N.CX P w) (k + 1) f fd ps (spF K mg ms (runF ms N.length B)) := by
  have ⟨oc, od, dV, kV, doc, pm, an, cdv, ct, osl, efd, lk, hcd, _, _⟩ := F.ex
  subst efd
  refine fn_ofH lk hcd S ?_ ?_
  · rintro vs H Q E ⟨C, G, qs, h1, _⟩
    rw [h1, hms]
  · rintro A outer s H vs Q E p hot hr ⟨C, G, qs, h1, h2, ok, q⟩
    refine ⟨DS (gamOf K mg C G ms vs E) B, hb cdv A outer s H E p (gamOf K mg C G ms vs E) hr ⟨rfl, rfl⟩ ?_ ⟨p, hot, List.mem_singleton.mpr rfl⟩, ?_⟩
    · intro i hi
      show parOf ms vs i = none
      unfold parOf
      split
      · rename_i z _; exact absurd z hi
      · rfl
    · have okp := ok.pad (N.length - vs.length)
      rw [h1] at okp
      refine ⟨G, _, ?_, runF_post q⟩
      unfold L2.start
      rw [h1]
      exact okp
end
structure DefH (P : Program) (w : World) (K : PySem.W.Frag) (mg : Str → Option Value) (base : Heap) (k : Nat) (x : Str) (ps : List Str) (ms : List Bool) (F : FF) where
  f : Addr
  fd : FuncData
  ok : FnH P w K mg base (L2N.CX P w) k f fd ps (spF K mg ms F)
  gm : mg x = some (.ref f)
  kp : PySem.W.keepIn K (.ref f) = true
  bi : Binds K fd ps []
theorem fn_badH {P : Program} {w : World} {K : PySem.W.Frag} {mg : Str → Option Value} {base : Heap} {k : Nat} {f : Addr} {fd : FuncData} {ps : List Str} {ms : List Bool} (hl : ps.length = ms.length) : FnH P w K mg base (L2N.CX P w) k f fd ps (spF K mg ms fun _ => .bad) := by
  constructor
  · rintro vs H Q E ⟨C, G, qs, h1, _⟩
    rw [h1, hl]
  · rintro A outer s H args us vs Q E p _ _ _ _ _ _ ⟨C, G, qs, _, _, _, q⟩
    exact q.elim
def eCallH (ms : List Bool) (F : FF) (fa : AF2) : EF := fun ρ => (fa ρ).bind fun as ρ1 => noExc (callE ms F as ρ1)
section
variable {X : Cx} {Γ : Gam} {pos : Pos}
theorem v_callH {k : Nat} {x : Str} {nps : List Str} {ms : List Bool} {F : FF} {p : Pos} {e : Expr} {es : List Expr} {fa : AF2} (hx : OkX X Γ) (d : DefH X.prog X.w X.K X.mg X.base k x nps ms F) (hr : RoomH k X.A) (hc : HotC X) (hg : Gl X x) (ha : PA X (e :: es) (DA2 Γ fa))
    (hdb : (x == ("__debug__" : Str)) = false := by decide) (he : starEach (e :: es) X.env = (false, eval e X.env) :: starEach es X.env := by rfl) (hpl : (backTo pos (starEach es X.env)).any (·.1) = false := by rfl) :
    PE X (.Call (.Name x p) (e :: es) [] pos) (DE Γ (eCallH ms F fa)) := by
  refine PE.imp (pe_callH d.ok hr hc hg d.gm d.kp d.bi (E := fun _ _ _ _ => False) (fun σ pins H s e s' I got => passNo pins σ H s e s' I got) ha hdb he hpl) ?_
  rintro σ H Q ⟨G, ρ, ok, q⟩
  refine DX.bindI (rel1 := RelAs Γ σ) ok q fun vs G1 H1 as ρ1 e1 ok1 r1 h1 => ?_
  rw [hx.k, hx.m]
  have q3 : Post { Γ with W := fun _ _ _ _ => False } (Rep Γ.K Γ.mg) (callE ms F as ρ1) G1 σ Q := by
    generalize callE ms F as ρ1 = r at h1
    cases r with
    | ok p ρ3 => exact fun v G' H' z ok' r => h1 v G' H' z ok'.ofW r
    | exc _ _ _ => exact h1.elim
    | bad => exact h1
  have r1' : RelAs { Γ with W := fun _ _ _ _ => False } σ G1 vs as := by
    clear q3 h1
    induction r1 with
    | nil => exact .nil
    | cons h _ ih =>
      cases h with
      | val r => exact .cons (.val r) ih
      | own r => exact .cons (.own r) ih
  exact callE_sp (Γ := { Γ with W := fun _ _ _ _ => False }) ok1.withW r1' q3
/-- an except suite bears the handled exception -/
theorem hot_suite {a : Addr} {oe : Obj} {pn : List (Addr × Obj)} {cls : Value} {d : Option Addr} (hz : L2N.Zn cls d oe) (hf : ∃ vs, oe.data = .fields vs) : HotC (X.suite a ((a, oe) :: pn)) := by
  have ⟨vs, hv⟩ := hf
  exact ⟨(a, oe), ⟨rfl, vs, hv, hz.2.2 vs hv⟩, List.mem_cons_self⟩
theorem room_suite {k : Nat} {a : Addr} {pn : List (Addr × Obj)} (r : Room k X.A) : RoomH k (X.suite a pn).A := ⟨r.dp, r.un⟩
theorem blkPH {Γ Γ2 : Gam} {p : Nat → Prop} {α : Prop} (hΓ : Γ2.P = Γ.P) (hP : ∀ i : Nat, p i → Γ.P i = none) (k : (∀ i : Nat, p i → Γ2.P i = none) → α) : α := k (by rw [hΓ]; exact hP)
end
end PL
end

section
set_option Elab.async false
set_option linter.all false
set_option maxRecDepth 100000
set_option maxHeartbeats 4000000
set_option autoImplicit false
namespace K07
open PySem PySem.Spec PyProof.Rows L2 PL
def B__law_hand : SF := sSeq (sAsg 1 (eOp pAddA (eCall pLen (aCons (eVar 0) (aNil))) (eC (.int 53)))) (sSeq (sAsgO 2 (eLst (aNil))) (sSeq (sFor (iSeq (eVar 0)) (gN 3) (sSeq (sAsg 1 (eOp pMod (eCall pInt (aCons (eOp pAddA (eOp pMul (eVar 1) (eC (.int 1021))) (eCall pInt (aCons (eVar 3) (aNil)))) (aNil))) (eC (.int 2147483587)))) (sApp 2 (eCall pAbs (aCons (eCall pInt (aCons (eVar 3) (aNil))) (aNil)))))) (sRetO (eLst (aCons (eVar 2) (aCons (eC (.int 0)) (aCons (eC (.int 0)) (aCons (eVar 1) (aNil)))))))))
def F__law_hand : FF := runF [false] 4 B__law_hand
def B__law_mixed : SF := sSeq (sAsg 2 (eOp pMod (eCall pInt (aCons (eOp pAddA (eOp pAddA (eOp pMul (eVar 0) (eC (.int 69621))) (eOp pMul (eVar 1) (eC (.int 7907)))) (eC (.int 40503))) (aNil))) (eC (.int 2147483647)))) (sSeq (sAsg 3 (eOp pMod (eCall pInt (aCons (eOp pAddA (eOp pAddA (eOp pMul (eVar 2) (eVar 2)) (eOp pMul (eVar 1) (eC (.int 104723)))) (eOp pDiv (eVar 2) (eC (.int 131)))) (aNil))) (eC (.int 2147483629)))) (sRet (eOp pDiv (eCall pInt (aCons (eOp pMod (eCall pInt (aCons (eOp pAddA (eOp pMul (eVar 3) (eC (.int 48271))) (eOp pDiv (eVar 2) (eC (.int 7)))) (aNil))) (eC (.int 2147483579))) (aNil))) (eC (.int 32)))))
def F__law_mixed : FF := runF [false, false] 4 B__law_mixed
def B__law_take : SF := sSeq (sIf (tAn (tBl (eOp pEq (eIxS 0 (eC (.int 2))) (eC (.int 0)))) (tBl (eOp (pCmp fun i j => decide (i < j)) (eIxS 0 (eC (.int 1))) (eCall pLen (aCons (eIxS 0 (eC (.int 0))) (aNil)))))) (sSeq (sAsg 2 (eOp pIx (eIxS 0 (eC (.int 0))) (eIxS 0 (eC (.int 1))))) (sSeq (sSetI 0 (eOp pAddA (eIxS 0 (eC (.int 1))) (eC (.int 1))) (eC (.int 1))) (sSeq (sIf (tBl (eOp (pCmp fun i j => decide (i < j)) (eVar 2) (eOp pPow (eC (.int 10)) (eC (.int 18))))) (sRet (eOp pMod (eCall pInt (aCons (eCallF [false, false] F__law_mixed (bVal (eOp pMod (eCall pInt (aCons (eVar 2) (aNil))) (eC (.int 2147483647))) (bVal (eIxS 0 (eC (.int 1))) (bNil)))) (aNil))) (eVar 1))) (sPass)) (sSetI 0 (eVar 2) (eC (.int 2)))))) (sPass)) (sSeq (sIf (tBl (eOp (pCmp fun i j => decide (j < i)) (eIxS 0 (eC (.int 2))) (eC (.int 0)))) (sSeq (sAsg 3 (eIxS 0 (eC (.int 2)))) (sSeq (sSetI 0 (eOp pDiv (eCall pInt (aCons (eVar 3) (aNil))) (eVar 1)) (eC (.int 2))) (sRet (eOp pMod (eCall pInt (aCons (eVar 3) (aNil))) (eVar 1))))) (sPass)) (sSeq (sSetI 0 (eOp pMod (eCall pInt (aCons (eOp pAddA (eIxS 0 (eC (.int 3))) (eC (.int 1))) (aNil))) (eC (.int 2147483587))) (eC (.int 3))) (sRet (eOp pMod (eCall pInt (aCons (eCallF [false, false] F__law_mixed (bVal (eIxS 0 (eC (.int 3))) (bVal (eIxS 0 (eC (.int 1))) (bNil)))) (aNil))) (eVar 1)))))
def F__law_take : FF := runF [true, false] 4 B__law_take
def B_is_sequence : SF := sSeq (sIf (tNo (tTru (eIsiT ["list", "tuple"] (eVar 0)))) (sRet (eC (.bl false))) (sPass)) (sRet (eAnd (eOp (pCmp fun i j => decide (j ≤ i)) (eCall pLen (aCons (eVar 0) (aNil))) (eVar 1)) (eOr (eOp pIs (eVar 2) (eC .non)) (eOp (pCmp fun i j => decide (i ≤ j)) (eCall pLen (aCons (eVar 0) (aNil))) (eVar 2)))))
def F_is_sequence : FF := runF [false, false, false] 3 B_is_sequence
def B_is_couple : SF := sRet (eCallF [false, false, false] F_is_sequence (bVal (eVar 0) (bVal (eC (.int 2)) (bVal (eC (.int 2)) (bNil)))))
def F_is_couple : FF := runF [false] 1 B_is_couple
def B_is_whole : SF := sSeq (sIf (tOo (tNo (tTru (eCall pIsi (aCons (eVar 0) (aCons (eC (.atm (.ty "int"))) (aNil)))))) (tTru (eCall pIsi (aCons (eVar 0) (aCons (eC (.atm (.ty "bool"))) (aNil)))))) (sRet (eC (.bl false))) (sPass)) (sRet (eAnd (eOr (eOp pIs (eVar 1) (eC .non)) (eOp (pCmp fun i j => decide (j ≤ i)) (eVar 0) (eVar 1))) (eOr (eOp pIs (eVar 2) (eC .non)) (eOp (pCmp fun i j => decide (i ≤ j)) (eVar 0) (eVar 2)))))
def F_is_whole : FF := runF [false, false, false] 3 B_is_whole
def B_is_ratio : SF := sSeq (sIf (tOo (tNo (tTru (eCall pIsi (aCons (eVar 0) (aCons (eC (.atm (.ty "tuple"))) (aNil)))))) (tBl (eOp pNe (eCall pLen (aCons (eVar 0) (aNil))) (eC (.int 2))))) (sRet (eC (.bl false))) (sPass)) (sSeq (sAsgG (gTL 2 (gsC (gN 1) (gsC (gN 2) (gsN)))) (eVar 0)) (sRet (eAnd (eCallD [false, false, false] F_is_whole [PV.non, PV.non] (bVal (eVar 1) (bNil))) (eAnd (eCallD [false, false, false] F_is_whole [PV.non] (bVal (eVar 2) (bVal (eC (.int 1)) (bNil)))) (eOp pEq (eCall pGcd (aCons (eVar 1) (aCons (eVar 2) (aNil)))) (eC (.int 1)))))))
def F_is_ratio : FF := runF [false] 3 B_is_ratio
def B_is_within_bound : SF := sRet (eAnd (eCallF [false] F_is_ratio (bVal (eVar 0) (bNil))) (eAnd (eOp (pCmp fun i j => decide (i ≤ j)) (eCall pAbs (aCons (eOp pIx (eVar 0) (eC (.int 0))) (aNil))) (eVar 1)) (eOp (pCmp fun i j => decide (i ≤ j)) (eOp pIx (eVar 0) (eC (.int 1))) (eVar 1))))
def F_is_within_bound : FF := runF [false, false] 2 B_is_within_bound
def B_is_coordinate : SF := sRet (eCallF [false, false] F_is_within_bound (bVal (eVar 0) (bVal (eC (.int 1000000000000)) (bNil))))
def F_is_coordinate : FF := runF [false] 1 B_is_coordinate
def B_is_weight : SF := sRet (eAnd (eCallF [false] F_is_coordinate (bVal (eVar 0) (bNil))) (eOp (pCmp fun i j => decide (j ≤ i)) (eOp pIx (eVar 0) (eC (.int 0))) (eC (.int 0))))
def F_is_weight : FF := runF [false] 1 B_is_weight
def B_is_place : SF := sRet (eAnd (eCallF [false] F_is_couple (bVal (eVar 0) (bNil))) (eAnd (eCallF [false] F_is_coordinate (bVal (eOp pIx (eVar 0) (eC (.int 0))) (bNil))) (eCallF [false] F_is_coordinate (bVal (eOp pIx (eVar 0) (eC (.int 1))) (bNil)))))
def F_is_place : FF := runF [false] 1 B_is_place
def B_wrong_load : SF := sSeq (sIf (tNo (tTru (eCallF [false] F_is_couple (bVal (eVar 0) (bNil))))) (sRet (eC (.str "load"))) (sPass)) (sSeq (sIf (tNo (tTru (eCallF [false] F_is_weight (bVal (eOp pIx (eVar 0) (eC (.int 0))) (bNil))))) (sRet (eC (.str "weight"))) (sPass)) (sRet (eIf (tTru (eCallF [false] F_is_place (bVal (eOp pIx (eVar 0) (eC (.int 1))) (bNil)))) (eC .non) (eC (.str "place")))))
def F_wrong_load : FF := runF [false] 1 B_wrong_load
def B_load_row : SF := sRet (eTup (aCons (eOp pIx (eVar 0) (eC (.int 0))) (aCons (eCall pTuple (aCons (eOp pIx (eVar 0) (eC (.int 1))) (aNil))) (aNil))))
def F_load_row : FF := runF [false] 1 B_load_row
def B_check_loads : SF := sSeq (sIf (tNo (tTru (eCallF [false, false, false] F_is_sequence (bVal (eVar 0) (bVal (eC (.int 0)) (bVal (eC (.int 8)) (bNil))))))) (sRaise "BadLoads" ["index", "what"] (aCons (eC (.int 0)) (aCons (eC (.str "many")) (aNil)))) (sPass)) (sSeq (sFor (iArg pEnum (aCons (eVar 0) (aNil))) (gTL 2 (gsC (gN 1) (gsC (gN 2) (gsN)))) (sSeq (sAsg 3 (eCallF [false] F_wrong_load (bVal (eVar 2) (bNil)))) (sIf (tBl (eOp pNot (eVar 3) (eC .non))) (sRaise "BadLoads" ["index", "what"] (aCons (eVar 1) (aCons (eVar 3) (aNil)))) (sPass)))) (sRet (eCall pTuple (aCons (eLc [2] (iSeq (eVar 0)) (gN 2) (tYs) (eCallF [false] F_load_row (bVal (eVar 2) (bNil)))) (aNil)))))
def F_check_loads : FF := runF [false] 4 B_check_loads
def B__law_try : SF := sSeq (sTry 2 (onlyC "BadLoads") (sAsg 1 (eCallF [false] F_check_loads (bVal (eVar 0) (bNil)))) (fun fs => sAsg 1 (eLst (aCons (eXf fs "index") (aCons (eXf fs "what") (aNil)))))) (sRet (eVar 1))
def F__law_try : FF := runF [false] 3 B__law_try
def B__law_gcd : SF := sSeq (sPar 0 1 (aCons (eCall pAbs (aCons (eVar 0) (aNil))) (aCons (eCall pAbs (aCons (eVar 1) (aNil))) (aNil)))) (sSeq (sWhile (fun (ρ : PEnv) => match ρ[1]? with | some (Slot.v (PV.int j)) => j.natAbs + 1 | _ => 0) (tTru (eVar 1)) (sPar 0 1 (aCons (eVar 1) (aCons (eOp pMod (eCall pInt (aCons (eVar 0) (aNil))) (eVar 1)) (aNil))))) (sRet (eVar 0)))
def F__law_gcd : FF := runF [false, false] 2 B__law_gcd
def B__law_ratio : SF := sSeq (sAsg 2 (eCallF [false, false] F__law_gcd (bVal (eVar 0) (bVal (eVar 1) (bNil))))) (sSeq (sIf (tBl (eOp (pCmp fun i j => decide (i < j)) (eVar 1) (eC (.int 0)))) (sAsg 2 (eUn pNeg (eVar 2))) (sPass)) (sRet (eTup (aCons (eOp pDiv (eVar 0) (eVar 2)) (aCons (eOp pDiv (eVar 1) (eVar 2)) (aNil))))))
def F__law_ratio : FF := runF [false, false] 3 B__law_ratio
def B__law_plus : SF := sRet (eCallF [false, false] F__law_ratio (bVal (eOp pAddA (eOp pMul (eOp pIx (eVar 0) (eC (.int 0))) (eOp pIx (eVar 1) (eC (.int 1)))) (eOp pMul (eOp pIx (eVar 1) (eC (.int 0))) (eOp pIx (eVar 0) (eC (.int 1))))) (bVal (eOp pMul (eOp pIx (eVar 0) (eC (.int 1))) (eOp pIx (eVar 1) (eC (.int 1)))) (bNil))))
def F__law_plus : FF := runF [false, false] 2 B__law_plus
def B__law_sum : SF := sSeq (sAsg 1 (eTup (aCons (eC (.int 0)) (aCons (eC (.int 1)) (aNil))))) (sSeq (sFor (iSeq (eVar 0)) (gN 2) (sAsg 1 (eCallF [false, false] F__law_plus (bVal (eVar 1) (bVal (eVar 2) (bNil)))))) (sRet (eVar 1)))
def F__law_sum : FF := runF [false] 3 B__law_sum
def B__law_times : SF := sRet (eCallF [false, false] F__law_ratio (bVal (eOp pMul (eOp pIx (eVar 0) (eC (.int 0))) (eOp pIx (eVar 1) (eC (.int 0)))) (bVal (eOp pMul (eOp pIx (eVar 0) (eC (.int 1))) (eOp pIx (eVar 1) (eC (.int 1)))) (bNil))))
def F__law_times : FF := runF [false, false] 2 B__law_times
def B__law_centre : SF := sSeq (sAsg 1 (eCallF [false] F__law_sum (bVal (eLc [4] (iSeq (eVar 0)) (gN 4) (tYs) (eOp pIx (eVar 4) (eC (.int 0)))) (bNil)))) (sSeq (sAsg 2 (eCallF [false] F__law_sum (bVal (eLc [4] (iSeq (eVar 0)) (gN 4) (tYs) (eCallF [false, false] F__law_times (bVal (eOp pIx (eVar 4) (eC (.int 0))) (bVal (eOp pIx (eOp pIx (eVar 4) (eC (.int 1))) (eC (.int 0))) (bNil))))) (bNil)))) (sSeq (sAsg 3 (eCallF [false] F__law_sum (bVal (eLc [4] (iSeq (eVar 0)) (gN 4) (tYs) (eCallF [false, false] F__law_times (bVal (eOp pIx (eVar 4) (eC (.int 0))) (bVal (eOp pIx (eOp pIx (eVar 4) (eC (.int 1))) (eC (.int 1))) (bNil))))) (bNil)))) (sRet (eTup (aCons (eVar 1) (aCons (eVar 2) (aCons (eVar 3) (aNil))))))))
def F__law_centre : FF := runF [false] 5 B__law_centre
def B__in_lowest_terms : SF := sSeq (sAsg 2 (eCall pGcd (aCons (eVar 0) (aCons (eVar 1) (aNil))))) (sSeq (sIf (tBl (eOp (pCmp fun i j => decide (i < j)) (eVar 1) (eC (.int 0)))) (sAsg 2 (eUn pNeg (eVar 2))) (sPass)) (sRet (eTup (aCons (eOp pDiv (eVar 0) (eVar 2)) (aCons (eOp pDiv (eVar 1) (eVar 2)) (aNil))))))
def F__in_lowest_terms : FF := runF [false, false] 3 B__in_lowest_terms
def B_plus : SF := sRet (eCallF [false, false] F__in_lowest_terms (bVal (eOp pAddA (eOp pMul (eOp pIx (eVar 0) (eC (.int 0))) (eOp pIx (eVar 1) (eC (.int 1)))) (eOp pMul (eOp pIx (eVar 1) (eC (.int 0))) (eOp pIx (eVar 0) (eC (.int 1))))) (bVal (eOp pMul (eOp pIx (eVar 0) (eC (.int 1))) (eOp pIx (eVar 1) (eC (.int 1)))) (bNil))))
def F_plus : FF := runF [false, false] 2 B_plus
def B_sum_of : SF := sSeq (sAsg 1 (eC (.tup [.int 0, .int 1]))) (sSeq (sFor (iSeq (eVar 0)) (gN 2) (sAsg 1 (eCallF [false, false] F_plus (bVal (eVar 1) (bVal (eVar 2) (bNil)))))) (sRet (eVar 1)))
def F_sum_of : FF := runF [false] 3 B_sum_of
def B_total_of : SF := sRet (eCallF [false] F_sum_of (bVal (eLc [1, 2] (iSeq (eVar 0)) (gTL 2 (gsC (gN 1) (gsC (gN 2) (gsN)))) (tYs) (eVar 1)) (bNil)))
def F_total_of : FF := runF [false] 3 B_total_of
def B_times : SF := sRet (eCallF [false, false] F__in_lowest_terms (bVal (eOp pMul (eOp pIx (eVar 0) (eC (.int 0))) (eOp pIx (eVar 1) (eC (.int 0)))) (bVal (eOp pMul (eOp pIx (eVar 0) (eC (.int 1))) (eOp pIx (eVar 1) (eC (.int 1)))) (bNil))))
def F_times : FF := runF [false, false] 2 B_times
def B_moment_of : SF := sSeq (sAsg 1 (eCallF [false] F_sum_of (bVal (eLc [3, 4] (iSeq (eVar 0)) (gTL 2 (gsC (gN 3) (gsC (gN 4) (gsN)))) (tYs) (eCallF [false, false] F_times (bVal (eVar 3) (bVal (eOp pIx (eVar 4) (eC (.int 0))) (bNil))))) (bNil)))) (sSeq (sAsg 2 (eCallF [false] F_sum_of (bVal (eLc [3, 4] (iSeq (eVar 0)) (gTL 2 (gsC (gN 3) (gsC (gN 4) (gsN)))) (tYs) (eCallF [false, false] F_times (bVal (eVar 3) (bVal (eOp pIx (eVar 4) (eC (.int 1))) (bNil))))) (bNil)))) (sRet (eTup (aCons (eVar 1) (aCons (eVar 2) (aNil))))))
def F_moment_of : FF := runF [false] 5 B_moment_of
def B_over : SF := sSeq (sIf (tBl (eOp pEq (eOp pIx (eVar 1) (eC (.int 0))) (eC (.int 0)))) (sRaise "BadRatio" ["what"] (aCons (eC (.str "zero")) (aNil))) (sPass)) (sRet (eCallF [false, false] F__in_lowest_terms (bVal (eOp pMul (eOp pIx (eVar 0) (eC (.int 0))) (eOp pIx (eVar 1) (eC (.int 1)))) (bVal (eOp pMul (eOp pIx (eVar 0) (eC (.int 1))) (eOp pIx (eVar 1) (eC (.int 0)))) (bNil)))))
def F_over : FF := runF [false, false] 2 B_over
def B_centre_of : SF := sSeq (sAsg 1 (eCallF [false] F_total_of (bVal (eVar 0) (bNil)))) (sSeq (sIf (tBl (eOp pEq (eVar 1) (eC (.tup [.int 0, .int 1])))) (sRaise "NoCentre" ["many"] (aCons (eCall pLen (aCons (eVar 0) (aNil))) (aNil))) (sPass)) (sSeq (sAsgG (gTL 2 (gsC (gN 2) (gsC (gN 3) (gsN)))) (eCallF [false] F_moment_of (bVal (eVar 0) (bNil)))) (sRet (eTup (aCons (eCallF [false, false] F_over (bVal (eVar 2) (bVal (eVar 1) (bNil)))) (aCons (eCallF [false, false] F_over (bVal (eVar 3) (bVal (eVar 1) (bNil)))) (aNil)))))))
def F_centre_of : FF := runF [false] 4 B_centre_of
def B__law_middle : SF := sSeq (sTry 2 (onlyC "NoCentre") (sAsg 1 (eCallF [false] F_centre_of (bVal (eVar 0) (bNil)))) (fun fs => sAsg 1 (eLst (aCons (eC (.str "none")) (aCons (eXf fs "many") (aNil)))))) (sRet (eVar 1))
def F__law_middle : FF := runF [false] 3 B__law_middle
def B__law_spoilt : SF := sSeq (sAsg 2 (eCallF [true, false] F__law_take (bOwn 0 (bVal (eC (.int 3)) (bNil))))) (sSeq (sIf (tBl (eOp pEq (eVar 2) (eC (.int 0)))) (sRet (eLst (aCons (eC (.str "load")) (aCons (eOp pIx (eLst (aCons (eC .non) (aCons (eTup (aCons (eOp pIx (eVar 1) (eC (.int 0))) (aNil))) (aCons (eTup (aCons (eOp pIx (eVar 1) (eC (.int 0))) (aCons (eOp pIx (eVar 1) (eC (.int 1))) (aCons (eC (.int 1)) (aNil))))) (aCons (eC (.int 7)) (aNil)))))) (eCallF [true, false] F__law_take (bOwn 0 (bVal (eC (.int 4)) (bNil))))) (aNil))))) (sPass)) (sSeq (sIf (tBl (eOp pEq (eVar 2) (eC (.int 1)))) (sSeq (sAsg 3 (eOp pIx (eLst (aCons (eTup (aCons (eUn pNeg (eC (.int 1))) (aCons (eC (.int 1)) (aNil)))) (aCons (eTup (aCons (eOp pAddA (eOp pPow (eC (.int 10)) (eC (.int 12))) (eC (.int 1))) (aCons (eC (.int 1)) (aNil)))) (aCons (eTup (aCons (eC (.int 2)) (aCons (eC (.int 4)) (aNil)))) (aCons (eC (.int 1)) (aCons (eC .non) (aCons (eLst (aCons (eC (.int 1)) (aCons (eC (.int 1)) (aNil)))) (aNil)))))))) (eCallF [true, false] F__law_take (bOwn 0 (bVal (eC (.int 6)) (bNil)))))) (sRet (eLst (aCons (eC (.str "weight")) (aCons (eTup (aCons (eVar 3) (aCons (eOp pIx (eLst (aCons (eOp pIx (eVar 1) (eC (.int 1))) (aCons (eC .non) (aNil)))) (eCallF [true, false] F__law_take (bOwn 0 (bVal (eC (.int 2)) (bNil))))) (aNil)))) (aNil)))))) (sPass)) (sRet (eLst (aCons (eC (.str "place")) (aCons (eLst (aCons (eOp pIx (eVar 1) (eC (.int 0))) (aCons (eOp pIx (eLst (aCons (eC .non) (aCons (eTup (aCons (eTup (aCons (eC (.int 1)) (aCons (eC (.int 1)) (aNil)))) (aNil))) (aCons (eTup (aCons (eOp pIx (eOp pIx (eVar 1) (eC (.int 1))) (eC (.int 0))) (aCons (eC (.int 2)) (aNil)))) (aCons (eTup (aCons (eOp pIx (eOp pIx (eVar 1) (eC (.int 1))) (eC (.int 0))) (aCons (eTup (aCons (eC (.int 1)) (aCons (eOp pAddA (eOp pPow (eC (.int 10)) (eC (.int 12))) (eC (.int 1))) (aNil)))) (aNil)))) (aNil)))))) (eCallF [true, false] F__law_take (bOwn 0 (bVal (eC (.int 4)) (bNil))))) (aNil)))) (aNil)))))))
def F__law_spoilt : FF := runF [true, false] 4 B__law_spoilt
def B__law_refused : SF := sSeq (sAsgO 2 (eLc [5] (iSeq (eVar 1)) (gN 5) (tYs) (eLst (aCons (eC (.str "")) (aCons (eVar 5) (aNil)))))) (sSeq (sFor (iArg rng1 (aCons (eCallF [true, false] F__law_take (bOwn 0 (bVal (eC (.int 3)) (bNil)))) (aNil))) (gN 3) (sSeq (sAsg 4 (eCallF [true, false] F__law_take (bOwn 0 (bVal (eOp pAddA (eLenO 2) (eC (.int 1))) (bNil))))) (sSeq (sAsg 5 (eTup (aCons (eTup (aCons (eC (.int 1)) (aCons (eC (.int 2)) (aNil)))) (aCons (eTup (aCons (eTup (aCons (eC (.int 3)) (aCons (eC (.int 1)) (aNil)))) (aCons (eTup (aCons (eUn pNeg (eC (.int 4))) (aCons (eC (.int 1)) (aNil)))) (aNil)))) (aNil))))) (sMeth 2 pInsert (aCons (eVar 4) (aCons (eIf (tTru (eCallF [true, false] F__law_take (bOwn 0 (bVal (eC (.int 3)) (bNil))))) (eCallF [true, false] F__law_spoilt (bOwn 0 (bVal (eVar 5) (bNil)))) (eLst (aCons (eC (.str "")) (aCons (eVar 5) (aNil))))) (aNil))))))) (sSeq (sAsg 6 (eIf (tBl (eOp (pCmp fun i j => decide (j < i)) (eLenO 2) (eC (.int 8)))) (eLst (aCons (eC (.int 0)) (aCons (eC (.str "many")) (aNil)))) (eC .non))) (sSeq (sFor (iArg rng1 (aCons (eLenO 2) (aNil))) (gN 4) (sIf (tAn (tBl (eOp pIs (eVar 6) (eC .non))) (tTru (eOp pIx (eIxS 2 (eVar 4)) (eC (.int 0))))) (sAsg 6 (eLst (aCons (eVar 4) (aCons (eOp pIx (eIxS 2 (eVar 4)) (eC (.int 0))) (aNil))))) (sPass))) (sSeq (sAsg 7 (eCallF [false] F__law_try (bVal (eLc [8] (iSeq (eVar 2)) (gN 8) (tYs) (eOp pIx (eVar 8) (eC (.int 1)))) (bNil)))) (sRet (eIf (tTru (eVar 6)) (eOp pEq (eVar 7) (eVar 6)) (eCall pIsi (aCons (eVar 7) (aCons (eC (.atm (.ty "tuple"))) (aNil))))))))))
def F__law_refused : FF := runF [true, false] 9 B__law_refused
def B__law_bounded : SF := sSeq (sAsg 1 (eCallF [true, false] F__law_take (bOwn 0 (bVal (eC (.int 8)) (bNil))))) (sSeq (sIf (tBl (eOp (pCmp fun i j => decide (i < j)) (eVar 1) (eC (.int 6)))) (sRet (eOp pAddA (eC (.int 1)) (eCallF [true, false] F__law_take (bOwn 0 (bVal (eC (.int 4)) (bNil)))))) (sPass)) (sRet (eIf (tBl (eOp pEq (eVar 1) (eC (.int 6)))) (eOp pPow (eC (.int 10)) (eC (.int 12))) (eOp pAddA (eOp pAddA (eC (.int 1)) (eOp pMul (eCallF [true, false] F__law_take (bOwn 0 (bVal (eOp pPow (eC (.int 10)) (eC (.int 6))) (bNil)))) (eOp pPow (eC (.int 10)) (eC (.int 6))))) (eCallF [true, false] F__law_take (bOwn 0 (bVal (eOp pPow (eC (.int 10)) (eC (.int 6))) (bNil))))))))
def F__law_bounded : FF := runF [true] 2 B__law_bounded
def B__law_arm : SF := sSeq (sIf (tTru (eCallF [true, false] F__law_take (bOwn 0 (bVal (eC (.int 4)) (bNil))))) (sRet (eCallF [false, false] F__law_ratio (bVal (eOp pAddA (eC (.int 1)) (eCallF [true, false] F__law_take (bOwn 0 (bVal (eC (.int 4)) (bNil))))) (bVal (eOp pAddA (eC (.int 1)) (eCallF [true, false] F__law_take (bOwn 0 (bVal (eC (.int 3)) (bNil))))) (bNil))))) (sPass)) (sRet (eCallF [false, false] F__law_ratio (bVal (eCallF [true] F__law_bounded (bOwn 0 (bNil))) (bVal (eCallF [true] F__law_bounded (bOwn 0 (bNil))) (bNil)))))
def F__law_arm : FF := runF [true] 1 B__law_arm
def B__law_tuples (self : FF) : SF := sSeq (sIf (tTru (eCall pIsi (aCons (eVar 0) (aCons (eC (.atm (.ty "tuple"))) (aNil))))) (sRet (eNot (eLc [1] (iSeq (eVar 0)) (gN 1) (tNo (tTru (eCallF [false] self (bVal (eVar 1) (bNil))))) (eC (.int 1))))) (sPass)) (sRet (eAnd (eCall pIsi (aCons (eVar 0) (aCons (eC (.atm (.ty "int"))) (aNil)))) (eNot (eCall pIsi (aCons (eVar 0) (aCons (eC (.atm (.ty "bool"))) (aNil)))))))
def R__law_tuples : Nat → FF
  | 0 => fun _ => .bad
  | n + 1 => runF [false] 2 (B__law_tuples (R__law_tuples n))
abbrev F__law_tuples : FF := R__law_tuples 6
def B__law_coordinate : SF := sSeq (sIf (tTru (eCallF [true, false] F__law_take (bOwn 0 (bVal (eC (.int 5)) (bNil))))) (sRet (eTup (aCons (eOp pSub (eCallF [true, false] F__law_take (bOwn 0 (bVal (eC (.int 9)) (bNil)))) (eC (.int 4))) (aCons (eC (.int 1)) (aNil))))) (sPass)) (sRet (eCallF [false, false] F__law_ratio (bVal (eOp pMul (eCallF [true] F__law_bounded (bOwn 0 (bNil))) (eOp pSub (eC (.int 1)) (eOp pMul (eC (.int 2)) (eCallF [true, false] F__law_take (bOwn 0 (bVal (eC (.int 2)) (bNil))))))) (bVal (eCallF [true] F__law_bounded (bOwn 0 (bNil))) (bNil)))))
def F__law_coordinate : FF := runF [true] 1 B__law_coordinate
def B__law_near : SF := sRet (eCallF [false, false] F__law_ratio (bVal (eOp pSub (eCallF [true, false] F__law_take (bOwn 0 (bVal (eC (.int 9)) (bNil)))) (eC (.int 4))) (bVal (eIf (tTru (eCallF [true, false] F__law_take (bOwn 0 (bVal (eC (.int 4)) (bNil))))) (eC (.int 1)) (eC (.int 2))) (bNil))))
def F__law_near : FF := runF [true] 1 B__law_near
def B_one_load : SF := sRet (eTup (aCons (eTup (aCons (eCallF [false] F_total_of (bVal (eVar 0) (bNil))) (aCons (eCallF [false] F_centre_of (bVal (eVar 0) (bNil))) (aNil)))) (aNil)))
def F_one_load : FF := runF [false] 1 B_one_load
def B__law_together : SF := sSeq (sTry 2 (onlyC "NoCentre") (sAsg 1 (eCallF [false] F_one_load (bVal (eVar 0) (bNil)))) (fun fs => sAsg 1 (eLst (aCons (eC (.str "none")) (aCons (eXf fs "many") (aNil)))))) (sRet (eVar 1))
def F__law_together : FF := runF [false] 3 B__law_together
def B__law_over : SF := sRet (eCallF [false, false] F__law_ratio (bVal (eOp pMul (eOp pIx (eVar 0) (eC (.int 0))) (eOp pIx (eVar 1) (eC (.int 1)))) (bVal (eOp pMul (eOp pIx (eVar 0) (eC (.int 1))) (eOp pIx (eVar 1) (eC (.int 0)))) (bNil))))
def F__law_over : FF := runF [false, false] 2 B__law_over
def B_law : SF := sSeq (sAsgO 1 (eCallO [false] F__law_hand (bVal (eVar 0) (bNil)))) (sSeq (sAsg 2 (eCallF [true, false] F__law_take (bOwn 1 (bVal (eC (.int 9)) (bNil))))) (sSeq (sAsg 3 (eOp pEq (eCallF [true, false] F__law_take (bOwn 1 (bVal (eC (.int 3)) (bNil)))) (eC (.int 0)))) (sSeq (sAsg 4 (eOp pEq (eCallF [true, false] F__law_take (bOwn 1 (bVal (eC (.int 6)) (bNil)))) (eC (.int 0)))) (sSeq (sAsgO 5 (eLst (aNil))) (sSeq (sFor (iArg rng1 (aCons (eVar 2) (aNil))) (gN 6) (sSeq (sAsg 7 (eIf (tOo (tTru (eVar 4)) (tBl (eOp pEq (eCallF [true, false] F__law_take (bOwn 1 (bVal (eC (.int 5)) (bNil)))) (eC (.int 0))))) (eTup (aCons (eC (.int 0)) (aCons (eC (.int 1)) (aNil)))) (eCallF [true] F__law_arm (bOwn 1 (bNil))))) (sSeq (sAsg 8 (eIf (tTru (eVar 3)) (eTup (aCons (eCallF [true] F__law_coordinate (bOwn 1 (bNil))) (aCons (eCallF [true] F__law_coordinate (bOwn 1 (bNil))) (aNil)))) (eTup (aCons (eCallF [true] F__law_near (bOwn 1 (bNil))) (aCons (eCallF [true] F__law_near (bOwn 1 (bNil))) (aNil)))))) (sApp 5 (eTup (aCons (eVar 7) (aCons (eVar 8) (aNil)))))))) (sSeq (sAsg 9 (eLc [20] (iSeq (eVar 5)) (gN 20) (tYs) (eLst (aCons (eOp pIx (eVar 20) (eC (.int 0))) (aCons (eCall pList (aCons (eOp pIx (eVar 20) (eC (.int 1))) (aNil))) (aNil)))))) (sSeq (sAsg 10 (eCall pRepr (aCons (eVar 9) (aNil)))) (sSeq (sAsg 11 (eCallF [false] F__law_try (bVal (eVar 9) (bNil)))) (sSeq (sIf (tOo (tBl (eOp pNe (eVar 11) (eCall pTuple (aCons (eVar 5) (aNil))))) (tOo (tNo (tTru (eCallF [false] F__law_tuples (bVal (eVar 11) (bNil))))) (tOo (tBl (eOp pNe (eCall pRepr (aCons (eVar 9) (aNil))) (eVar 10))) (tBl (eOp pNe (eCallF [false] F__law_try (bVal (eCall pTuple (aCons (eVar 5) (aNil))) (bNil))) (eCall pTuple (aCons (eVar 5) (aNil)))))))) (sRet (eC (.bl false))) (sPass)) (sSeq (sAsgG (gTL 3 (gsC (gN 12) (gsC (gN 13) (gsC (gN 14) (gsN))))) (eCallF [false] F__law_centre (bVal (eVar 5) (bNil)))) (sSeq (sIf (tOo (tBl (eOp pNe (eCallF [false] F_total_of (bVal (eVar 9) (bNil))) (eVar 12))) (tOo (tBl (eOp pNe (eCallF [false] F_moment_of (bVal (eVar 9) (bNil))) (eTup (aCons (eVar 13) (aCons (eVar 14) (aNil)))))) (tBl (eOp pNe (eCall pRepr (aCons (eVar 9) (aNil))) (eVar 10))))) (sRet (eC (.bl false))) (sPass)) (sSeq (sAsg 15 (eCallF [false] F__law_middle (bVal (eVar 9) (bNil)))) (sSeq (sIf (tBl (eOp pEq (eVar 12) (eTup (aCons (eC (.int 0)) (aCons (eC (.int 1)) (aNil)))))) (sIf (tOo (tBl (eOp pNe (eVar 15) (eLst (aCons (eC (.str "none")) (aCons (eVar 2) (aNil)))))) (tBl (eOp pNe (eCallF [false] F__law_together (bVal (eVar 5) (bNil))) (eLst (aCons (eC (.str "none")) (aCons (eVar 2) (aNil))))))) (sRet (eC (.bl false))) (sPass)) (sSeq (sIf (tOo (tBl (eOp pNe (eVar 15) (eTup (aCons (eCallF [false, false] F__law_over (bVal (eVar 13) (bVal (eVar 12) (bNil)))) (aCons (eCallF [false, false] F__law_over (bVal (eVar 14) (bVal (eVar 12) (bNil)))) (aNil)))))) (tBl (eOp pNe (eCallF [false] F__law_together (bVal (eVar 9) (bNil))) (eTup (aCons (eTup (aCons (eVar 12) (aCons (eVar 15) (aNil)))) (aNil)))))) (sRet (eC (.bl false))) (sPass)) (sIf (tOo (tBl (eOp pNe (eCallF [false] F_total_of (bVal (eCallF [false] F_one_load (bVal (eVar 5) (bNil))) (bNil))) (eVar 12))) (tOo (tBl (eOp pNe (eCallF [false] F_moment_of (bVal (eCallF [false] F_one_load (bVal (eVar 5) (bNil))) (bNil))) (eTup (aCons (eVar 13) (aCons (eVar 14) (aNil)))))) (tNo (tTru (eCallF [false] F__law_tuples (bVal (eCallF [false] F_one_load (bVal (eVar 9) (bNil))) (bNil))))))) (sRet (eC (.bl false))) (sPass)))) (sSeq (sAsg 16 (eLc [17] (iArg rng1 (aCons (eVar 2) (aNil))) (gN 17) (tYs) (eIxS 5 (eOp pSub (eOp pSub (eVar 2) (eC (.int 1))) (eVar 17))))) (sSeq (sIf (tOo (tBl (eOp pNe (eCallF [false] F_total_of (bVal (eVar 16) (bNil))) (eVar 12))) (tOo (tBl (eOp pNe (eCallF [false] F_moment_of (bVal (eVar 16) (bNil))) (eTup (aCons (eVar 13) (aCons (eVar 14) (aNil)))))) (tBl (eOp pNe (eCallF [false] F__law_middle (bVal (eVar 16) (bNil))) (eVar 15))))) (sRet (eC (.bl false))) (sPass)) (sSeq (sFor (iArg rng1 (aCons (eVar 2) (aNil))) (gN 17) (sSeq (sAsg 18 (eOp pAddA (eSl (eVar 5) (oN) (oS (eVar 17))) (eSl (eVar 5) (oS (eOp pAddA (eVar 17) (eC (.int 1)))) (oN)))) (sSeq (sAsgG (gTL 2 (gsC (gN 7) (gsC (gN 8) (gsN)))) (eIxS 5 (eVar 17))) (sSeq (sIf (tBl (eOp pNe (eCallF [false, false] F__law_plus (bVal (eCallF [false] F_total_of (bVal (eVar 18) (bNil))) (bVal (eVar 7) (bNil)))) (eVar 12))) (sRet (eC (.bl false))) (sPass)) (sIf (tBl (eOp pNe (eCallF [false, false] F__law_plus (bVal (eOp pIx (eCallF [false] F_moment_of (bVal (eVar 18) (bNil))) (eC (.int 1))) (bVal (eCallF [false, false] F__law_times (bVal (eVar 7) (bVal (eOp pIx (eVar 8) (eC (.int 1))) (bNil)))) (bNil)))) (eVar 14))) (sRet (eC (.bl false))) (sPass)))))) (sSeq (sIf (tNo (tTru (eCallF [true, false] F__law_refused (bOwn 1 (bVal (eVar 5) (bNil)))))) (sRet (eC (.bl false))) (sPass)) (sSeq (sAsg 19 (eLc [6] (iArg rng1 (aCons (eC (.int 9)) (aNil))) (gN 6) (tYs) (eTup (aCons (eTup (aCons (eC (.int 1)) (aCons (eC (.int 1)) (aNil)))) (aCons (eTup (aCons (eTup (aCons (eVar 6) (aCons (eC (.int 1)) (aNil)))) (aCons (eTup (aCons (eC (.int 0)) (aCons (eC (.int 1)) (aNil)))) (aNil)))) (aNil)))))) (sSeq (sIf (tOo (tBl (eOp pNe (eCallF [false] F__law_try (bVal (eVar 19) (bNil))) (eLst (aCons (eC (.int 0)) (aCons (eC (.str "many")) (aNil)))))) (tOo (tBl (eOp pNe (eCallF [false] F__law_try (bVal (eSl (eVar 19) (oS (eC (.int 1))) (oN)) (bNil))) (eCall pTuple (aCons (eSl (eVar 19) (oS (eC (.int 1))) (oN)) (aNil))))) (tBl (eOp pNe (eCallF [false] F__law_try (bVal (eC (.str "")) (bNil))) (eLst (aCons (eC (.int 0)) (aCons (eC (.str "many")) (aNil)))))))) (sRet (eC (.bl false))) (sPass)) (sRet (eAnd (eOp pEq (eCallF [false] F__law_try (bVal (eC .non) (bNil))) (eLst (aCons (eC (.int 0)) (aCons (eC (.str "many")) (aNil))))) (eAnd (eOp pEq (eCallF [false] F__law_try (bVal (eLst (aNil)) (bNil))) (eTup (aNil))) (eAnd (eOp pEq (eCallF [false] F_total_of (bVal (eTup (aNil)) (bNil))) (eTup (aCons (eC (.int 0)) (aCons (eC (.int 1)) (aNil))))) (eOp pEq (eCallF [false] F_moment_of (bVal (eLst (aNil)) (bNil))) (eTup (aCons (eTup (aCons (eC (.int 0)) (aCons (eC (.int 1)) (aNil)))) (aCons (eTup (aCons (eC (.int 0)) (aCons (eC (.int 1)) (aNil)))) (aNil))))))))))))))))))))))))))))
def F_law : FF := runF [false] 21 B_law
end K07
end

section
set_option Elab.async false
set_option linter.all false
set_option maxRecDepth 100000
set_option maxHeartbeats 4000000
set_option autoImplicit false
namespace K07
open PySem PySem.Spec PyProof.Rows L2 PL
def top (i : Nat) : Stmt := PySem.Challenge.pw_wherelaid_k07_whole_loads_and_their_cent.main.body.getD i (.Pass ⟨0, 0, 0, 0⟩)
abbrev st__law_hand : Stmt := top 34
abbrev N__law_hand : List Str := ["_law_script", "_law_total", "_law_cells", "_law_cell"]
theorem sc__law_hand : FnScope N__law_hand ["_law_script"] (defScope st__law_hand) := ⟨rfl, rfl, rfl, by decide +kernel, rfl, by decide +kernel, by decide +kernel⟩
section
variable {P : Program} {w : World} {K : PySem.W.Frag} {mg : Str → Option Value} {base : Heap}
theorem ok__law_hand {fd : FuncData} (F : FunD K "_law_hand" "_law_hand" (defArgs st__law_hand) (defBody st__law_hand) (defScope st__law_hand) [] [] (He.ga K "_law_hand") fd) (n_len : mg "len" = none) (n_int : mg "int" = none) (n_abs : mg "abs" = none) :
    FnOk P w K mg base (L2N.CX P w) 1 (He.ga K "_law_hand") fd ["_law_script"] (spF K mg [false] F__law_hand) := by
  refine fn_ok F sc__law_hand rfl (fun cdv A outer s H E Γ hr hx hP tk po => ?_)
  have v0 : ∀ pos : Pos, PE (cxOf (L2N.CX P w) P w K mg base N__law_hand "_law_hand" (defScope st__law_hand) (He.ga K "_law_hand") cdv A outer s H E) (.Name "_law_script" pos) (tVar 0) := fun pos => pv 0
  have p0 := hP 0 (by decide)
  have w0 : ∀ pos : Pos, PE (cxOf (L2N.CX P w) P w K mg base N__law_hand "_law_hand" (defScope st__law_hand) (He.ga K "_law_hand") cdv A outer s H E) (.Name "_law_script" pos) (DE Γ (eVar 0)) := fun pos => v_var (v0 pos) p0
  have l_len : Gl (cxOf (L2N.CX P w) P w K mg base N__law_hand "_law_hand" (defScope st__law_hand) (He.ga K "_law_hand") cdv A outer s H E) "len" := by rfl
  have r_len : ("len" : Str) ≠ "__name__" := by decide
  have q_len : (("len" : Str) == ("__debug__" : Str)) = false := by decide
  have p1 := hP 1 (by decide)
  have p2 := hP 2 (by decide)
  have p3 := hP 3 (by decide)
  have v1 : ∀ pos : Pos, PE (cxOf (L2N.CX P w) P w K mg base N__law_hand "_law_hand" (defScope st__law_hand) (He.ga K "_law_hand") cdv A outer s H E) (.Name "_law_total" pos) (tVar 1) := fun pos => pv 1
  have w1 : ∀ pos : Pos, PE (cxOf (L2N.CX P w) P w K mg base N__law_hand "_law_hand" (defScope st__law_hand) (He.ga K "_law_hand") cdv A outer s H E) (.Name "_law_total" pos) (DE Γ (eVar 1)) := fun pos => v_var (v1 pos) p1
  have v3 : ∀ pos : Pos, PE (cxOf (L2N.CX P w) P w K mg base N__law_hand "_law_hand" (defScope st__law_hand) (He.ga K "_law_hand") cdv A outer s H E) (.Name "_law_cell" pos) (tVar 3) := fun pos => pv 3
  have w3 : ∀ pos : Pos, PE (cxOf (L2N.CX P w) P w K mg base N__law_hand "_law_hand" (defScope st__law_hand) (He.ga K "_law_hand") cdv A outer s H E) (.Name "_law_cell" pos) (DE Γ (eVar 3)) := fun pos => v_var (v3 pos) p3
  have l_int : Gl (cxOf (L2N.CX P w) P w K mg base N__law_hand "_law_hand" (defScope st__law_hand) (He.ga K "_law_hand") cdv A outer s H E) "int" := by rfl
  have r_int : ("int" : Str) ≠ "__name__" := by decide
  have q_int : (("int" : Str) == ("__debug__" : Str)) = false := by decide
  have l_abs : Gl (cxOf (L2N.CX P w) P w K mg base N__law_hand "_law_hand" (defScope st__law_hand) (He.ga K "_law_hand") cdv A outer s H E) "abs" := by rfl
  have r_abs : ("abs" : Str) ≠ "__name__" := by decide
  have q_abs : (("abs" : Str) == ("__debug__" : Str)) = false := by decide
  have v2 : ∀ pos : Pos, PE (cxOf (L2N.CX P w) P w K mg base N__law_hand "_law_hand" (defScope st__law_hand) (He.ga K "_law_hand") cdv A outer s H E) (.Name "_law_cells" pos) (tVar 2) := fun pos => pv 2
  have w2 : ∀ pos : Pos, PE (cxOf (L2N.CX P w) P w K mg base N__law_hand "_law_hand" (defScope st__law_hand) (He.ga K "_law_hand") cdv A outer s H E) (.Name "_law_cells" pos) (DE Γ (eVar 2)) := fun pos => v_var (v2 pos) p2
  refine ss_cons (s_asg (ps_set (i := 1) sc__law_hand.nd rfl (by first | exact Or.inl rfl | exact Or.inr rfl) (v_add hx (v_len hx l_len n_len (by decide +kernel) (v_cons (w0 _) v_nil star_Name) r_len q_len star_Name rfl) v_int)) p1) ?_
  refine ss_cons (s_asgO (ps_set (i := 2) sc__law_hand.nd rfl (by first | exact Or.inl rfl | exact Or.inr rfl) (f_lst v_nil)) p2) ?_
  refine ss_cons (s_for (is := [3]) (ps_for po rfl (i_seq hx (w0 _)) (g_name (pg_name sc__law_hand.nd rfl (by first | exact Or.inl rfl | exact Or.inr rfl)) p3)
 (by refine ss_cons (s_asg (ps_set (i := 1) sc__law_hand.nd rfl (by first | exact Or.inl rfl | exact Or.inr rfl) (v_op op_modN s_mod (v_callTy call_int1 c_int l_int n_int (by decide +kernel) (v_cons (v_add hx (v_op op_mulA s_mul (w1 _) v_int) (v_callTy call_int1 c_int l_int n_int (by decide +kernel) (v_cons (w3 _) v_nil star_Name) r_int q_int star_Name rfl)) v_nil star_BinOp) r_int q_int star_BinOp rfl) v_int)) p1) ?_; exact ss_one (s_app hx (ps_expr (pe_bm PySem.F.plainAttrs_list PySem.F.slot_list_append PySem.F.type_list_append mt_append (v2 _) (pa_cons (v_callB call_abs c_abs l_abs n_abs (by decide +kernel) (v_cons (v_callTy call_int1 c_int l_int n_int (by decide +kernel) (v_cons (w3 _) v_nil star_Name) r_int q_int star_Name rfl) v_nil star_Call) r_abs q_abs star_Call rfl) pa_nil))))))) ?_
  exact ss_one (s_retO (f_lst (v_cons (w2 _) (v_cons v_int (v_cons v_int (v_cons (w1 _) v_nil star_Name) star_Constant) star_Constant) star_Name)))
end
abbrev st__law_mixed : Stmt := top 35
abbrev N__law_mixed : List Str := ["_law_number", "_law_turn", "_law_once", "_law_twice"]
theorem sc__law_mixed : FnScope N__law_mixed ["_law_number", "_law_turn"] (defScope st__law_mixed) := ⟨rfl, rfl, rfl, by decide +kernel, rfl, by decide +kernel, by decide +kernel⟩
section
variable {P : Program} {w : World} {K : PySem.W.Frag} {mg : Str → Option Value} {base : Heap}
theorem ok__law_mixed {fd : FuncData} (F : FunD K "_law_mixed" "_law_mixed" (defArgs st__law_mixed) (defBody st__law_mixed) (defScope st__law_mixed) [] [] (He.ga K "_law_mixed") fd) (n_int : mg "int" = none) :
    FnOk P w K mg base (L2N.CX P w) 1 (He.ga K "_law_mixed") fd ["_law_number", "_law_turn"] (spF K mg [false, false] F__law_mixed) := by
  refine fn_ok F sc__law_mixed rfl (fun cdv A outer s H E Γ hr hx hP tk po => ?_)
  have v0 : ∀ pos : Pos, PE (cxOf (L2N.CX P w) P w K mg base N__law_mixed "_law_mixed" (defScope st__law_mixed) (He.ga K "_law_mixed") cdv A outer s H E) (.Name "_law_number" pos) (tVar 0) := fun pos => pv 0
  have p0 := hP 0 (by decide)
  have w0 : ∀ pos : Pos, PE (cxOf (L2N.CX P w) P w K mg base N__law_mixed "_law_mixed" (defScope st__law_mixed) (He.ga K "_law_mixed") cdv A outer s H E) (.Name "_law_number" pos) (DE Γ (eVar 0)) := fun pos => v_var (v0 pos) p0
  have v1 : ∀ pos : Pos, PE (cxOf (L2N.CX P w) P w K mg base N__law_mixed "_law_mixed" (defScope st__law_mixed) (He.ga K "_law_mixed") cdv A outer s H E) (.Name "_law_turn" pos) (tVar 1) := fun pos => pv 1
  have p1 := hP 1 (by decide)
  have w1 : ∀ pos : Pos, PE (cxOf (L2N.CX P w) P w K mg base N__law_mixed "_law_mixed" (defScope st__law_mixed) (He.ga K "_law_mixed") cdv A outer s H E) (.Name "_law_turn" pos) (DE Γ (eVar 1)) := fun pos => v_var (v1 pos) p1
  have l_int : Gl (cxOf (L2N.CX P w) P w K mg base N__law_mixed "_law_mixed" (defScope st__law_mixed) (He.ga K "_law_mixed") cdv A outer s H E) "int" := by rfl
  have r_int : ("int" : Str) ≠ "__name__" := by decide
  have q_int : (("int" : Str) == ("__debug__" : Str)) = false := by decide
  have p2 := hP 2 (by decide)
  have v2 : ∀ pos : Pos, PE (cxOf (L2N.CX P w) P w K mg base N__law_mixed "_law_mixed" (defScope st__law_mixed) (He.ga K "_law_mixed") cdv A outer s H E) (.Name "_law_once" pos) (tVar 2) := fun pos => pv 2
  have w2 : ∀ pos : Pos, PE (cxOf (L2N.CX P w) P w K mg base N__law_mixed "_law_mixed" (defScope st__law_mixed) (He.ga K "_law_mixed") cdv A outer s H E) (.Name "_law_once" pos) (DE Γ (eVar 2)) := fun pos => v_var (v2 pos) p2
  have p3 := hP 3 (by decide)
  have v3 : ∀ pos : Pos, PE (cxOf (L2N.CX P w) P w K mg base N__law_mixed "_law_mixed" (defScope st__law_mixed) (He.ga K "_law_mixed") cdv A outer s H E) (.Name "_law_twice" pos) (tVar 3) := fun pos => pv 3
  have w3 : ∀ pos : Pos, PE (cxOf (L2N.CX P w) P w K mg base N__law_mixed "_law_mixed" (defScope st__law_mixed) (He.ga K "_law_mixed") cdv A outer s H E) (.Name "_law_twice" pos) (DE Γ (eVar 3)) := fun pos => v_var (v3 pos) p3
  refine ss_cons (s_asg (ps_set (i := 2) sc__law_mixed.nd rfl (by first | exact Or.inl rfl | exact Or.inr rfl) (v_op op_modN s_mod (v_callTy call_int1 c_int l_int n_int (by decide +kernel) (v_cons (v_add hx (v_add hx (v_op op_mulA s_mul (w0 _) v_int) (v_op op_mulA s_mul (w1 _) v_int)) v_int) v_nil star_BinOp) r_int q_int star_BinOp rfl) v_int)) p2) ?_
  refine ss_cons (s_asg (ps_set (i := 3) sc__law_mixed.nd rfl (by first | exact Or.inl rfl | exact Or.inr rfl) (v_op op_modN s_mod (v_callTy call_int1 c_int l_int n_int (by decide +kernel) (v_cons (v_add hx (v_add hx (v_op op_mulA s_mul (w2 _) (w2 _)) (v_op op_mulA s_mul (w1 _) v_int)) (v_op op_fdivZ s_div (w2 _) v_int)) v_nil star_BinOp) r_int q_int star_BinOp rfl) v_int)) p3) ?_
  exact ss_one (s_ret (v_op op_fdivZ s_div (v_callTy call_int1 c_int l_int n_int (by decide +kernel) (v_cons (v_op op_modN s_mod (v_callTy call_int1 c_int l_int n_int (by decide +kernel) (v_cons (v_add hx (v_op op_mulA s_mul (w3 _) v_int) (v_op op_fdivZ s_div (w2 _) v_int)) v_nil star_BinOp) r_int q_int star_BinOp rfl) v_int) v_nil star_BinOp) r_int q_int star_BinOp rfl) v_int))
end
abbrev st__law_take : Stmt := top 36
abbrev N__law_take : List Str := ["_law_hand_here", "_law_many", "_law_cell", "_law_rest"]
theorem sc__law_take : FnScope N__law_take ["_law_hand_here", "_law_many"] (defScope st__law_take) := ⟨rfl, rfl, rfl, by decide +kernel, rfl, by decide +kernel, by decide +kernel⟩
section
variable {P : Program} {w : World} {K : PySem.W.Frag} {mg : Str → Option Value} {base : Heap}
theorem ok__law_take {fd : FuncData} (F : FunD K "_law_take" "_law_take" (defArgs st__law_take) (defBody st__law_take) (defScope st__law_take) [] [] (He.ga K "_law_take") fd) (n_len : mg "len" = none) (d__law_mixed : Def P w K mg base 1 "_law_mixed" ["_law_number", "_law_turn"] [false, false] F__law_mixed) (n_int : mg "int" = none) :
    FnOk P w K mg base (L2N.CX P w) 2 (He.ga K "_law_take") fd ["_law_hand_here", "_law_many"] (spF K mg [true, false] F__law_take) := by
  refine fn_ok F sc__law_take rfl (fun cdv A outer s H E Γ hr hx hP tk po => ?_)
  have v0 : ∀ pos : Pos, PE (cxOf (L2N.CX P w) P w K mg base N__law_take "_law_take" (defScope st__law_take) (He.ga K "_law_take") cdv A outer s H E) (.Name "_law_hand_here" pos) (tVar 0) := fun pos => pv 0
  have l_len : Gl (cxOf (L2N.CX P w) P w K mg base N__law_take "_law_take" (defScope st__law_take) (He.ga K "_law_take") cdv A outer s H E) "len" := by rfl
  have r_len : ("len" : Str) ≠ "__name__" := by decide
  have q_len : (("len" : Str) == ("__debug__" : Str)) = false := by decide
  have p2 := hP 2 (by decide)
  have v2 : ∀ pos : Pos, PE (cxOf (L2N.CX P w) P w K mg base N__law_take "_law_take" (defScope st__law_take) (He.ga K "_law_take") cdv A outer s H E) (.Name "_law_cell" pos) (tVar 2) := fun pos => pv 2
  have w2 : ∀ pos : Pos, PE (cxOf (L2N.CX P w) P w K mg base N__law_take "_law_take" (defScope st__law_take) (He.ga K "_law_take") cdv A outer s H E) (.Name "_law_cell" pos) (DE Γ (eVar 2)) := fun pos => v_var (v2 pos) p2
  have l_int : Gl (cxOf (L2N.CX P w) P w K mg base N__law_take "_law_take" (defScope st__law_take) (He.ga K "_law_take") cdv A outer s H E) "int" := by rfl
  have r_int : ("int" : Str) ≠ "__name__" := by decide
  have q_int : (("int" : Str) == ("__debug__" : Str)) = false := by decide
  have hr1 := hr.mono (show 1 ≤ 1 by decide)
  have l__law_mixed : Gl (cxOf (L2N.CX P w) P w K mg base N__law_take "_law_take" (defScope st__law_take) (He.ga K "_law_take") cdv A outer s H E) "_law_mixed" := by rfl
  have q__law_mixed : (("_law_mixed" : Str) == ("__debug__" : Str)) = false := by decide
  have v1 : ∀ pos : Pos, PE (cxOf (L2N.CX P w) P w K mg base N__law_take "_law_take" (defScope st__law_take) (He.ga K "_law_take") cdv A outer s H E) (.Name "_law_many" pos) (tVar 1) := fun pos => pv 1
  have p1 := hP 1 (by decide)
  have w1 : ∀ pos : Pos, PE (cxOf (L2N.CX P w) P w K mg base N__law_take "_law_take" (defScope st__law_take) (He.ga K "_law_take") cdv A outer s H E) (.Name "_law_many" pos) (DE Γ (eVar 1)) := fun pos => v_var (v1 pos) p1
  have p3 := hP 3 (by decide)
  have v3 : ∀ pos : Pos, PE (cxOf (L2N.CX P w) P w K mg base N__law_take "_law_take" (defScope st__law_take) (He.ga K "_law_take") cdv A outer s H E) (.Name "_law_rest" pos) (tVar 3) := fun pos => pv 3
  have w3 : ∀ pos : Pos, PE (cxOf (L2N.CX P w) P w K mg base N__law_take "_law_take" (defScope st__law_take) (He.ga K "_law_take") cdv A outer s H E) (.Name "_law_rest" pos) (DE Γ (eVar 3)) := fun pos => v_var (v3 pos) p3
  refine ss_cons (s_if (PW.pt (w_and (t_eq hx hr.units (v_ixS hx (v0 _) v_int (fun _ _ => rfl)) v_int rfl) (w_and1 (t_cmp op_lt s_cmp (v_ixS hx (v0 _) v_int (fun _ _ => rfl)) (v_len hx l_len n_len (by decide +kernel) (v_cons (v_ixS hx (v0 _) v_int (fun _ _ => rfl)) v_nil star_Subscript) r_len q_len star_Subscript rfl) rfl))))
 (by refine ss_cons (s_asg (ps_set (i := 2) sc__law_take.nd rfl (by first | exact Or.inl rfl | exact Or.inr rfl) (v_ix hx (v_ixS hx (v0 _) v_int (fun _ _ => rfl)) (v_ixS hx (v0 _) v_int (fun _ _ => rfl)) (fun _ _ => rfl))) p2) ?_; refine ss_cons (s_setI (ps_asg (v_add hx (v_ixS hx (v0 _) v_int (fun _ _ => rfl)) v_int) (pg_sub (v0 _) v_int set_list))) ?_; refine ss_cons (s_if (t_cmp op_lt s_cmp (w2 _) (v_op op_pow s_pow v_int v_int) rfl)
 (by exact ss_one (s_ret (v_op op_modN s_mod (v_callTy call_int1 c_int l_int n_int (by decide +kernel) (v_cons (v_call hx tk d__law_mixed hr1 l__law_mixed (b_val (v_op op_modN s_mod (v_callTy call_int1 c_int l_int n_int (by decide +kernel) (v_cons (w2 _) v_nil star_Name) r_int q_int star_Name rfl) v_int) (b_val (v_ixS hx (v0 _) v_int (fun _ _ => rfl)) b_nil star_Subscript) star_BinOp) q__law_mixed star_BinOp rfl) v_nil star_Call) r_int q_int star_Call rfl) (w1 _))))
 ss_nil) ?_; exact ss_one (s_setI (ps_asg (w2 _) (pg_sub (v0 _) v_int set_list))))
 ss_nil) ?_
  refine ss_cons (s_if (t_cmp op_gt s_cmp (v_ixS hx (v0 _) v_int (fun _ _ => rfl)) v_int rfl)
 (by refine ss_cons (s_asg (ps_set (i := 3) sc__law_take.nd rfl (by first | exact Or.inl rfl | exact Or.inr rfl) (v_ixS hx (v0 _) v_int (fun _ _ => rfl))) p3) ?_; refine ss_cons (s_setI (ps_asg (v_op op_fdivZ s_div (v_callTy call_int1 c_int l_int n_int (by decide +kernel) (v_cons (w3 _) v_nil star_Name) r_int q_int star_Name rfl) (w1 _)) (pg_sub (v0 _) v_int set_list))) ?_; exact ss_one (s_ret (v_op op_modN s_mod (v_callTy call_int1 c_int l_int n_int (by decide +kernel) (v_cons (w3 _) v_nil star_Name) r_int q_int star_Name rfl) (w1 _))))
 ss_nil) ?_
  refine ss_cons (s_setI (ps_asg (v_op op_modN s_mod (v_callTy call_int1 c_int l_int n_int (by decide +kernel) (v_cons (v_add hx (v_ixS hx (v0 _) v_int (fun _ _ => rfl)) v_int) v_nil star_BinOp) r_int q_int star_BinOp rfl) v_int) (pg_sub (v0 _) v_int set_list))) ?_
  exact ss_one (s_ret (v_op op_modN s_mod (v_callTy call_int1 c_int l_int n_int (by decide +kernel) (v_cons (v_call hx tk d__law_mixed hr1 l__law_mixed (b_val (v_ixS hx (v0 _) v_int (fun _ _ => rfl)) (b_val (v_ixS hx (v0 _) v_int (fun _ _ => rfl)) b_nil star_Subscript) star_Subscript) q__law_mixed star_Subscript rfl) v_nil star_Call) r_int q_int star_Call rfl) (w1 _)))
end
abbrev st_is_sequence : Stmt := top 20
abbrev N_is_sequence : List Str := ["thing", "low", "high"]
theorem sc_is_sequence : FnScope N_is_sequence ["thing", "low", "high"] (defScope st_is_sequence) := ⟨rfl, rfl, rfl, by decide +kernel, rfl, by decide +kernel, by decide +kernel⟩
section
variable {P : Program} {w : World} {K : PySem.W.Frag} {mg : Str → Option Value} {base : Heap}
theorem ok_is_sequence {fd : FuncData} (F : FunD K "is_sequence" "is_sequence" (defArgs st_is_sequence) (defBody st_is_sequence) (defScope st_is_sequence) [V.int 0, V.non] [] (He.ga K "is_sequence") fd) (n_tuple : mg "tuple" = none) (n_list : mg "list" = none) (n_isinstance : mg "isinstance" = none) (n_len : mg "len" = none) :
    FnOk P w K mg base (L2N.CX P w) 1 (He.ga K "is_sequence") fd ["thing", "low", "high"] (spF K mg [false, false, false] F_is_sequence) := by
  refine fn_ok F sc_is_sequence rfl (fun cdv A outer s H E Γ hr hx hP tk po => ?_)
  have v0 : ∀ pos : Pos, PE (cxOf (L2N.CX P w) P w K mg base N_is_sequence "is_sequence" (defScope st_is_sequence) (He.ga K "is_sequence") cdv A outer s H E) (.Name "thing" pos) (tVar 0) := fun pos => pv 0
  have p0 := hP 0 (by decide)
  have w0 : ∀ pos : Pos, PE (cxOf (L2N.CX P w) P w K mg base N_is_sequence "is_sequence" (defScope st_is_sequence) (He.ga K "is_sequence") cdv A outer s H E) (.Name "thing" pos) (DE Γ (eVar 0)) := fun pos => v_var (v0 pos) p0
  have l_tuple : Gl (cxOf (L2N.CX P w) P w K mg base N_is_sequence "is_sequence" (defScope st_is_sequence) (He.ga K "is_sequence") cdv A outer s H E) "tuple" := by rfl
  have r_tuple : ("tuple" : Str) ≠ "__name__" := by decide
  have q_tuple : (("tuple" : Str) == ("__debug__" : Str)) = false := by decide
  have l_list : Gl (cxOf (L2N.CX P w) P w K mg base N_is_sequence "is_sequence" (defScope st_is_sequence) (He.ga K "is_sequence") cdv A outer s H E) "list" := by rfl
  have r_list : ("list" : Str) ≠ "__name__" := by decide
  have q_list : (("list" : Str) == ("__debug__" : Str)) = false := by decide
  have l_isinstance : Gl (cxOf (L2N.CX P w) P w K mg base N_is_sequence "is_sequence" (defScope st_is_sequence) (He.ga K "is_sequence") cdv A outer s H E) "isinstance" := by rfl
  have r_isinstance : ("isinstance" : Str) ≠ "__name__" := by decide
  have q_isinstance : (("isinstance" : Str) == ("__debug__" : Str)) = false := by decide
  have l_len : Gl (cxOf (L2N.CX P w) P w K mg base N_is_sequence "is_sequence" (defScope st_is_sequence) (He.ga K "is_sequence") cdv A outer s H E) "len" := by rfl
  have r_len : ("len" : Str) ≠ "__name__" := by decide
  have q_len : (("len" : Str) == ("__debug__" : Str)) = false := by decide
  have v1 : ∀ pos : Pos, PE (cxOf (L2N.CX P w) P w K mg base N_is_sequence "is_sequence" (defScope st_is_sequence) (He.ga K "is_sequence") cdv A outer s H E) (.Name "low" pos) (tVar 1) := fun pos => pv 1
  have p1 := hP 1 (by decide)
  have w1 : ∀ pos : Pos, PE (cxOf (L2N.CX P w) P w K mg base N_is_sequence "is_sequence" (defScope st_is_sequence) (He.ga K "is_sequence") cdv A outer s H E) (.Name "low" pos) (DE Γ (eVar 1)) := fun pos => v_var (v1 pos) p1
  have v2 : ∀ pos : Pos, PE (cxOf (L2N.CX P w) P w K mg base N_is_sequence "is_sequence" (defScope st_is_sequence) (He.ga K "is_sequence") cdv A outer s H E) (.Name "high" pos) (tVar 2) := fun pos => pv 2
  have p2 := hP 2 (by decide)
  have w2 : ∀ pos : Pos, PE (cxOf (L2N.CX P w) P w K mg base N_is_sequence "is_sequence" (defScope st_is_sequence) (He.ga K "is_sequence") cdv A outer s H E) (.Name "high" pos) (DE Γ (eVar 2)) := fun pos => v_var (v2 pos) p2
  refine ss_cons (s_if (t_not (t_tru hx (v_isiT hx l_isinstance n_isinstance (by decide +kernel) (w0 _) (v_cons (v_ty l_list n_list (by decide +kernel) r_list q_list) (v_cons (v_ty l_tuple n_tuple (by decide +kernel) r_tuple q_tuple) v_nil star_Name) star_Name) (fun _ => rfl) (by decide) r_isinstance q_isinstance star_Name rfl) (fun _ => rfl)))
 (by exact ss_one (s_ret v_bl))
 ss_nil) ?_
  exact ss_one (s_ret (v_and hx (v_cmp op_ge s_cmp (v_len hx l_len n_len (by decide +kernel) (v_cons (w0 _) v_nil star_Name) r_len q_len star_Name rfl) (w1 _) rfl) (v_one (v_or hx (v_cmp op_isA s_is (w2 _) v_non rfl) (v_one (v_cmp op_le s_cmp (v_len hx l_len n_len (by decide +kernel) (v_cons (w0 _) v_nil star_Name) r_len q_len star_Name rfl) (w2 _) rfl))))))
end
abbrev st_is_couple : Stmt := top 21
abbrev N_is_couple : List Str := ["thing"]
theorem sc_is_couple : FnScope N_is_couple ["thing"] (defScope st_is_couple) := ⟨rfl, rfl, rfl, by decide +kernel, rfl, by decide +kernel, by decide +kernel⟩
section
variable {P : Program} {w : World} {K : PySem.W.Frag} {mg : Str → Option Value} {base : Heap}
theorem ok_is_couple {fd : FuncData} (F : FunD K "is_couple" "is_couple" (defArgs st_is_couple) (defBody st_is_couple) (defScope st_is_couple) [] [] (He.ga K "is_couple") fd) (d_is_sequence : Def P w K mg base 1 "is_sequence" ["thing", "low", "high"] [false, false, false] F_is_sequence) :
    FnOk P w K mg base (L2N.CX P w) 2 (He.ga K "is_couple") fd ["thing"] (spF K mg [false] F_is_couple) := by
  refine fn_ok F sc_is_couple rfl (fun cdv A outer s H E Γ hr hx hP tk po => ?_)
  have v0 : ∀ pos : Pos, PE (cxOf (L2N.CX P w) P w K mg base N_is_couple "is_couple" (defScope st_is_couple) (He.ga K "is_couple") cdv A outer s H E) (.Name "thing" pos) (tVar 0) := fun pos => pv 0
  have p0 := hP 0 (by decide)
  have w0 : ∀ pos : Pos, PE (cxOf (L2N.CX P w) P w K mg base N_is_couple "is_couple" (defScope st_is_couple) (He.ga K "is_couple") cdv A outer s H E) (.Name "thing" pos) (DE Γ (eVar 0)) := fun pos => v_var (v0 pos) p0
  have hr1 := hr.mono (show 1 ≤ 1 by decide)
  have l_is_sequence : Gl (cxOf (L2N.CX P w) P w K mg base N_is_couple "is_couple" (defScope st_is_couple) (He.ga K "is_couple") cdv A outer s H E) "is_sequence" := by rfl
  have q_is_sequence : (("is_sequence" : Str) == ("__debug__" : Str)) = false := by decide
  exact ss_one (s_ret (v_call hx tk d_is_sequence hr1 l_is_sequence (b_val (w0 _) (b_val v_int (b_val v_int b_nil star_Constant) star_Constant) star_Name) q_is_sequence star_Name rfl))
end
abbrev st_is_whole : Stmt := top 9
abbrev N_is_whole : List Str := ["thing", "low", "high"]
theorem sc_is_whole : FnScope N_is_whole ["thing", "low", "high"] (defScope st_is_whole) := ⟨rfl, rfl, rfl, by decide +kernel, rfl, by decide +kernel, by decide +kernel⟩
section
variable {P : Program} {w : World} {K : PySem.W.Frag} {mg : Str → Option Value} {base : Heap}
theorem ok_is_whole {fd : FuncData} (F : FunD K "is_whole" "is_whole" (defArgs st_is_whole) (defBody st_is_whole) (defScope st_is_whole) [V.non, V.non] [] (He.ga K "is_whole") fd) (n_int : mg "int" = none) (n_isinstance : mg "isinstance" = none) (n_bool : mg "bool" = none) :
    FnOk P w K mg base (L2N.CX P w) 1 (He.ga K "is_whole") fd ["thing", "low", "high"] (spF K mg [false, false, false] F_is_whole) := by
  refine fn_ok F sc_is_whole rfl (fun cdv A outer s H E Γ hr hx hP tk po => ?_)
  have l_int : Gl (cxOf (L2N.CX P w) P w K mg base N_is_whole "is_whole" (defScope st_is_whole) (He.ga K "is_whole") cdv A outer s H E) "int" := by rfl
  have r_int : ("int" : Str) ≠ "__name__" := by decide
  have q_int : (("int" : Str) == ("__debug__" : Str)) = false := by decide
  have v0 : ∀ pos : Pos, PE (cxOf (L2N.CX P w) P w K mg base N_is_whole "is_whole" (defScope st_is_whole) (He.ga K "is_whole") cdv A outer s H E) (.Name "thing" pos) (tVar 0) := fun pos => pv 0
  have p0 := hP 0 (by decide)
  have w0 : ∀ pos : Pos, PE (cxOf (L2N.CX P w) P w K mg base N_is_whole "is_whole" (defScope st_is_whole) (He.ga K "is_whole") cdv A outer s H E) (.Name "thing" pos) (DE Γ (eVar 0)) := fun pos => v_var (v0 pos) p0
  have l_isinstance : Gl (cxOf (L2N.CX P w) P w K mg base N_is_whole "is_whole" (defScope st_is_whole) (He.ga K "is_whole") cdv A outer s H E) "isinstance" := by rfl
  have r_isinstance : ("isinstance" : Str) ≠ "__name__" := by decide
  have q_isinstance : (("isinstance" : Str) == ("__debug__" : Str)) = false := by decide
  have l_bool : Gl (cxOf (L2N.CX P w) P w K mg base N_is_whole "is_whole" (defScope st_is_whole) (He.ga K "is_whole") cdv A outer s H E) "bool" := by rfl
  have r_bool : ("bool" : Str) ≠ "__name__" := by decide
  have q_bool : (("bool" : Str) == ("__debug__" : Str)) = false := by decide
  have v1 : ∀ pos : Pos, PE (cxOf (L2N.CX P w) P w K mg base N_is_whole "is_whole" (defScope st_is_whole) (He.ga K "is_whole") cdv A outer s H E) (.Name "low" pos) (tVar 1) := fun pos => pv 1
  have p1 := hP 1 (by decide)
  have w1 : ∀ pos : Pos, PE (cxOf (L2N.CX P w) P w K mg base N_is_whole "is_whole" (defScope st_is_whole) (He.ga K "is_whole") cdv A outer s H E) (.Name "low" pos) (DE Γ (eVar 1)) := fun pos => v_var (v1 pos) p1
  have v2 : ∀ pos : Pos, PE (cxOf (L2N.CX P w) P w K mg base N_is_whole "is_whole" (defScope st_is_whole) (He.ga K "is_whole") cdv A outer s H E) (.Name "high" pos) (tVar 2) := fun pos => pv 2
  have p2 := hP 2 (by decide)
  have w2 : ∀ pos : Pos, PE (cxOf (L2N.CX P w) P w K mg base N_is_whole "is_whole" (defScope st_is_whole) (He.ga K "is_whole") cdv A outer s H E) (.Name "high" pos) (DE Γ (eVar 2)) := fun pos => v_var (v2 pos) p2
  refine ss_cons (s_if (PW.pt (w_or (t_not (t_tru hx (v_isi hx l_isinstance n_isinstance (by decide +kernel) (v_cons (w0 _) (v_cons (v_ty l_int n_int (by decide +kernel) r_int q_int) v_nil star_Name) star_Name) r_isinstance q_isinstance star_Name rfl) (fun _ => rfl))) (w_or1 (t_tru hx (v_isi hx l_isinstance n_isinstance (by decide +kernel) (v_cons (w0 _) (v_cons (v_ty l_bool n_bool (by decide +kernel) r_bool q_bool) v_nil star_Name) star_Name) r_isinstance q_isinstance star_Name rfl) (fun _ => rfl)))))
 (by exact ss_one (s_ret v_bl))
 ss_nil) ?_
  exact ss_one (s_ret (v_and hx (v_or hx (v_cmp op_isA s_is (w1 _) v_non rfl) (v_one (v_cmp op_ge s_cmp (w0 _) (w1 _) rfl))) (v_one (v_or hx (v_cmp op_isA s_is (w2 _) v_non rfl) (v_one (v_cmp op_le s_cmp (w0 _) (w2 _) rfl))))))
end
abbrev st_is_ratio : Stmt := top 10
abbrev N_is_ratio : List Str := ["thing", "top", "bottom"]
theorem sc_is_ratio : FnScope N_is_ratio ["thing"] (defScope st_is_ratio) := ⟨rfl, rfl, rfl, by decide +kernel, rfl, by decide +kernel, by decide +kernel⟩
section
variable {P : Program} {w : World} {K : PySem.W.Frag} {mg : Str → Option Value} {base : Heap}
theorem ok_is_ratio {fd : FuncData} (F : FunD K "is_ratio" "is_ratio" (defArgs st_is_ratio) (defBody st_is_ratio) (defScope st_is_ratio) [] [] (He.ga K "is_ratio") fd) (n_tuple : mg "tuple" = none) (n_isinstance : mg "isinstance" = none) (n_len : mg "len" = none) (d_is_whole : Def P w K mg base 1 "is_whole" ["thing", "low", "high"] [false, false, false] F_is_whole) (b_is_whole_1 : ∃ ds, Vals [V.non, V.non] ds ∧ Binds K d_is_whole.fd ["thing", "low", "high"] ds) (b_is_whole_2 : ∃ ds, Vals [V.non] ds ∧ Binds K d_is_whole.fd ["thing", "low", "high"] ds) (g_gcd : mg "gcd" = some (.builtin "math.gcd")) :
    FnOk P w K mg base (L2N.CX P w) 2 (He.ga K "is_ratio") fd ["thing"] (spF K mg [false] F_is_ratio) := by
  refine fn_ok F sc_is_ratio rfl (fun cdv A outer s H E Γ hr hx hP tk po => ?_)
  have l_tuple : Gl (cxOf (L2N.CX P w) P w K mg base N_is_ratio "is_ratio" (defScope st_is_ratio) (He.ga K "is_ratio") cdv A outer s H E) "tuple" := by rfl
  have r_tuple : ("tuple" : Str) ≠ "__name__" := by decide
  have q_tuple : (("tuple" : Str) == ("__debug__" : Str)) = false := by decide
  have v0 : ∀ pos : Pos, PE (cxOf (L2N.CX P w) P w K mg base N_is_ratio "is_ratio" (defScope st_is_ratio) (He.ga K "is_ratio") cdv A outer s H E) (.Name "thing" pos) (tVar 0) := fun pos => pv 0
  have p0 := hP 0 (by decide)
  have w0 : ∀ pos : Pos, PE (cxOf (L2N.CX P w) P w K mg base N_is_ratio "is_ratio" (defScope st_is_ratio) (He.ga K "is_ratio") cdv A outer s H E) (.Name "thing" pos) (DE Γ (eVar 0)) := fun pos => v_var (v0 pos) p0
  have l_isinstance : Gl (cxOf (L2N.CX P w) P w K mg base N_is_ratio "is_ratio" (defScope st_is_ratio) (He.ga K "is_ratio") cdv A outer s H E) "isinstance" := by rfl
  have r_isinstance : ("isinstance" : Str) ≠ "__name__" := by decide
  have q_isinstance : (("isinstance" : Str) == ("__debug__" : Str)) = false := by decide
  have l_len : Gl (cxOf (L2N.CX P w) P w K mg base N_is_ratio "is_ratio" (defScope st_is_ratio) (He.ga K "is_ratio") cdv A outer s H E) "len" := by rfl
  have r_len : ("len" : Str) ≠ "__name__" := by decide
  have q_len : (("len" : Str) == ("__debug__" : Str)) = false := by decide
  have p2 := hP 2 (by decide)
  have p1 := hP 1 (by decide)
  have v1 : ∀ pos : Pos, PE (cxOf (L2N.CX P w) P w K mg base N_is_ratio "is_ratio" (defScope st_is_ratio) (He.ga K "is_ratio") cdv A outer s H E) (.Name "top" pos) (tVar 1) := fun pos => pv 1
  have w1 : ∀ pos : Pos, PE (cxOf (L2N.CX P w) P w K mg base N_is_ratio "is_ratio" (defScope st_is_ratio) (He.ga K "is_ratio") cdv A outer s H E) (.Name "top" pos) (DE Γ (eVar 1)) := fun pos => v_var (v1 pos) p1
  have hr1 := hr.mono (show 1 ≤ 1 by decide)
  have l_is_whole : Gl (cxOf (L2N.CX P w) P w K mg base N_is_ratio "is_ratio" (defScope st_is_ratio) (He.ga K "is_ratio") cdv A outer s H E) "is_whole" := by rfl
  have q_is_whole : (("is_whole" : Str) == ("__debug__" : Str)) = false := by decide
  have v2 : ∀ pos : Pos, PE (cxOf (L2N.CX P w) P w K mg base N_is_ratio "is_ratio" (defScope st_is_ratio) (He.ga K "is_ratio") cdv A outer s H E) (.Name "bottom" pos) (tVar 2) := fun pos => pv 2
  have w2 : ∀ pos : Pos, PE (cxOf (L2N.CX P w) P w K mg base N_is_ratio "is_ratio" (defScope st_is_ratio) (He.ga K "is_ratio") cdv A outer s H E) (.Name "bottom" pos) (DE Γ (eVar 2)) := fun pos => v_var (v2 pos) p2
  have l_gcd : Gl (cxOf (L2N.CX P w) P w K mg base N_is_ratio "is_ratio" (defScope st_is_ratio) (He.ga K "is_ratio") cdv A outer s H E) "gcd" := by rfl
  have q_gcd : (("gcd" : Str) == ("__debug__" : Str)) = false := by decide
  refine ss_cons (s_if (PW.pt (w_or (t_not (t_tru hx (v_isi hx l_isinstance n_isinstance (by decide +kernel) (v_cons (w0 _) (v_cons (v_ty l_tuple n_tuple (by decide +kernel) r_tuple q_tuple) v_nil star_Name) star_Name) r_isinstance q_isinstance star_Name rfl) (fun _ => rfl))) (w_or1 (t_ne hx hr.units (v_len hx l_len n_len (by decide +kernel) (v_cons (w0 _) v_nil star_Name) r_len q_len star_Name rfl) v_int rfl))))
 (by exact ss_one (s_ret v_bl))
 ss_nil) ?_
  refine ss_cons (s_asgG (ps_asg (w0 _) (g_tl hx rfl (gs_cons (g_name (pg_name sc_is_ratio.nd rfl (by first | exact Or.inl rfl | exact Or.inr rfl)) p1) (gs_cons (g_name (pg_name sc_is_ratio.nd rfl (by first | exact Or.inl rfl | exact Or.inr rfl)) p2) gs_nil))))) ?_
  exact ss_one (s_ret (v_and hx (v_callD (dvs := [V.non, V.non]) hx tk d_is_whole.ok d_is_whole.gm d_is_whole.kp b_is_whole_1 (fun _ => (.cons (.non) (.cons (.non) .nil))) hr1 l_is_whole (b_val (w1 _) b_nil star_Name) q_is_whole star_Name rfl) (v_and hx (v_callD (dvs := [V.non]) hx tk d_is_whole.ok d_is_whole.gm d_is_whole.kp b_is_whole_2 (fun _ => (.cons (.non) .nil)) hr1 l_is_whole (b_val (w2 _) (b_val v_int b_nil star_Constant) star_Name) q_is_whole star_Name rfl) (v_one (v_eq hx hr.units (v_callBf cr_gcd c_gcd l_gcd g_gcd (v_cons (w1 _) (v_cons (w2 _) v_nil star_Name) star_Name) q_gcd star_Name rfl) v_int rfl)))))
end
abbrev st_is_within_bound : Stmt := top 11
abbrev N_is_within_bound : List Str := ["thing", "bound"]
theorem sc_is_within_bound : FnScope N_is_within_bound ["thing", "bound"] (defScope st_is_within_bound) := ⟨rfl, rfl, rfl, by decide +kernel, rfl, by decide +kernel, by decide +kernel⟩
section
variable {P : Program} {w : World} {K : PySem.W.Frag} {mg : Str → Option Value} {base : Heap}
theorem ok_is_within_bound {fd : FuncData} (F : FunD K "is_within_bound" "is_within_bound" (defArgs st_is_within_bound) (defBody st_is_within_bound) (defScope st_is_within_bound) [] [] (He.ga K "is_within_bound") fd) (d_is_ratio : Def P w K mg base 2 "is_ratio" ["thing"] [false] F_is_ratio) (n_abs : mg "abs" = none) :
    FnOk P w K mg base (L2N.CX P w) 3 (He.ga K "is_within_bound") fd ["thing", "bound"] (spF K mg [false, false] F_is_within_bound) := by
  refine fn_ok F sc_is_within_bound rfl (fun cdv A outer s H E Γ hr hx hP tk po => ?_)
  have v0 : ∀ pos : Pos, PE (cxOf (L2N.CX P w) P w K mg base N_is_within_bound "is_within_bound" (defScope st_is_within_bound) (He.ga K "is_within_bound") cdv A outer s H E) (.Name "thing" pos) (tVar 0) := fun pos => pv 0
  have p0 := hP 0 (by decide)
  have w0 : ∀ pos : Pos, PE (cxOf (L2N.CX P w) P w K mg base N_is_within_bound "is_within_bound" (defScope st_is_within_bound) (He.ga K "is_within_bound") cdv A outer s H E) (.Name "thing" pos) (DE Γ (eVar 0)) := fun pos => v_var (v0 pos) p0
  have hr2 := hr.mono (show 2 ≤ 2 by decide)
  have l_is_ratio : Gl (cxOf (L2N.CX P w) P w K mg base N_is_within_bound "is_within_bound" (defScope st_is_within_bound) (He.ga K "is_within_bound") cdv A outer s H E) "is_ratio" := by rfl
  have q_is_ratio : (("is_ratio" : Str) == ("__debug__" : Str)) = false := by decide
  have l_abs : Gl (cxOf (L2N.CX P w) P w K mg base N_is_within_bound "is_within_bound" (defScope st_is_within_bound) (He.ga K "is_within_bound") cdv A outer s H E) "abs" := by rfl
  have r_abs : ("abs" : Str) ≠ "__name__" := by decide
  have q_abs : (("abs" : Str) == ("__debug__" : Str)) = false := by decide
  have v1 : ∀ pos : Pos, PE (cxOf (L2N.CX P w) P w K mg base N_is_within_bound "is_within_bound" (defScope st_is_within_bound) (He.ga K "is_within_bound") cdv A outer s H E) (.Name "bound" pos) (tVar 1) := fun pos => pv 1
  have p1 := hP 1 (by decide)
  have w1 : ∀ pos : Pos, PE (cxOf (L2N.CX P w) P w K mg base N_is_within_bound "is_within_bound" (defScope st_is_within_bound) (He.ga K "is_within_bound") cdv A outer s H E) (.Name "bound" pos) (DE Γ (eVar 1)) := fun pos => v_var (v1 pos) p1
  exact ss_one (s_ret (v_and hx (v_call hx tk d_is_ratio hr2 l_is_ratio (b_val (w0 _) b_nil star_Name) q_is_ratio star_Name rfl) (v_and hx (v_cmp op_le s_cmp (v_callB call_abs c_abs l_abs n_abs (by decide +kernel) (v_cons (v_ix hx (w0 _) v_int (fun _ _ => rfl)) v_nil star_Subscript) r_abs q_abs star_Subscript rfl) (w1 _) rfl) (v_one (v_cmp op_le s_cmp (v_ix hx (w0 _) v_int (fun _ _ => rfl)) (w1 _) rfl)))))
end
abbrev st_is_coordinate : Stmt := top 12
abbrev N_is_coordinate : List Str := ["thing"]
theorem sc_is_coordinate : FnScope N_is_coordinate ["thing"] (defScope st_is_coordinate) := ⟨rfl, rfl, rfl, by decide +kernel, rfl, by decide +kernel, by decide +kernel⟩
section
variable {P : Program} {w : World} {K : PySem.W.Frag} {mg : Str → Option Value} {base : Heap}
theorem ok_is_coordinate {fd : FuncData} (F : FunD K "is_coordinate" "is_coordinate" (defArgs st_is_coordinate) (defBody st_is_coordinate) (defScope st_is_coordinate) [] [] (He.ga K "is_coordinate") fd) (d_is_within_bound : Def P w K mg base 3 "is_within_bound" ["thing", "bound"] [false, false] F_is_within_bound) (c_SMALL : Const K mg "SMALL" (.int 1000000000000)) :
    FnOk P w K mg base (L2N.CX P w) 4 (He.ga K "is_coordinate") fd ["thing"] (spF K mg [false] F_is_coordinate) := by
  refine fn_ok F sc_is_coordinate rfl (fun cdv A outer s H E Γ hr hx hP tk po => ?_)
  have l_SMALL : Gl (cxOf (L2N.CX P w) P w K mg base N_is_coordinate "is_coordinate" (defScope st_is_coordinate) (He.ga K "is_coordinate") cdv A outer s H E) "SMALL" := by rfl
  have q_SMALL : (("SMALL" : Str) == ("__debug__" : Str)) = false := by decide
  have v0 : ∀ pos : Pos, PE (cxOf (L2N.CX P w) P w K mg base N_is_coordinate "is_coordinate" (defScope st_is_coordinate) (He.ga K "is_coordinate") cdv A outer s H E) (.Name "thing" pos) (tVar 0) := fun pos => pv 0
  have p0 := hP 0 (by decide)
  have w0 : ∀ pos : Pos, PE (cxOf (L2N.CX P w) P w K mg base N_is_coordinate "is_coordinate" (defScope st_is_coordinate) (He.ga K "is_coordinate") cdv A outer s H E) (.Name "thing" pos) (DE Γ (eVar 0)) := fun pos => v_var (v0 pos) p0
  have hr3 := hr.mono (show 3 ≤ 3 by decide)
  have l_is_within_bound : Gl (cxOf (L2N.CX P w) P w K mg base N_is_coordinate "is_coordinate" (defScope st_is_coordinate) (He.ga K "is_coordinate") cdv A outer s H E) "is_within_bound" := by rfl
  have q_is_within_bound : (("is_within_bound" : Str) == ("__debug__" : Str)) = false := by decide
  exact ss_one (s_ret (v_call hx tk d_is_within_bound hr3 l_is_within_bound (b_val (w0 _) (b_val (v_const c_SMALL hx l_SMALL q_SMALL) b_nil star_Name) star_Name) q_is_within_bound star_Name rfl))
end
abbrev st_is_weight : Stmt := top 13
abbrev N_is_weight : List Str := ["thing"]
theorem sc_is_weight : FnScope N_is_weight ["thing"] (defScope st_is_weight) := ⟨rfl, rfl, rfl, by decide +kernel, rfl, by decide +kernel, by decide +kernel⟩
section
variable {P : Program} {w : World} {K : PySem.W.Frag} {mg : Str → Option Value} {base : Heap}
theorem ok_is_weight {fd : FuncData} (F : FunD K "is_weight" "is_weight" (defArgs st_is_weight) (defBody st_is_weight) (defScope st_is_weight) [] [] (He.ga K "is_weight") fd) (d_is_coordinate : Def P w K mg base 4 "is_coordinate" ["thing"] [false] F_is_coordinate) :
    FnOk P w K mg base (L2N.CX P w) 5 (He.ga K "is_weight") fd ["thing"] (spF K mg [false] F_is_weight) := by
  refine fn_ok F sc_is_weight rfl (fun cdv A outer s H E Γ hr hx hP tk po => ?_)
  have v0 : ∀ pos : Pos, PE (cxOf (L2N.CX P w) P w K mg base N_is_weight "is_weight" (defScope st_is_weight) (He.ga K "is_weight") cdv A outer s H E) (.Name "thing" pos) (tVar 0) := fun pos => pv 0
  have p0 := hP 0 (by decide)
  have w0 : ∀ pos : Pos, PE (cxOf (L2N.CX P w) P w K mg base N_is_weight "is_weight" (defScope st_is_weight) (He.ga K "is_weight") cdv A outer s H E) (.Name "thing" pos) (DE Γ (eVar 0)) := fun pos => v_var (v0 pos) p0
  have hr4 := hr.mono (show 4 ≤ 4 by decide)
  have l_is_coordinate : Gl (cxOf (L2N.CX P w) P w K mg base N_is_weight "is_weight" (defScope st_is_weight) (He.ga K "is_weight") cdv A outer s H E) "is_coordinate" := by rfl
  have q_is_coordinate : (("is_coordinate" : Str) == ("__debug__" : Str)) = false := by decide
  exact ss_one (s_ret (v_and hx (v_call hx tk d_is_coordinate hr4 l_is_coordinate (b_val (w0 _) b_nil star_Name) q_is_coordinate star_Name rfl) (v_one (v_cmp op_ge s_cmp (v_ix hx (w0 _) v_int (fun _ _ => rfl)) v_int rfl))))
end
abbrev st_is_place : Stmt := top 23
abbrev N_is_place : List Str := ["thing"]
theorem sc_is_place : FnScope N_is_place ["thing"] (defScope st_is_place) := ⟨rfl, rfl, rfl, by decide +kernel, rfl, by decide +kernel, by decide +kernel⟩
section
variable {P : Program} {w : World} {K : PySem.W.Frag} {mg : Str → Option Value} {base : Heap}
theorem ok_is_place {fd : FuncData} (F : FunD K "is_place" "is_place" (defArgs st_is_place) (defBody st_is_place) (defScope st_is_place) [] [] (He.ga K "is_place") fd) (d_is_couple : Def P w K mg base 2 "is_couple" ["thing"] [false] F_is_couple) (d_is_coordinate : Def P w K mg base 4 "is_coordinate" ["thing"] [false] F_is_coordinate) :
    FnOk P w K mg base (L2N.CX P w) 5 (He.ga K "is_place") fd ["thing"] (spF K mg [false] F_is_place) := by
  refine fn_ok F sc_is_place rfl (fun cdv A outer s H E Γ hr hx hP tk po => ?_)
  have v0 : ∀ pos : Pos, PE (cxOf (L2N.CX P w) P w K mg base N_is_place "is_place" (defScope st_is_place) (He.ga K "is_place") cdv A outer s H E) (.Name "thing" pos) (tVar 0) := fun pos => pv 0
  have p0 := hP 0 (by decide)
  have w0 : ∀ pos : Pos, PE (cxOf (L2N.CX P w) P w K mg base N_is_place "is_place" (defScope st_is_place) (He.ga K "is_place") cdv A outer s H E) (.Name "thing" pos) (DE Γ (eVar 0)) := fun pos => v_var (v0 pos) p0
  have hr2 := hr.mono (show 2 ≤ 4 by decide)
  have l_is_couple : Gl (cxOf (L2N.CX P w) P w K mg base N_is_place "is_place" (defScope st_is_place) (He.ga K "is_place") cdv A outer s H E) "is_couple" := by rfl
  have q_is_couple : (("is_couple" : Str) == ("__debug__" : Str)) = false := by decide
  have hr4 := hr.mono (show 4 ≤ 4 by decide)
  have l_is_coordinate : Gl (cxOf (L2N.CX P w) P w K mg base N_is_place "is_place" (defScope st_is_place) (He.ga K "is_place") cdv A outer s H E) "is_coordinate" := by rfl
  have q_is_coordinate : (("is_coordinate" : Str) == ("__debug__" : Str)) = false := by decide
  exact ss_one (s_ret (v_and hx (v_call hx tk d_is_couple hr2 l_is_couple (b_val (w0 _) b_nil star_Name) q_is_couple star_Name rfl) (v_and hx (v_call hx tk d_is_coordinate hr4 l_is_coordinate (b_val (v_ix hx (w0 _) v_int (fun _ _ => rfl)) b_nil star_Subscript) q_is_coordinate star_Subscript rfl) (v_one (v_call hx tk d_is_coordinate hr4 l_is_coordinate (b_val (v_ix hx (w0 _) v_int (fun _ _ => rfl)) b_nil star_Subscript) q_is_coordinate star_Subscript rfl)))))
end
abbrev st_wrong_load : Stmt := top 26
abbrev N_wrong_load : List Str := ["thing"]
theorem sc_wrong_load : FnScope N_wrong_load ["thing"] (defScope st_wrong_load) := ⟨rfl, rfl, rfl, by decide +kernel, rfl, by decide +kernel, by decide +kernel⟩
section
variable {P : Program} {w : World} {K : PySem.W.Frag} {mg : Str → Option Value} {base : Heap}
theorem ok_wrong_load {fd : FuncData} (F : FunD K "wrong_load" "wrong_load" (defArgs st_wrong_load) (defBody st_wrong_load) (defScope st_wrong_load) [] [] (He.ga K "wrong_load") fd) (d_is_couple : Def P w K mg base 2 "is_couple" ["thing"] [false] F_is_couple) (d_is_weight : Def P w K mg base 5 "is_weight" ["thing"] [false] F_is_weight) (d_is_place : Def P w K mg base 5 "is_place" ["thing"] [false] F_is_place) :
    FnOk P w K mg base (L2N.CX P w) 6 (He.ga K "wrong_load") fd ["thing"] (spF K mg [false] F_wrong_load) := by
  refine fn_ok F sc_wrong_load rfl (fun cdv A outer s H E Γ hr hx hP tk po => ?_)
  have v0 : ∀ pos : Pos, PE (cxOf (L2N.CX P w) P w K mg base N_wrong_load "wrong_load" (defScope st_wrong_load) (He.ga K "wrong_load") cdv A outer s H E) (.Name "thing" pos) (tVar 0) := fun pos => pv 0
  have p0 := hP 0 (by decide)
  have w0 : ∀ pos : Pos, PE (cxOf (L2N.CX P w) P w K mg base N_wrong_load "wrong_load" (defScope st_wrong_load) (He.ga K "wrong_load") cdv A outer s H E) (.Name "thing" pos) (DE Γ (eVar 0)) := fun pos => v_var (v0 pos) p0
  have hr2 := hr.mono (show 2 ≤ 5 by decide)
  have l_is_couple : Gl (cxOf (L2N.CX P w) P w K mg base N_wrong_load "wrong_load" (defScope st_wrong_load) (He.ga K "wrong_load") cdv A outer s H E) "is_couple" := by rfl
  have q_is_couple : (("is_couple" : Str) == ("__debug__" : Str)) = false := by decide
  have hr5 := hr.mono (show 5 ≤ 5 by decide)
  have l_is_weight : Gl (cxOf (L2N.CX P w) P w K mg base N_wrong_load "wrong_load" (defScope st_wrong_load) (He.ga K "wrong_load") cdv A outer s H E) "is_weight" := by rfl
  have q_is_weight : (("is_weight" : Str) == ("__debug__" : Str)) = false := by decide
  have l_is_place : Gl (cxOf (L2N.CX P w) P w K mg base N_wrong_load "wrong_load" (defScope st_wrong_load) (He.ga K "wrong_load") cdv A outer s H E) "is_place" := by rfl
  have q_is_place : (("is_place" : Str) == ("__debug__" : Str)) = false := by decide
  refine ss_cons (s_if (t_not (t_tru hx (v_call hx tk d_is_couple hr2 l_is_couple (b_val (w0 _) b_nil star_Name) q_is_couple star_Name rfl) (fun _ => rfl)))
 (by exact ss_one (s_ret v_str))
 ss_nil) ?_
  refine ss_cons (s_if (t_not (t_tru hx (v_call hx tk d_is_weight hr5 l_is_weight (b_val (v_ix hx (w0 _) v_int (fun _ _ => rfl)) b_nil star_Subscript) q_is_weight star_Subscript rfl) (fun _ => rfl)))
 (by exact ss_one (s_ret v_str))
 ss_nil) ?_
  exact ss_one (s_ret (v_if (t_tru hx (v_call hx tk d_is_place hr5 l_is_place (b_val (v_ix hx (w0 _) v_int (fun _ _ => rfl)) b_nil star_Subscript) q_is_place star_Subscript rfl) (fun _ => rfl)) v_non v_str))
end
abbrev st_load_row : Stmt := top 27
abbrev N_load_row : List Str := ["load"]
theorem sc_load_row : FnScope N_load_row ["load"] (defScope st_load_row) := ⟨rfl, rfl, rfl, by decide +kernel, rfl, by decide +kernel, by decide +kernel⟩
section
variable {P : Program} {w : World} {K : PySem.W.Frag} {mg : Str → Option Value} {base : Heap}
theorem ok_load_row {fd : FuncData} (F : FunD K "load_row" "load_row" (defArgs st_load_row) (defBody st_load_row) (defScope st_load_row) [] [] (He.ga K "load_row") fd) (n_tuple : mg "tuple" = none) :
    FnOk P w K mg base (L2N.CX P w) 1 (He.ga K "load_row") fd ["load"] (spF K mg [false] F_load_row) := by
  refine fn_ok F sc_load_row rfl (fun cdv A outer s H E Γ hr hx hP tk po => ?_)
  have v0 : ∀ pos : Pos, PE (cxOf (L2N.CX P w) P w K mg base N_load_row "load_row" (defScope st_load_row) (He.ga K "load_row") cdv A outer s H E) (.Name "load" pos) (tVar 0) := fun pos => pv 0
  have p0 := hP 0 (by decide)
  have w0 : ∀ pos : Pos, PE (cxOf (L2N.CX P w) P w K mg base N_load_row "load_row" (defScope st_load_row) (He.ga K "load_row") cdv A outer s H E) (.Name "load" pos) (DE Γ (eVar 0)) := fun pos => v_var (v0 pos) p0
  have l_tuple : Gl (cxOf (L2N.CX P w) P w K mg base N_load_row "load_row" (defScope st_load_row) (He.ga K "load_row") cdv A outer s H E) "tuple" := by rfl
  have r_tuple : ("tuple" : Str) ≠ "__name__" := by decide
  have q_tuple : (("tuple" : Str) == ("__debug__" : Str)) = false := by decide
  exact ss_one (s_ret (v_tup (v_cons (v_ix hx (w0 _) v_int (fun _ _ => rfl)) (v_cons (v_tupleC hx l_tuple n_tuple (by decide +kernel) (v_cons (v_ix hx (w0 _) v_int (fun _ _ => rfl)) v_nil star_Subscript) r_tuple q_tuple star_Subscript rfl) v_nil star_Call) star_Subscript)))
end
abbrev st_check_loads : Stmt := top 28
abbrev N_check_loads : List Str := ["loads", "index", "load", "what"]
theorem sc_check_loads : FnScope N_check_loads ["loads"] (defScope st_check_loads) := ⟨rfl, rfl, rfl, by decide +kernel, rfl, by decide +kernel, by decide +kernel⟩
section
variable {P : Program} {w : World} {K : PySem.W.Frag} {mg : Str → Option Value} {base : Heap}
theorem ok_check_loads {fd : FuncData} (F : FunD K "check_loads" "check_loads" (defArgs st_check_loads) (defBody st_check_loads) (defScope st_check_loads) [] [] (He.ga K "check_loads") fd) (d_is_sequence : Def P w K mg base 1 "is_sequence" ["thing", "low", "high"] [false, false, false] F_is_sequence) (c_MOST_LOADS : Const K mg "MOST_LOADS" (.int 8)) (e_BadLoads : ExcCl P w K mg base "BadLoads" ["index", "what"]) (n_enumerate : mg "enumerate" = none) (d_wrong_load : Def P w K mg base 6 "wrong_load" ["thing"] [false] F_wrong_load) (d_load_row : Def P w K mg base 1 "load_row" ["load"] [false] F_load_row) (n_tuple : mg "tuple" = none) :
    FnOk P w K mg base (L2N.CX P w) 7 (He.ga K "check_loads") fd ["loads"] (spF K mg [false] F_check_loads) := by
  refine fn_ok F sc_check_loads rfl (fun cdv A outer s H E Γ hr hx hP tk po => ?_)
  have l_MOST_LOADS : Gl (cxOf (L2N.CX P w) P w K mg base N_check_loads "check_loads" (defScope st_check_loads) (He.ga K "check_loads") cdv A outer s H E) "MOST_LOADS" := by rfl
  have q_MOST_LOADS : (("MOST_LOADS" : Str) == ("__debug__" : Str)) = false := by decide
  have v0 : ∀ pos : Pos, PE (cxOf (L2N.CX P w) P w K mg base N_check_loads "check_loads" (defScope st_check_loads) (He.ga K "check_loads") cdv A outer s H E) (.Name "loads" pos) (tVar 0) := fun pos => pv 0
  have p0 := hP 0 (by decide)
  have w0 : ∀ pos : Pos, PE (cxOf (L2N.CX P w) P w K mg base N_check_loads "check_loads" (defScope st_check_loads) (He.ga K "check_loads") cdv A outer s H E) (.Name "loads" pos) (DE Γ (eVar 0)) := fun pos => v_var (v0 pos) p0
  have hr1 := hr.mono (show 1 ≤ 6 by decide)
  have l_is_sequence : Gl (cxOf (L2N.CX P w) P w K mg base N_check_loads "check_loads" (defScope st_check_loads) (He.ga K "check_loads") cdv A outer s H E) "is_sequence" := by rfl
  have q_is_sequence : (("is_sequence" : Str) == ("__debug__" : Str)) = false := by decide
  have hr2 := hr.mono (show 2 ≤ 6 by decide)
  have l_enumerate : Gl (cxOf (L2N.CX P w) P w K mg base N_check_loads "check_loads" (defScope st_check_loads) (He.ga K "check_loads") cdv A outer s H E) "enumerate" := by rfl
  have p2 := hP 2 (by decide)
  have p1 := hP 1 (by decide)
  have v2 : ∀ pos : Pos, PE (cxOf (L2N.CX P w) P w K mg base N_check_loads "check_loads" (defScope st_check_loads) (He.ga K "check_loads") cdv A outer s H E) (.Name "load" pos) (tVar 2) := fun pos => pv 2
  have w2 : ∀ pos : Pos, PE (cxOf (L2N.CX P w) P w K mg base N_check_loads "check_loads" (defScope st_check_loads) (He.ga K "check_loads") cdv A outer s H E) (.Name "load" pos) (DE Γ (eVar 2)) := fun pos => v_var (v2 pos) p2
  have hr6 := hr.mono (show 6 ≤ 6 by decide)
  have l_wrong_load : Gl (cxOf (L2N.CX P w) P w K mg base N_check_loads "check_loads" (defScope st_check_loads) (He.ga K "check_loads") cdv A outer s H E) "wrong_load" := by rfl
  have q_wrong_load : (("wrong_load" : Str) == ("__debug__" : Str)) = false := by decide
  have p3 := hP 3 (by decide)
  have v3 : ∀ pos : Pos, PE (cxOf (L2N.CX P w) P w K mg base N_check_loads "check_loads" (defScope st_check_loads) (He.ga K "check_loads") cdv A outer s H E) (.Name "what" pos) (tVar 3) := fun pos => pv 3
  have w3 : ∀ pos : Pos, PE (cxOf (L2N.CX P w) P w K mg base N_check_loads "check_loads" (defScope st_check_loads) (He.ga K "check_loads") cdv A outer s H E) (.Name "what" pos) (DE Γ (eVar 3)) := fun pos => v_var (v3 pos) p3
  have v1 : ∀ pos : Pos, PE (cxOf (L2N.CX P w) P w K mg base N_check_loads "check_loads" (defScope st_check_loads) (He.ga K "check_loads") cdv A outer s H E) (.Name "index" pos) (tVar 1) := fun pos => pv 1
  have w1 : ∀ pos : Pos, PE (cxOf (L2N.CX P w) P w K mg base N_check_loads "check_loads" (defScope st_check_loads) (He.ga K "check_loads") cdv A outer s H E) (.Name "index" pos) (DE Γ (eVar 1)) := fun pos => v_var (v1 pos) p1
  have q_load_row : (("load_row" : Str) == ("__debug__" : Str)) = false := by decide
  have l_tuple : Gl (cxOf (L2N.CX P w) P w K mg base N_check_loads "check_loads" (defScope st_check_loads) (He.ga K "check_loads") cdv A outer s H E) "tuple" := by rfl
  have r_tuple : ("tuple" : Str) ≠ "__name__" := by decide
  have q_tuple : (("tuple" : Str) == ("__debug__" : Str)) = false := by decide
  refine ss_cons (s_if (t_not (t_tru hx (v_call hx tk d_is_sequence hr1 l_is_sequence (b_val (w0 _) (b_val v_int (b_val (v_const c_MOST_LOADS hx l_MOST_LOADS q_MOST_LOADS) b_nil star_Name) star_Constant) star_Name) q_is_sequence star_Name rfl) (fun _ => rfl)))
 (by exact ss_one (s_raise hx rfl tk e_BadLoads hr2 (by rfl) (v_cons v_int (v_cons v_str v_nil star_Constant) star_Constant)))
 ss_nil) ?_
  refine ss_cons (s_for (is := [1, 2]) (ps_for po rfl (i_enum hx l_enumerate n_enumerate (v_cons (w0 _) v_nil star_Name) rfl) (g_tl hx rfl (gs_cons (g_name (pg_name sc_check_loads.nd rfl (by first | exact Or.inl rfl | exact Or.inr rfl)) p1) (gs_cons (g_name (pg_name sc_check_loads.nd rfl (by first | exact Or.inl rfl | exact Or.inr rfl)) p2) gs_nil)))
 (by refine ss_cons (s_asg (ps_set (i := 3) sc_check_loads.nd rfl (by first | exact Or.inl rfl | exact Or.inr rfl) (v_call hx tk d_wrong_load hr6 l_wrong_load (b_val (w2 _) b_nil star_Name) q_wrong_load star_Name rfl)) p3) ?_; exact ss_one (s_if (t_cmp op_notA s_isnot (w3 _) v_non rfl)
 (by exact ss_one (s_raise hx rfl tk e_BadLoads hr2 (by rfl) (v_cons (w1 _) (v_cons (w3 _) v_nil star_Name) star_Name)))
 ss_nil)))) ?_
  exact ss_one (s_ret (v_tupleC hx l_tuple n_tuple (by decide +kernel) (v_cons (v_frz (f_lc (own := [("load", 2)]) (is := [2]) rfl sc_check_loads.nd hx (i_seq hx (w0 _)) (blkOk_by (own := [("load", 2)]) (N := N_check_loads) (sc := defScope st_check_loads) (by decide +kernel)) (fun j hj => hP j (ownNot [2] [false] hj (by decide))) (by decide) (fun s0 H0 C0 cl0 fp0 Γ hx hΓ tk => blkP hΓ hP fun hP => ⟨(g_name (pg_name sc_check_loads.nd rfl (by first | exact Or.inl rfl | exact Or.inr rfl)) (hP 2 (by decide))), ts_nil, (v_call hx tk d_load_row hr1 (by rfl) (b_val (v_var (pv 2) (hP 2 (by decide))) b_nil star_Name) q_load_row star_Name rfl)⟩))) v_nil star_ListComp) r_tuple q_tuple star_ListComp rfl))
end
abbrev st__law_try : Stmt := top 49
abbrev N__law_try : List Str := ["_law_loads", "_law_found", "wrong"]
theorem sc__law_try : FnScope N__law_try ["_law_loads"] (defScope st__law_try) := ⟨rfl, rfl, rfl, by decide +kernel, rfl, by decide +kernel, by decide +kernel⟩
section
variable {P : Program} {w : World} {K : PySem.W.Frag} {mg : Str → Option Value} {base : Heap}
theorem ok__law_try {fd : FuncData} (F : FunD K "_law_try" "_law_try" (defArgs st__law_try) (defBody st__law_try) (defScope st__law_try) [] [] (He.ga K "_law_try") fd) (d_check_loads : Def P w K mg base 7 "check_loads" ["loads"] [false] F_check_loads) (e_BadLoads : ExcCl P w K mg base "BadLoads" ["index", "what"]) (m_BadLoads : PySem.W.exmOne K (.ref e_BadLoads.C) (.ref e_BadLoads.C) = some true) :
    FnOk P w K mg base (L2N.CX P w) 8 (He.ga K "_law_try") fd ["_law_loads"] (spF K mg [false] F__law_try) := by
  refine fn_ok F sc__law_try rfl (fun cdv A outer s H E Γ hr hx hP tk po => ?_)
  have p2 := hP 2 (by decide)
  have hr7 := hr.mono (show 7 ≤ 7 by decide)
  have q_check_loads : (("check_loads" : Str) == ("__debug__" : Str)) = false := by decide
  have v1 : ∀ pos : Pos, PE (cxOf (L2N.CX P w) P w K mg base N__law_try "_law_try" (defScope st__law_try) (He.ga K "_law_try") cdv A outer s H E) (.Name "_law_found" pos) (tVar 1) := fun pos => pv 1
  have p1 := hP 1 (by decide)
  have w1 : ∀ pos : Pos, PE (cxOf (L2N.CX P w) P w K mg base N__law_try "_law_try" (defScope st__law_try) (He.ga K "_law_try") cdv A outer s H E) (.Name "_law_found" pos) (DE Γ (eVar 1)) := fun pos => v_var (v1 pos) p1
  refine ss_cons (s_try (i := 2) (x := "BadLoads") (hv := .ref e_BadLoads.C) hx p2 rfl rfl sc__law_try.nd rfl rfl ⟨rfl, by decide, Or.inl e_BadLoads.gm⟩ tk (onlyM e_BadLoads.gm m_BadLoads)
 (fun pn xe Γ hx hΓ tk po => tryP hΓ hP fun hP => (by exact ss_one (s_asg (ps_set (i := 1) sc__law_try.nd rfl (by first | exact Or.inl rfl | exact Or.inr rfl) (v_call hx tk d_check_loads hr7 (by rfl) (b_val (v_var (pv 0) (hP 0 (by decide))) b_nil star_Name) q_check_loads star_Name rfl)) (hP 1 (by decide)))))
 (fun a oe pn c0 C0 dd ws fs Γ hz hf hmc hmg hx hPi hPo hd rf => onlyD hmc hmg e_BadLoads.gm fun eC => by subst eC; exact suiteP (i := 2) hPo hP fun hP => (by exact ss_one (s_asg (ps_set (i := 1) sc__law_try.nd rfl (by first | exact Or.inl rfl | exact Or.inr rfl) (v_lst (v_cons (v_xf e_BadLoads.xf (e_BadLoads.no _ (by decide)) hz hf (pv 2) hPi hd rf) (v_cons (v_xf e_BadLoads.xf (e_BadLoads.no _ (by decide)) hz hf (pv 2) hPi hd rf) v_nil star_Attribute) star_Attribute))) (hP 1 (by decide)))))) ?_
  exact ss_one (s_ret (w1 _))
end
abbrev st__law_gcd : Stmt := top 37
abbrev N__law_gcd : List Str := ["_law_one", "_law_other"]
theorem sc__law_gcd : FnScope N__law_gcd ["_law_one", "_law_other"] (defScope st__law_gcd) := ⟨rfl, rfl, rfl, by decide +kernel, rfl, by decide +kernel, by decide +kernel⟩
section
variable {P : Program} {w : World} {K : PySem.W.Frag} {mg : Str → Option Value} {base : Heap}
theorem ok__law_gcd {fd : FuncData} (F : FunD K "_law_gcd" "_law_gcd" (defArgs st__law_gcd) (defBody st__law_gcd) (defScope st__law_gcd) [] [] (He.ga K "_law_gcd") fd) (n_abs : mg "abs" = none) (n_int : mg "int" = none) :
    FnOk P w K mg base (L2N.CX P w) 1 (He.ga K "_law_gcd") fd ["_law_one", "_law_other"] (spF K mg [false, false] F__law_gcd) := by
  refine fn_ok F sc__law_gcd rfl (fun cdv A outer s H E Γ hr hx hP tk po => ?_)
  have v1 : ∀ pos : Pos, PE (cxOf (L2N.CX P w) P w K mg base N__law_gcd "_law_gcd" (defScope st__law_gcd) (He.ga K "_law_gcd") cdv A outer s H E) (.Name "_law_other" pos) (tVar 1) := fun pos => pv 1
  have p1 := hP 1 (by decide)
  have w1 : ∀ pos : Pos, PE (cxOf (L2N.CX P w) P w K mg base N__law_gcd "_law_gcd" (defScope st__law_gcd) (He.ga K "_law_gcd") cdv A outer s H E) (.Name "_law_other" pos) (DE Γ (eVar 1)) := fun pos => v_var (v1 pos) p1
  have l_abs : Gl (cxOf (L2N.CX P w) P w K mg base N__law_gcd "_law_gcd" (defScope st__law_gcd) (He.ga K "_law_gcd") cdv A outer s H E) "abs" := by rfl
  have r_abs : ("abs" : Str) ≠ "__name__" := by decide
  have q_abs : (("abs" : Str) == ("__debug__" : Str)) = false := by decide
  have v0 : ∀ pos : Pos, PE (cxOf (L2N.CX P w) P w K mg base N__law_gcd "_law_gcd" (defScope st__law_gcd) (He.ga K "_law_gcd") cdv A outer s H E) (.Name "_law_one" pos) (tVar 0) := fun pos => pv 0
  have p0 := hP 0 (by decide)
  have w0 : ∀ pos : Pos, PE (cxOf (L2N.CX P w) P w K mg base N__law_gcd "_law_gcd" (defScope st__law_gcd) (He.ga K "_law_gcd") cdv A outer s H E) (.Name "_law_one" pos) (DE Γ (eVar 0)) := fun pos => v_var (v0 pos) p0
  have l_int : Gl (cxOf (L2N.CX P w) P w K mg base N__law_gcd "_law_gcd" (defScope st__law_gcd) (He.ga K "_law_gcd") cdv A outer s H E) "int" := by rfl
  have r_int : ("int" : Str) ≠ "__name__" := by decide
  have q_int : (("int" : Str) == ("__debug__" : Str)) = false := by decide
  refine ss_cons (s_par (ps_par (i := 0) (j := 1) (by rfl) sc__law_gcd.nd rfl rfl (by decide) rfl rfl (v_cons (v_callB call_abs c_abs l_abs n_abs (by decide +kernel) (v_cons (w0 _) v_nil star_Name) r_abs q_abs star_Name rfl) (v_cons (v_callB call_abs c_abs l_abs n_abs (by decide +kernel) (v_cons (w1 _) v_nil star_Name) r_abs q_abs star_Name rfl) v_nil star_Call) star_Call) (by rfl)) p0 p1) ?_
  refine ss_cons (s_while (ps_while po (t_tru hx (w1 _) (fun _ => rfl))
 (by exact ss_one (s_par (ps_par (i := 0) (j := 1) (by rfl) sc__law_gcd.nd rfl rfl (by decide) rfl rfl (v_cons (w1 _) (v_cons (v_op op_modN s_mod (v_callTy call_int1 c_int l_int n_int (by decide +kernel) (v_cons (w0 _) v_nil star_Name) r_int q_int star_Name rfl) (w1 _)) v_nil star_BinOp) star_Name) (by rfl)) p0 p1)))) ?_
  exact ss_one (s_ret (w0 _))
end
abbrev st__law_ratio : Stmt := top 38
abbrev N__law_ratio : List Str := ["_law_top", "_law_bottom", "_law_part"]
theorem sc__law_ratio : FnScope N__law_ratio ["_law_top", "_law_bottom"] (defScope st__law_ratio) := ⟨rfl, rfl, rfl, by decide +kernel, rfl, by decide +kernel, by decide +kernel⟩
section
variable {P : Program} {w : World} {K : PySem.W.Frag} {mg : Str → Option Value} {base : Heap}
theorem ok__law_ratio {fd : FuncData} (F : FunD K "_law_ratio" "_law_ratio" (defArgs st__law_ratio) (defBody st__law_ratio) (defScope st__law_ratio) [] [] (He.ga K "_law_ratio") fd) (d__law_gcd : Def P w K mg base 1 "_law_gcd" ["_law_one", "_law_other"] [false, false] F__law_gcd) :
    FnOk P w K mg base (L2N.CX P w) 2 (He.ga K "_law_ratio") fd ["_law_top", "_law_bottom"] (spF K mg [false, false] F__law_ratio) := by
  refine fn_ok F sc__law_ratio rfl (fun cdv A outer s H E Γ hr hx hP tk po => ?_)
  have v1 : ∀ pos : Pos, PE (cxOf (L2N.CX P w) P w K mg base N__law_ratio "_law_ratio" (defScope st__law_ratio) (He.ga K "_law_ratio") cdv A outer s H E) (.Name "_law_bottom" pos) (tVar 1) := fun pos => pv 1
  have p1 := hP 1 (by decide)
  have w1 : ∀ pos : Pos, PE (cxOf (L2N.CX P w) P w K mg base N__law_ratio "_law_ratio" (defScope st__law_ratio) (He.ga K "_law_ratio") cdv A outer s H E) (.Name "_law_bottom" pos) (DE Γ (eVar 1)) := fun pos => v_var (v1 pos) p1
  have v0 : ∀ pos : Pos, PE (cxOf (L2N.CX P w) P w K mg base N__law_ratio "_law_ratio" (defScope st__law_ratio) (He.ga K "_law_ratio") cdv A outer s H E) (.Name "_law_top" pos) (tVar 0) := fun pos => pv 0
  have p0 := hP 0 (by decide)
  have w0 : ∀ pos : Pos, PE (cxOf (L2N.CX P w) P w K mg base N__law_ratio "_law_ratio" (defScope st__law_ratio) (He.ga K "_law_ratio") cdv A outer s H E) (.Name "_law_top" pos) (DE Γ (eVar 0)) := fun pos => v_var (v0 pos) p0
  have hr1 := hr.mono (show 1 ≤ 1 by decide)
  have l__law_gcd : Gl (cxOf (L2N.CX P w) P w K mg base N__law_ratio "_law_ratio" (defScope st__law_ratio) (He.ga K "_law_ratio") cdv A outer s H E) "_law_gcd" := by rfl
  have q__law_gcd : (("_law_gcd" : Str) == ("__debug__" : Str)) = false := by decide
  have p2 := hP 2 (by decide)
  have v2 : ∀ pos : Pos, PE (cxOf (L2N.CX P w) P w K mg base N__law_ratio "_law_ratio" (defScope st__law_ratio) (He.ga K "_law_ratio") cdv A outer s H E) (.Name "_law_part" pos) (tVar 2) := fun pos => pv 2
  have w2 : ∀ pos : Pos, PE (cxOf (L2N.CX P w) P w K mg base N__law_ratio "_law_ratio" (defScope st__law_ratio) (He.ga K "_law_ratio") cdv A outer s H E) (.Name "_law_part" pos) (DE Γ (eVar 2)) := fun pos => v_var (v2 pos) p2
  refine ss_cons (s_asg (ps_set (i := 2) sc__law_ratio.nd rfl (by first | exact Or.inl rfl | exact Or.inr rfl) (v_call hx tk d__law_gcd hr1 l__law_gcd (b_val (w0 _) (b_val (w1 _) b_nil star_Name) star_Name) q__law_gcd star_Name rfl)) p2) ?_
  refine ss_cons (s_if (t_cmp op_lt s_cmp (w1 _) v_int rfl)
 (by exact ss_one (s_asg (ps_set (i := 2) sc__law_ratio.nd rfl (by first | exact Or.inl rfl | exact Or.inr rfl) (v_un un_neg s_neg (w2 _))) p2))
 ss_nil) ?_
  exact ss_one (s_ret (v_tup (v_cons (v_op op_fdivZ s_div (w0 _) (w2 _)) (v_cons (v_op op_fdivZ s_div (w1 _) (w2 _)) v_nil star_BinOp) star_BinOp)))
end
abbrev st__law_plus : Stmt := top 39
abbrev N__law_plus : List Str := ["_law_one", "_law_other"]
theorem sc__law_plus : FnScope N__law_plus ["_law_one", "_law_other"] (defScope st__law_plus) := ⟨rfl, rfl, rfl, by decide +kernel, rfl, by decide +kernel, by decide +kernel⟩
section
variable {P : Program} {w : World} {K : PySem.W.Frag} {mg : Str → Option Value} {base : Heap}
theorem ok__law_plus {fd : FuncData} (F : FunD K "_law_plus" "_law_plus" (defArgs st__law_plus) (defBody st__law_plus) (defScope st__law_plus) [] [] (He.ga K "_law_plus") fd) (d__law_ratio : Def P w K mg base 2 "_law_ratio" ["_law_top", "_law_bottom"] [false, false] F__law_ratio) :
    FnOk P w K mg base (L2N.CX P w) 3 (He.ga K "_law_plus") fd ["_law_one", "_law_other"] (spF K mg [false, false] F__law_plus) := by
  refine fn_ok F sc__law_plus rfl (fun cdv A outer s H E Γ hr hx hP tk po => ?_)
  have v0 : ∀ pos : Pos, PE (cxOf (L2N.CX P w) P w K mg base N__law_plus "_law_plus" (defScope st__law_plus) (He.ga K "_law_plus") cdv A outer s H E) (.Name "_law_one" pos) (tVar 0) := fun pos => pv 0
  have p0 := hP 0 (by decide)
  have w0 : ∀ pos : Pos, PE (cxOf (L2N.CX P w) P w K mg base N__law_plus "_law_plus" (defScope st__law_plus) (He.ga K "_law_plus") cdv A outer s H E) (.Name "_law_one" pos) (DE Γ (eVar 0)) := fun pos => v_var (v0 pos) p0
  have v1 : ∀ pos : Pos, PE (cxOf (L2N.CX P w) P w K mg base N__law_plus "_law_plus" (defScope st__law_plus) (He.ga K "_law_plus") cdv A outer s H E) (.Name "_law_other" pos) (tVar 1) := fun pos => pv 1
  have p1 := hP 1 (by decide)
  have w1 : ∀ pos : Pos, PE (cxOf (L2N.CX P w) P w K mg base N__law_plus "_law_plus" (defScope st__law_plus) (He.ga K "_law_plus") cdv A outer s H E) (.Name "_law_other" pos) (DE Γ (eVar 1)) := fun pos => v_var (v1 pos) p1
  have hr2 := hr.mono (show 2 ≤ 2 by decide)
  have l__law_ratio : Gl (cxOf (L2N.CX P w) P w K mg base N__law_plus "_law_plus" (defScope st__law_plus) (He.ga K "_law_plus") cdv A outer s H E) "_law_ratio" := by rfl
  have q__law_ratio : (("_law_ratio" : Str) == ("__debug__" : Str)) = false := by decide
  exact ss_one (s_ret (v_call hx tk d__law_ratio hr2 l__law_ratio (b_val (v_add hx (v_op op_mulA s_mul (v_ix hx (w0 _) v_int (fun _ _ => rfl)) (v_ix hx (w1 _) v_int (fun _ _ => rfl))) (v_op op_mulA s_mul (v_ix hx (w1 _) v_int (fun _ _ => rfl)) (v_ix hx (w0 _) v_int (fun _ _ => rfl)))) (b_val (v_op op_mulA s_mul (v_ix hx (w0 _) v_int (fun _ _ => rfl)) (v_ix hx (w1 _) v_int (fun _ _ => rfl))) b_nil star_BinOp) star_BinOp) q__law_ratio star_BinOp rfl))
end
abbrev st__law_sum : Stmt := top 42
abbrev N__law_sum : List Str := ["_law_rows", "_law_found", "_law_row"]
theorem sc__law_sum : FnScope N__law_sum ["_law_rows"] (defScope st__law_sum) := ⟨rfl, rfl, rfl, by decide +kernel, rfl, by decide +kernel, by decide +kernel⟩
section
variable {P : Program} {w : World} {K : PySem.W.Frag} {mg : Str → Option Value} {base : Heap}
theorem ok__law_sum {fd : FuncData} (F : FunD K "_law_sum" "_law_sum" (defArgs st__law_sum) (defBody st__law_sum) (defScope st__law_sum) [] [] (He.ga K "_law_sum") fd) (d__law_plus : Def P w K mg base 3 "_law_plus" ["_law_one", "_law_other"] [false, false] F__law_plus) :
    FnOk P w K mg base (L2N.CX P w) 4 (He.ga K "_law_sum") fd ["_law_rows"] (spF K mg [false] F__law_sum) := by
  refine fn_ok F sc__law_sum rfl (fun cdv A outer s H E Γ hr hx hP tk po => ?_)
  have p1 := hP 1 (by decide)
  have v0 : ∀ pos : Pos, PE (cxOf (L2N.CX P w) P w K mg base N__law_sum "_law_sum" (defScope st__law_sum) (He.ga K "_law_sum") cdv A outer s H E) (.Name "_law_rows" pos) (tVar 0) := fun pos => pv 0
  have p0 := hP 0 (by decide)
  have w0 : ∀ pos : Pos, PE (cxOf (L2N.CX P w) P w K mg base N__law_sum "_law_sum" (defScope st__law_sum) (He.ga K "_law_sum") cdv A outer s H E) (.Name "_law_rows" pos) (DE Γ (eVar 0)) := fun pos => v_var (v0 pos) p0
  have p2 := hP 2 (by decide)
  have v2 : ∀ pos : Pos, PE (cxOf (L2N.CX P w) P w K mg base N__law_sum "_law_sum" (defScope st__law_sum) (He.ga K "_law_sum") cdv A outer s H E) (.Name "_law_row" pos) (tVar 2) := fun pos => pv 2
  have w2 : ∀ pos : Pos, PE (cxOf (L2N.CX P w) P w K mg base N__law_sum "_law_sum" (defScope st__law_sum) (He.ga K "_law_sum") cdv A outer s H E) (.Name "_law_row" pos) (DE Γ (eVar 2)) := fun pos => v_var (v2 pos) p2
  have v1 : ∀ pos : Pos, PE (cxOf (L2N.CX P w) P w K mg base N__law_sum "_law_sum" (defScope st__law_sum) (He.ga K "_law_sum") cdv A outer s H E) (.Name "_law_found" pos) (tVar 1) := fun pos => pv 1
  have w1 : ∀ pos : Pos, PE (cxOf (L2N.CX P w) P w K mg base N__law_sum "_law_sum" (defScope st__law_sum) (He.ga K "_law_sum") cdv A outer s H E) (.Name "_law_found" pos) (DE Γ (eVar 1)) := fun pos => v_var (v1 pos) p1
  have hr3 := hr.mono (show 3 ≤ 3 by decide)
  have l__law_plus : Gl (cxOf (L2N.CX P w) P w K mg base N__law_sum "_law_sum" (defScope st__law_sum) (He.ga K "_law_sum") cdv A outer s H E) "_law_plus" := by rfl
  have q__law_plus : (("_law_plus" : Str) == ("__debug__" : Str)) = false := by decide
  refine ss_cons (s_asg (ps_set (i := 1) sc__law_sum.nd rfl (by first | exact Or.inl rfl | exact Or.inr rfl) (v_tup (v_cons v_int (v_cons v_int v_nil star_Constant) star_Constant))) p1) ?_
  refine ss_cons (s_for (is := [2]) (ps_for po rfl (i_seq hx (w0 _)) (g_name (pg_name sc__law_sum.nd rfl (by first | exact Or.inl rfl | exact Or.inr rfl)) p2)
 (by exact ss_one (s_asg (ps_set (i := 1) sc__law_sum.nd rfl (by first | exact Or.inl rfl | exact Or.inr rfl) (v_call hx tk d__law_plus hr3 l__law_plus (b_val (w1 _) (b_val (w2 _) b_nil star_Name) star_Name) q__law_plus star_Name rfl)) p1)))) ?_
  exact ss_one (s_ret (w1 _))
end
abbrev st__law_times : Stmt := top 40
abbrev N__law_times : List Str := ["_law_one", "_law_other"]
theorem sc__law_times : FnScope N__law_times ["_law_one", "_law_other"] (defScope st__law_times) := ⟨rfl, rfl, rfl, by decide +kernel, rfl, by decide +kernel, by decide +kernel⟩
section
variable {P : Program} {w : World} {K : PySem.W.Frag} {mg : Str → Option Value} {base : Heap}
theorem ok__law_times {fd : FuncData} (F : FunD K "_law_times" "_law_times" (defArgs st__law_times) (defBody st__law_times) (defScope st__law_times) [] [] (He.ga K "_law_times") fd) (d__law_ratio : Def P w K mg base 2 "_law_ratio" ["_law_top", "_law_bottom"] [false, false] F__law_ratio) :
    FnOk P w K mg base (L2N.CX P w) 3 (He.ga K "_law_times") fd ["_law_one", "_law_other"] (spF K mg [false, false] F__law_times) := by
  refine fn_ok F sc__law_times rfl (fun cdv A outer s H E Γ hr hx hP tk po => ?_)
  have v0 : ∀ pos : Pos, PE (cxOf (L2N.CX P w) P w K mg base N__law_times "_law_times" (defScope st__law_times) (He.ga K "_law_times") cdv A outer s H E) (.Name "_law_one" pos) (tVar 0) := fun pos => pv 0
  have p0 := hP 0 (by decide)
  have w0 : ∀ pos : Pos, PE (cxOf (L2N.CX P w) P w K mg base N__law_times "_law_times" (defScope st__law_times) (He.ga K "_law_times") cdv A outer s H E) (.Name "_law_one" pos) (DE Γ (eVar 0)) := fun pos => v_var (v0 pos) p0
  have v1 : ∀ pos : Pos, PE (cxOf (L2N.CX P w) P w K mg base N__law_times "_law_times" (defScope st__law_times) (He.ga K "_law_times") cdv A outer s H E) (.Name "_law_other" pos) (tVar 1) := fun pos => pv 1
  have p1 := hP 1 (by decide)
  have w1 : ∀ pos : Pos, PE (cxOf (L2N.CX P w) P w K mg base N__law_times "_law_times" (defScope st__law_times) (He.ga K "_law_times") cdv A outer s H E) (.Name "_law_other" pos) (DE Γ (eVar 1)) := fun pos => v_var (v1 pos) p1
  have hr2 := hr.mono (show 2 ≤ 2 by decide)
  have l__law_ratio : Gl (cxOf (L2N.CX P w) P w K mg base N__law_times "_law_times" (defScope st__law_times) (He.ga K "_law_times") cdv A outer s H E) "_law_ratio" := by rfl
  have q__law_ratio : (("_law_ratio" : Str) == ("__debug__" : Str)) = false := by decide
  exact ss_one (s_ret (v_call hx tk d__law_ratio hr2 l__law_ratio (b_val (v_op op_mulA s_mul (v_ix hx (w0 _) v_int (fun _ _ => rfl)) (v_ix hx (w1 _) v_int (fun _ _ => rfl))) (b_val (v_op op_mulA s_mul (v_ix hx (w0 _) v_int (fun _ _ => rfl)) (v_ix hx (w1 _) v_int (fun _ _ => rfl))) b_nil star_BinOp) star_BinOp) q__law_ratio star_BinOp rfl))
end
abbrev st__law_centre : Stmt := top 48
abbrev N__law_centre : List Str := ["_law_loads", "_law_total", "_law_across", "_law_along", "_law_row"]
theorem sc__law_centre : FnScope N__law_centre ["_law_loads"] (defScope st__law_centre) := ⟨rfl, rfl, rfl, by decide +kernel, rfl, by decide +kernel, by decide +kernel⟩
section
variable {P : Program} {w : World} {K : PySem.W.Frag} {mg : Str → Option Value} {base : Heap}
theorem ok__law_centre {fd : FuncData} (F : FunD K "_law_centre" "_law_centre" (defArgs st__law_centre) (defBody st__law_centre) (defScope st__law_centre) [] [] (He.ga K "_law_centre") fd) (d__law_sum : Def P w K mg base 4 "_law_sum" ["_law_rows"] [false] F__law_sum) (d__law_times : Def P w K mg base 3 "_law_times" ["_law_one", "_law_other"] [false, false] F__law_times) :
    FnOk P w K mg base (L2N.CX P w) 5 (He.ga K "_law_centre") fd ["_law_loads"] (spF K mg [false] F__law_centre) := by
  refine fn_ok F sc__law_centre rfl (fun cdv A outer s H E Γ hr hx hP tk po => ?_)
  have v0 : ∀ pos : Pos, PE (cxOf (L2N.CX P w) P w K mg base N__law_centre "_law_centre" (defScope st__law_centre) (He.ga K "_law_centre") cdv A outer s H E) (.Name "_law_loads" pos) (tVar 0) := fun pos => pv 0
  have p0 := hP 0 (by decide)
  have w0 : ∀ pos : Pos, PE (cxOf (L2N.CX P w) P w K mg base N__law_centre "_law_centre" (defScope st__law_centre) (He.ga K "_law_centre") cdv A outer s H E) (.Name "_law_loads" pos) (DE Γ (eVar 0)) := fun pos => v_var (v0 pos) p0
  have hr4 := hr.mono (show 4 ≤ 4 by decide)
  have l__law_sum : Gl (cxOf (L2N.CX P w) P w K mg base N__law_centre "_law_centre" (defScope st__law_centre) (He.ga K "_law_centre") cdv A outer s H E) "_law_sum" := by rfl
  have q__law_sum : (("_law_sum" : Str) == ("__debug__" : Str)) = false := by decide
  have p1 := hP 1 (by decide)
  have hr3 := hr.mono (show 3 ≤ 4 by decide)
  have q__law_times : (("_law_times" : Str) == ("__debug__" : Str)) = false := by decide
  have p2 := hP 2 (by decide)
  have p3 := hP 3 (by decide)
  have v3 : ∀ pos : Pos, PE (cxOf (L2N.CX P w) P w K mg base N__law_centre "_law_centre" (defScope st__law_centre) (He.ga K "_law_centre") cdv A outer s H E) (.Name "_law_along" pos) (tVar 3) := fun pos => pv 3
  have w3 : ∀ pos : Pos, PE (cxOf (L2N.CX P w) P w K mg base N__law_centre "_law_centre" (defScope st__law_centre) (He.ga K "_law_centre") cdv A outer s H E) (.Name "_law_along" pos) (DE Γ (eVar 3)) := fun pos => v_var (v3 pos) p3
  have v2 : ∀ pos : Pos, PE (cxOf (L2N.CX P w) P w K mg base N__law_centre "_law_centre" (defScope st__law_centre) (He.ga K "_law_centre") cdv A outer s H E) (.Name "_law_across" pos) (tVar 2) := fun pos => pv 2
  have w2 : ∀ pos : Pos, PE (cxOf (L2N.CX P w) P w K mg base N__law_centre "_law_centre" (defScope st__law_centre) (He.ga K "_law_centre") cdv A outer s H E) (.Name "_law_across" pos) (DE Γ (eVar 2)) := fun pos => v_var (v2 pos) p2
  have v1 : ∀ pos : Pos, PE (cxOf (L2N.CX P w) P w K mg base N__law_centre "_law_centre" (defScope st__law_centre) (He.ga K "_law_centre") cdv A outer s H E) (.Name "_law_total" pos) (tVar 1) := fun pos => pv 1
  have w1 : ∀ pos : Pos, PE (cxOf (L2N.CX P w) P w K mg base N__law_centre "_law_centre" (defScope st__law_centre) (He.ga K "_law_centre") cdv A outer s H E) (.Name "_law_total" pos) (DE Γ (eVar 1)) := fun pos => v_var (v1 pos) p1
  refine ss_cons (s_asg (ps_set (i := 1) sc__law_centre.nd rfl (by first | exact Or.inl rfl | exact Or.inr rfl) (v_call hx tk d__law_sum hr4 l__law_sum (b_val (v_frz (f_lc (own := [("_law_row", 4)]) (is := [4]) rfl sc__law_centre.nd hx (i_seq hx (w0 _)) (blkOk_by (own := [("_law_row", 4)]) (N := N__law_centre) (sc := defScope st__law_centre) (by decide +kernel)) (fun j hj => hP j (ownNot [4] [false] hj (by decide))) (by decide) (fun s0 H0 C0 cl0 fp0 Γ hx hΓ tk => blkP hΓ hP fun hP => ⟨(g_name (pg_name sc__law_centre.nd rfl (by first | exact Or.inl rfl | exact Or.inr rfl)) (hP 4 (by decide))), ts_nil, (v_ix hx (v_var (pv 4) (hP 4 (by decide))) v_int (fun _ _ => rfl))⟩))) b_nil star_ListComp) q__law_sum star_ListComp rfl)) p1) ?_
  refine ss_cons (s_asg (ps_set (i := 2) sc__law_centre.nd rfl (by first | exact Or.inl rfl | exact Or.inr rfl) (v_call hx tk d__law_sum hr4 l__law_sum (b_val (v_frz (f_lc (own := [("_law_row", 4)]) (is := [4]) rfl sc__law_centre.nd hx (i_seq hx (w0 _)) (blkOk_by (own := [("_law_row", 4)]) (N := N__law_centre) (sc := defScope st__law_centre) (by decide +kernel)) (fun j hj => hP j (ownNot [4] [false] hj (by decide))) (by decide) (fun s0 H0 C0 cl0 fp0 Γ hx hΓ tk => blkP hΓ hP fun hP => ⟨(g_name (pg_name sc__law_centre.nd rfl (by first | exact Or.inl rfl | exact Or.inr rfl)) (hP 4 (by decide))), ts_nil, (v_call hx tk d__law_times hr3 (by rfl) (b_val (v_ix hx (v_var (pv 4) (hP 4 (by decide))) v_int (fun _ _ => rfl)) (b_val (v_ix hx (v_ix hx (v_var (pv 4) (hP 4 (by decide))) v_int (fun _ _ => rfl)) v_int (fun _ _ => rfl)) b_nil star_Subscript) star_Subscript) q__law_times star_Subscript rfl)⟩))) b_nil star_ListComp) q__law_sum star_ListComp rfl)) p2) ?_
  refine ss_cons (s_asg (ps_set (i := 3) sc__law_centre.nd rfl (by first | exact Or.inl rfl | exact Or.inr rfl) (v_call hx tk d__law_sum hr4 l__law_sum (b_val (v_frz (f_lc (own := [("_law_row", 4)]) (is := [4]) rfl sc__law_centre.nd hx (i_seq hx (w0 _)) (blkOk_by (own := [("_law_row", 4)]) (N := N__law_centre) (sc := defScope st__law_centre) (by decide +kernel)) (fun j hj => hP j (ownNot [4] [false] hj (by decide))) (by decide) (fun s0 H0 C0 cl0 fp0 Γ hx hΓ tk => blkP hΓ hP fun hP => ⟨(g_name (pg_name sc__law_centre.nd rfl (by first | exact Or.inl rfl | exact Or.inr rfl)) (hP 4 (by decide))), ts_nil, (v_call hx tk d__law_times hr3 (by rfl) (b_val (v_ix hx (v_var (pv 4) (hP 4 (by decide))) v_int (fun _ _ => rfl)) (b_val (v_ix hx (v_ix hx (v_var (pv 4) (hP 4 (by decide))) v_int (fun _ _ => rfl)) v_int (fun _ _ => rfl)) b_nil star_Subscript) star_Subscript) q__law_times star_Subscript rfl)⟩))) b_nil star_ListComp) q__law_sum star_ListComp rfl)) p3) ?_
  exact ss_one (s_ret (v_tup (v_cons (w1 _) (v_cons (w2 _) (v_cons (w3 _) v_nil star_Name) star_Name) star_Name)))
end
abbrev st__in_lowest_terms : Stmt := top 14
abbrev N__in_lowest_terms : List Str := ["top", "bottom", "common"]
theorem sc__in_lowest_terms : FnScope N__in_lowest_terms ["top", "bottom"] (defScope st__in_lowest_terms) := ⟨rfl, rfl, rfl, by decide +kernel, rfl, by decide +kernel, by decide +kernel⟩
section
variable {P : Program} {w : World} {K : PySem.W.Frag} {mg : Str → Option Value} {base : Heap}
theorem ok__in_lowest_terms {fd : FuncData} (F : FunD K "_in_lowest_terms" "_in_lowest_terms" (defArgs st__in_lowest_terms) (defBody st__in_lowest_terms) (defScope st__in_lowest_terms) [] [] (He.ga K "_in_lowest_terms") fd) (g_gcd : mg "gcd" = some (.builtin "math.gcd")) :
    FnOk P w K mg base (L2N.CX P w) 1 (He.ga K "_in_lowest_terms") fd ["top", "bottom"] (spF K mg [false, false] F__in_lowest_terms) := by
  refine fn_ok F sc__in_lowest_terms rfl (fun cdv A outer s H E Γ hr hx hP tk po => ?_)
  have v1 : ∀ pos : Pos, PE (cxOf (L2N.CX P w) P w K mg base N__in_lowest_terms "_in_lowest_terms" (defScope st__in_lowest_terms) (He.ga K "_in_lowest_terms") cdv A outer s H E) (.Name "bottom" pos) (tVar 1) := fun pos => pv 1
  have p1 := hP 1 (by decide)
  have w1 : ∀ pos : Pos, PE (cxOf (L2N.CX P w) P w K mg base N__in_lowest_terms "_in_lowest_terms" (defScope st__in_lowest_terms) (He.ga K "_in_lowest_terms") cdv A outer s H E) (.Name "bottom" pos) (DE Γ (eVar 1)) := fun pos => v_var (v1 pos) p1
  have v0 : ∀ pos : Pos, PE (cxOf (L2N.CX P w) P w K mg base N__in_lowest_terms "_in_lowest_terms" (defScope st__in_lowest_terms) (He.ga K "_in_lowest_terms") cdv A outer s H E) (.Name "top" pos) (tVar 0) := fun pos => pv 0
  have p0 := hP 0 (by decide)
  have w0 : ∀ pos : Pos, PE (cxOf (L2N.CX P w) P w K mg base N__in_lowest_terms "_in_lowest_terms" (defScope st__in_lowest_terms) (He.ga K "_in_lowest_terms") cdv A outer s H E) (.Name "top" pos) (DE Γ (eVar 0)) := fun pos => v_var (v0 pos) p0
  have l_gcd : Gl (cxOf (L2N.CX P w) P w K mg base N__in_lowest_terms "_in_lowest_terms" (defScope st__in_lowest_terms) (He.ga K "_in_lowest_terms") cdv A outer s H E) "gcd" := by rfl
  have q_gcd : (("gcd" : Str) == ("__debug__" : Str)) = false := by decide
  have p2 := hP 2 (by decide)
  have v2 : ∀ pos : Pos, PE (cxOf (L2N.CX P w) P w K mg base N__in_lowest_terms "_in_lowest_terms" (defScope st__in_lowest_terms) (He.ga K "_in_lowest_terms") cdv A outer s H E) (.Name "common" pos) (tVar 2) := fun pos => pv 2
  have w2 : ∀ pos : Pos, PE (cxOf (L2N.CX P w) P w K mg base N__in_lowest_terms "_in_lowest_terms" (defScope st__in_lowest_terms) (He.ga K "_in_lowest_terms") cdv A outer s H E) (.Name "common" pos) (DE Γ (eVar 2)) := fun pos => v_var (v2 pos) p2
  refine ss_cons (s_asg (ps_set (i := 2) sc__in_lowest_terms.nd rfl (by first | exact Or.inl rfl | exact Or.inr rfl) (v_callBf cr_gcd c_gcd l_gcd g_gcd (v_cons (w0 _) (v_cons (w1 _) v_nil star_Name) star_Name) q_gcd star_Name rfl)) p2) ?_
  refine ss_cons (s_if (t_cmp op_lt s_cmp (w1 _) v_int rfl)
 (by exact ss_one (s_asg (ps_set (i := 2) sc__in_lowest_terms.nd rfl (by first | exact Or.inl rfl | exact Or.inr rfl) (v_un un_neg s_neg (w2 _))) p2))
 ss_nil) ?_
  exact ss_one (s_ret (v_tup (v_cons (v_op op_fdivZ s_div (w0 _) (w2 _)) (v_cons (v_op op_fdivZ s_div (w1 _) (w2 _)) v_nil star_BinOp) star_BinOp)))
end
abbrev st_plus : Stmt := top 15
abbrev N_plus : List Str := ["one", "two"]
theorem sc_plus : FnScope N_plus ["one", "two"] (defScope st_plus) := ⟨rfl, rfl, rfl, by decide +kernel, rfl, by decide +kernel, by decide +kernel⟩
section
variable {P : Program} {w : World} {K : PySem.W.Frag} {mg : Str → Option Value} {base : Heap}
theorem ok_plus {fd : FuncData} (F : FunD K "plus" "plus" (defArgs st_plus) (defBody st_plus) (defScope st_plus) [] [] (He.ga K "plus") fd) (d__in_lowest_terms : Def P w K mg base 1 "_in_lowest_terms" ["top", "bottom"] [false, false] F__in_lowest_terms) :
    FnOk P w K mg base (L2N.CX P w) 2 (He.ga K "plus") fd ["one", "two"] (spF K mg [false, false] F_plus) := by
  refine fn_ok F sc_plus rfl (fun cdv A outer s H E Γ hr hx hP tk po => ?_)
  have v0 : ∀ pos : Pos, PE (cxOf (L2N.CX P w) P w K mg base N_plus "plus" (defScope st_plus) (He.ga K "plus") cdv A outer s H E) (.Name "one" pos) (tVar 0) := fun pos => pv 0
  have p0 := hP 0 (by decide)
  have w0 : ∀ pos : Pos, PE (cxOf (L2N.CX P w) P w K mg base N_plus "plus" (defScope st_plus) (He.ga K "plus") cdv A outer s H E) (.Name "one" pos) (DE Γ (eVar 0)) := fun pos => v_var (v0 pos) p0
  have v1 : ∀ pos : Pos, PE (cxOf (L2N.CX P w) P w K mg base N_plus "plus" (defScope st_plus) (He.ga K "plus") cdv A outer s H E) (.Name "two" pos) (tVar 1) := fun pos => pv 1
  have p1 := hP 1 (by decide)
  have w1 : ∀ pos : Pos, PE (cxOf (L2N.CX P w) P w K mg base N_plus "plus" (defScope st_plus) (He.ga K "plus") cdv A outer s H E) (.Name "two" pos) (DE Γ (eVar 1)) := fun pos => v_var (v1 pos) p1
  have hr1 := hr.mono (show 1 ≤ 1 by decide)
  have l__in_lowest_terms : Gl (cxOf (L2N.CX P w) P w K mg base N_plus "plus" (defScope st_plus) (He.ga K "plus") cdv A outer s H E) "_in_lowest_terms" := by rfl
  have q__in_lowest_terms : (("_in_lowest_terms" : Str) == ("__debug__" : Str)) = false := by decide
  exact ss_one (s_ret (v_call hx tk d__in_lowest_terms hr1 l__in_lowest_terms (b_val (v_add hx (v_op op_mulA s_mul (v_ix hx (w0 _) v_int (fun _ _ => rfl)) (v_ix hx (w1 _) v_int (fun _ _ => rfl))) (v_op op_mulA s_mul (v_ix hx (w1 _) v_int (fun _ _ => rfl)) (v_ix hx (w0 _) v_int (fun _ _ => rfl)))) (b_val (v_op op_mulA s_mul (v_ix hx (w0 _) v_int (fun _ _ => rfl)) (v_ix hx (w1 _) v_int (fun _ _ => rfl))) b_nil star_BinOp) star_BinOp) q__in_lowest_terms star_BinOp rfl))
end
abbrev st_sum_of : Stmt := top 18
abbrev N_sum_of : List Str := ["ratios", "total", "ratio"]
theorem sc_sum_of : FnScope N_sum_of ["ratios"] (defScope st_sum_of) := ⟨rfl, rfl, rfl, by decide +kernel, rfl, by decide +kernel, by decide +kernel⟩
section
variable {P : Program} {w : World} {K : PySem.W.Frag} {mg : Str → Option Value} {base : Heap}
theorem ok_sum_of {fd : FuncData} (F : FunD K "sum_of" "sum_of" (defArgs st_sum_of) (defBody st_sum_of) (defScope st_sum_of) [] [] (He.ga K "sum_of") fd) (c_ZERO : Const K mg "ZERO" (.tup [.int 0, .int 1])) (d_plus : Def P w K mg base 2 "plus" ["one", "two"] [false, false] F_plus) :
    FnOk P w K mg base (L2N.CX P w) 3 (He.ga K "sum_of") fd ["ratios"] (spF K mg [false] F_sum_of) := by
  refine fn_ok F sc_sum_of rfl (fun cdv A outer s H E Γ hr hx hP tk po => ?_)
  have l_ZERO : Gl (cxOf (L2N.CX P w) P w K mg base N_sum_of "sum_of" (defScope st_sum_of) (He.ga K "sum_of") cdv A outer s H E) "ZERO" := by rfl
  have q_ZERO : (("ZERO" : Str) == ("__debug__" : Str)) = false := by decide
  have p1 := hP 1 (by decide)
  have v0 : ∀ pos : Pos, PE (cxOf (L2N.CX P w) P w K mg base N_sum_of "sum_of" (defScope st_sum_of) (He.ga K "sum_of") cdv A outer s H E) (.Name "ratios" pos) (tVar 0) := fun pos => pv 0
  have p0 := hP 0 (by decide)
  have w0 : ∀ pos : Pos, PE (cxOf (L2N.CX P w) P w K mg base N_sum_of "sum_of" (defScope st_sum_of) (He.ga K "sum_of") cdv A outer s H E) (.Name "ratios" pos) (DE Γ (eVar 0)) := fun pos => v_var (v0 pos) p0
  have p2 := hP 2 (by decide)
  have v2 : ∀ pos : Pos, PE (cxOf (L2N.CX P w) P w K mg base N_sum_of "sum_of" (defScope st_sum_of) (He.ga K "sum_of") cdv A outer s H E) (.Name "ratio" pos) (tVar 2) := fun pos => pv 2
  have w2 : ∀ pos : Pos, PE (cxOf (L2N.CX P w) P w K mg base N_sum_of "sum_of" (defScope st_sum_of) (He.ga K "sum_of") cdv A outer s H E) (.Name "ratio" pos) (DE Γ (eVar 2)) := fun pos => v_var (v2 pos) p2
  have v1 : ∀ pos : Pos, PE (cxOf (L2N.CX P w) P w K mg base N_sum_of "sum_of" (defScope st_sum_of) (He.ga K "sum_of") cdv A outer s H E) (.Name "total" pos) (tVar 1) := fun pos => pv 1
  have w1 : ∀ pos : Pos, PE (cxOf (L2N.CX P w) P w K mg base N_sum_of "sum_of" (defScope st_sum_of) (He.ga K "sum_of") cdv A outer s H E) (.Name "total" pos) (DE Γ (eVar 1)) := fun pos => v_var (v1 pos) p1
  have hr2 := hr.mono (show 2 ≤ 2 by decide)
  have l_plus : Gl (cxOf (L2N.CX P w) P w K mg base N_sum_of "sum_of" (defScope st_sum_of) (He.ga K "sum_of") cdv A outer s H E) "plus" := by rfl
  have q_plus : (("plus" : Str) == ("__debug__" : Str)) = false := by decide
  refine ss_cons (s_asg (ps_set (i := 1) sc_sum_of.nd rfl (by first | exact Or.inl rfl | exact Or.inr rfl) (v_const c_ZERO hx l_ZERO q_ZERO)) p1) ?_
  refine ss_cons (s_for (is := [2]) (ps_for po rfl (i_seq hx (w0 _)) (g_name (pg_name sc_sum_of.nd rfl (by first | exact Or.inl rfl | exact Or.inr rfl)) p2)
 (by exact ss_one (s_asg (ps_set (i := 1) sc_sum_of.nd rfl (by first | exact Or.inl rfl | exact Or.inr rfl) (v_call hx tk d_plus hr2 l_plus (b_val (w1 _) (b_val (w2 _) b_nil star_Name) star_Name) q_plus star_Name rfl)) p1)))) ?_
  exact ss_one (s_ret (w1 _))
end
abbrev st_total_of : Stmt := top 29
abbrev N_total_of : List Str := ["loads", "weight", "_"]
theorem sc_total_of : FnScope N_total_of ["loads"] (defScope st_total_of) := ⟨rfl, rfl, rfl, by decide +kernel, rfl, by decide +kernel, by decide +kernel⟩
section
variable {P : Program} {w : World} {K : PySem.W.Frag} {mg : Str → Option Value} {base : Heap}
theorem ok_total_of {fd : FuncData} (F : FunD K "total_of" "total_of" (defArgs st_total_of) (defBody st_total_of) (defScope st_total_of) [] [] (He.ga K "total_of") fd) (d_sum_of : Def P w K mg base 3 "sum_of" ["ratios"] [false] F_sum_of) :
    FnOk P w K mg base (L2N.CX P w) 4 (He.ga K "total_of") fd ["loads"] (spF K mg [false] F_total_of) := by
  refine fn_ok F sc_total_of rfl (fun cdv A outer s H E Γ hr hx hP tk po => ?_)
  have v0 : ∀ pos : Pos, PE (cxOf (L2N.CX P w) P w K mg base N_total_of "total_of" (defScope st_total_of) (He.ga K "total_of") cdv A outer s H E) (.Name "loads" pos) (tVar 0) := fun pos => pv 0
  have p0 := hP 0 (by decide)
  have w0 : ∀ pos : Pos, PE (cxOf (L2N.CX P w) P w K mg base N_total_of "total_of" (defScope st_total_of) (He.ga K "total_of") cdv A outer s H E) (.Name "loads" pos) (DE Γ (eVar 0)) := fun pos => v_var (v0 pos) p0
  have hr3 := hr.mono (show 3 ≤ 3 by decide)
  have l_sum_of : Gl (cxOf (L2N.CX P w) P w K mg base N_total_of "total_of" (defScope st_total_of) (He.ga K "total_of") cdv A outer s H E) "sum_of" := by rfl
  have q_sum_of : (("sum_of" : Str) == ("__debug__" : Str)) = false := by decide
  exact ss_one (s_ret (v_call hx tk d_sum_of hr3 l_sum_of (b_val (v_frz (f_lc (own := [("weight", 1), ("_", 2)]) (is := [1, 2]) rfl sc_total_of.nd hx (i_seq hx (w0 _)) (blkOk_by (own := [("weight", 1), ("_", 2)]) (N := N_total_of) (sc := defScope st_total_of) (by decide +kernel)) (fun j hj => hP j (ownNot [1, 2] [false] hj (by decide))) (by decide) (fun s0 H0 C0 cl0 fp0 Γ hx hΓ tk => blkP hΓ hP fun hP => ⟨(g_tl hx rfl (gs_cons (g_name (pg_name sc_total_of.nd rfl (by first | exact Or.inl rfl | exact Or.inr rfl)) (hP 1 (by decide))) (gs_cons (g_name (pg_name sc_total_of.nd rfl (by first | exact Or.inl rfl | exact Or.inr rfl)) (hP 2 (by decide))) gs_nil))), ts_nil, (v_var (pv 1) (hP 1 (by decide)))⟩))) b_nil star_ListComp) q_sum_of star_ListComp rfl))
end
abbrev st_times : Stmt := top 16
abbrev N_times : List Str := ["one", "two"]
theorem sc_times : FnScope N_times ["one", "two"] (defScope st_times) := ⟨rfl, rfl, rfl, by decide +kernel, rfl, by decide +kernel, by decide +kernel⟩
section
variable {P : Program} {w : World} {K : PySem.W.Frag} {mg : Str → Option Value} {base : Heap}
theorem ok_times {fd : FuncData} (F : FunD K "times" "times" (defArgs st_times) (defBody st_times) (defScope st_times) [] [] (He.ga K "times") fd) (d__in_lowest_terms : Def P w K mg base 1 "_in_lowest_terms" ["top", "bottom"] [false, false] F__in_lowest_terms) :
    FnOk P w K mg base (L2N.CX P w) 2 (He.ga K "times") fd ["one", "two"] (spF K mg [false, false] F_times) := by
  refine fn_ok F sc_times rfl (fun cdv A outer s H E Γ hr hx hP tk po => ?_)
  have v0 : ∀ pos : Pos, PE (cxOf (L2N.CX P w) P w K mg base N_times "times" (defScope st_times) (He.ga K "times") cdv A outer s H E) (.Name "one" pos) (tVar 0) := fun pos => pv 0
  have p0 := hP 0 (by decide)
  have w0 : ∀ pos : Pos, PE (cxOf (L2N.CX P w) P w K mg base N_times "times" (defScope st_times) (He.ga K "times") cdv A outer s H E) (.Name "one" pos) (DE Γ (eVar 0)) := fun pos => v_var (v0 pos) p0
  have v1 : ∀ pos : Pos, PE (cxOf (L2N.CX P w) P w K mg base N_times "times" (defScope st_times) (He.ga K "times") cdv A outer s H E) (.Name "two" pos) (tVar 1) := fun pos => pv 1
  have p1 := hP 1 (by decide)
  have w1 : ∀ pos : Pos, PE (cxOf (L2N.CX P w) P w K mg base N_times "times" (defScope st_times) (He.ga K "times") cdv A outer s H E) (.Name "two" pos) (DE Γ (eVar 1)) := fun pos => v_var (v1 pos) p1
  have hr1 := hr.mono (show 1 ≤ 1 by decide)
  have l__in_lowest_terms : Gl (cxOf (L2N.CX P w) P w K mg base N_times "times" (defScope st_times) (He.ga K "times") cdv A outer s H E) "_in_lowest_terms" := by rfl
  have q__in_lowest_terms : (("_in_lowest_terms" : Str) == ("__debug__" : Str)) = false := by decide
  exact ss_one (s_ret (v_call hx tk d__in_lowest_terms hr1 l__in_lowest_terms (b_val (v_op op_mulA s_mul (v_ix hx (w0 _) v_int (fun _ _ => rfl)) (v_ix hx (w1 _) v_int (fun _ _ => rfl))) (b_val (v_op op_mulA s_mul (v_ix hx (w0 _) v_int (fun _ _ => rfl)) (v_ix hx (w1 _) v_int (fun _ _ => rfl))) b_nil star_BinOp) star_BinOp) q__in_lowest_terms star_BinOp rfl))
end
abbrev st_moment_of : Stmt := top 30
abbrev N_moment_of : List Str := ["loads", "across", "along", "weight", "place"]
theorem sc_moment_of : FnScope N_moment_of ["loads"] (defScope st_moment_of) := ⟨rfl, rfl, rfl, by decide +kernel, rfl, by decide +kernel, by decide +kernel⟩
section
variable {P : Program} {w : World} {K : PySem.W.Frag} {mg : Str → Option Value} {base : Heap}
theorem ok_moment_of {fd : FuncData} (F : FunD K "moment_of" "moment_of" (defArgs st_moment_of) (defBody st_moment_of) (defScope st_moment_of) [] [] (He.ga K "moment_of") fd) (d_sum_of : Def P w K mg base 3 "sum_of" ["ratios"] [false] F_sum_of) (d_times : Def P w K mg base 2 "times" ["one", "two"] [false, false] F_times) :
    FnOk P w K mg base (L2N.CX P w) 4 (He.ga K "moment_of") fd ["loads"] (spF K mg [false] F_moment_of) := by
  refine fn_ok F sc_moment_of rfl (fun cdv A outer s H E Γ hr hx hP tk po => ?_)
  have v0 : ∀ pos : Pos, PE (cxOf (L2N.CX P w) P w K mg base N_moment_of "moment_of" (defScope st_moment_of) (He.ga K "moment_of") cdv A outer s H E) (.Name "loads" pos) (tVar 0) := fun pos => pv 0
  have p0 := hP 0 (by decide)
  have w0 : ∀ pos : Pos, PE (cxOf (L2N.CX P w) P w K mg base N_moment_of "moment_of" (defScope st_moment_of) (He.ga K "moment_of") cdv A outer s H E) (.Name "loads" pos) (DE Γ (eVar 0)) := fun pos => v_var (v0 pos) p0
  have hr2 := hr.mono (show 2 ≤ 3 by decide)
  have q_times : (("times" : Str) == ("__debug__" : Str)) = false := by decide
  have hr3 := hr.mono (show 3 ≤ 3 by decide)
  have l_sum_of : Gl (cxOf (L2N.CX P w) P w K mg base N_moment_of "moment_of" (defScope st_moment_of) (He.ga K "moment_of") cdv A outer s H E) "sum_of" := by rfl
  have q_sum_of : (("sum_of" : Str) == ("__debug__" : Str)) = false := by decide
  have p1 := hP 1 (by decide)
  have p2 := hP 2 (by decide)
  have v2 : ∀ pos : Pos, PE (cxOf (L2N.CX P w) P w K mg base N_moment_of "moment_of" (defScope st_moment_of) (He.ga K "moment_of") cdv A outer s H E) (.Name "along" pos) (tVar 2) := fun pos => pv 2
  have w2 : ∀ pos : Pos, PE (cxOf (L2N.CX P w) P w K mg base N_moment_of "moment_of" (defScope st_moment_of) (He.ga K "moment_of") cdv A outer s H E) (.Name "along" pos) (DE Γ (eVar 2)) := fun pos => v_var (v2 pos) p2
  have v1 : ∀ pos : Pos, PE (cxOf (L2N.CX P w) P w K mg base N_moment_of "moment_of" (defScope st_moment_of) (He.ga K "moment_of") cdv A outer s H E) (.Name "across" pos) (tVar 1) := fun pos => pv 1
  have w1 : ∀ pos : Pos, PE (cxOf (L2N.CX P w) P w K mg base N_moment_of "moment_of" (defScope st_moment_of) (He.ga K "moment_of") cdv A outer s H E) (.Name "across" pos) (DE Γ (eVar 1)) := fun pos => v_var (v1 pos) p1
  refine ss_cons (s_asg (ps_set (i := 1) sc_moment_of.nd rfl (by first | exact Or.inl rfl | exact Or.inr rfl) (v_call hx tk d_sum_of hr3 l_sum_of (b_val (v_frz (f_lc (own := [("weight", 3), ("place", 4)]) (is := [3, 4]) rfl sc_moment_of.nd hx (i_seq hx (w0 _)) (blkOk_by (own := [("weight", 3), ("place", 4)]) (N := N_moment_of) (sc := defScope st_moment_of) (by decide +kernel)) (fun j hj => hP j (ownNot [3, 4] [false] hj (by decide))) (by decide) (fun s0 H0 C0 cl0 fp0 Γ hx hΓ tk => blkP hΓ hP fun hP => ⟨(g_tl hx rfl (gs_cons (g_name (pg_name sc_moment_of.nd rfl (by first | exact Or.inl rfl | exact Or.inr rfl)) (hP 3 (by decide))) (gs_cons (g_name (pg_name sc_moment_of.nd rfl (by first | exact Or.inl rfl | exact Or.inr rfl)) (hP 4 (by decide))) gs_nil))), ts_nil, (v_call hx tk d_times hr2 (by rfl) (b_val (v_var (pv 3) (hP 3 (by decide))) (b_val (v_ix hx (v_var (pv 4) (hP 4 (by decide))) v_int (fun _ _ => rfl)) b_nil star_Subscript) star_Name) q_times star_Name rfl)⟩))) b_nil star_ListComp) q_sum_of star_ListComp rfl)) p1) ?_
  refine ss_cons (s_asg (ps_set (i := 2) sc_moment_of.nd rfl (by first | exact Or.inl rfl | exact Or.inr rfl) (v_call hx tk d_sum_of hr3 l_sum_of (b_val (v_frz (f_lc (own := [("weight", 3), ("place", 4)]) (is := [3, 4]) rfl sc_moment_of.nd hx (i_seq hx (w0 _)) (blkOk_by (own := [("weight", 3), ("place", 4)]) (N := N_moment_of) (sc := defScope st_moment_of) (by decide +kernel)) (fun j hj => hP j (ownNot [3, 4] [false] hj (by decide))) (by decide) (fun s0 H0 C0 cl0 fp0 Γ hx hΓ tk => blkP hΓ hP fun hP => ⟨(g_tl hx rfl (gs_cons (g_name (pg_name sc_moment_of.nd rfl (by first | exact Or.inl rfl | exact Or.inr rfl)) (hP 3 (by decide))) (gs_cons (g_name (pg_name sc_moment_of.nd rfl (by first | exact Or.inl rfl | exact Or.inr rfl)) (hP 4 (by decide))) gs_nil))), ts_nil, (v_call hx tk d_times hr2 (by rfl) (b_val (v_var (pv 3) (hP 3 (by decide))) (b_val (v_ix hx (v_var (pv 4) (hP 4 (by decide))) v_int (fun _ _ => rfl)) b_nil star_Subscript) star_Name) q_times star_Name rfl)⟩))) b_nil star_ListComp) q_sum_of star_ListComp rfl)) p2) ?_
  exact ss_one (s_ret (v_tup (v_cons (w1 _) (v_cons (w2 _) v_nil star_Name) star_Name)))
end
abbrev st_over : Stmt := top 17
abbrev N_over : List Str := ["one", "two"]
theorem sc_over : FnScope N_over ["one", "two"] (defScope st_over) := ⟨rfl, rfl, rfl, by decide +kernel, rfl, by decide +kernel, by decide +kernel⟩
section
variable {P : Program} {w : World} {K : PySem.W.Frag} {mg : Str → Option Value} {base : Heap}
theorem ok_over {fd : FuncData} (F : FunD K "over" "over" (defArgs st_over) (defBody st_over) (defScope st_over) [] [] (He.ga K "over") fd) (e_BadRatio : ExcCl P w K mg base "BadRatio" ["what"]) (d__in_lowest_terms : Def P w K mg base 1 "_in_lowest_terms" ["top", "bottom"] [false, false] F__in_lowest_terms) :
    FnOk P w K mg base (L2N.CX P w) 3 (He.ga K "over") fd ["one", "two"] (spF K mg [false, false] F_over) := by
  refine fn_ok F sc_over rfl (fun cdv A outer s H E Γ hr hx hP tk po => ?_)
  have v1 : ∀ pos : Pos, PE (cxOf (L2N.CX P w) P w K mg base N_over "over" (defScope st_over) (He.ga K "over") cdv A outer s H E) (.Name "two" pos) (tVar 1) := fun pos => pv 1
  have p1 := hP 1 (by decide)
  have w1 : ∀ pos : Pos, PE (cxOf (L2N.CX P w) P w K mg base N_over "over" (defScope st_over) (He.ga K "over") cdv A outer s H E) (.Name "two" pos) (DE Γ (eVar 1)) := fun pos => v_var (v1 pos) p1
  have hr2 := hr.mono (show 2 ≤ 2 by decide)
  have v0 : ∀ pos : Pos, PE (cxOf (L2N.CX P w) P w K mg base N_over "over" (defScope st_over) (He.ga K "over") cdv A outer s H E) (.Name "one" pos) (tVar 0) := fun pos => pv 0
  have p0 := hP 0 (by decide)
  have w0 : ∀ pos : Pos, PE (cxOf (L2N.CX P w) P w K mg base N_over "over" (defScope st_over) (He.ga K "over") cdv A outer s H E) (.Name "one" pos) (DE Γ (eVar 0)) := fun pos => v_var (v0 pos) p0
  have hr1 := hr.mono (show 1 ≤ 2 by decide)
  have l__in_lowest_terms : Gl (cxOf (L2N.CX P w) P w K mg base N_over "over" (defScope st_over) (He.ga K "over") cdv A outer s H E) "_in_lowest_terms" := by rfl
  have q__in_lowest_terms : (("_in_lowest_terms" : Str) == ("__debug__" : Str)) = false := by decide
  refine ss_cons (s_if (t_eq hx hr.units (v_ix hx (w1 _) v_int (fun _ _ => rfl)) v_int rfl)
 (by exact ss_one (s_raise hx rfl tk e_BadRatio hr2 (by rfl) (v_cons v_str v_nil star_Constant)))
 ss_nil) ?_
  exact ss_one (s_ret (v_call hx tk d__in_lowest_terms hr1 l__in_lowest_terms (b_val (v_op op_mulA s_mul (v_ix hx (w0 _) v_int (fun _ _ => rfl)) (v_ix hx (w1 _) v_int (fun _ _ => rfl))) (b_val (v_op op_mulA s_mul (v_ix hx (w0 _) v_int (fun _ _ => rfl)) (v_ix hx (w1 _) v_int (fun _ _ => rfl))) b_nil star_BinOp) star_BinOp) q__in_lowest_terms star_BinOp rfl))
end
abbrev st_centre_of : Stmt := top 31
abbrev N_centre_of : List Str := ["loads", "total", "across", "along"]
theorem sc_centre_of : FnScope N_centre_of ["loads"] (defScope st_centre_of) := ⟨rfl, rfl, rfl, by decide +kernel, rfl, by decide +kernel, by decide +kernel⟩
section
variable {P : Program} {w : World} {K : PySem.W.Frag} {mg : Str → Option Value} {base : Heap}
theorem ok_centre_of {fd : FuncData} (F : FunD K "centre_of" "centre_of" (defArgs st_centre_of) (defBody st_centre_of) (defScope st_centre_of) [] [] (He.ga K "centre_of") fd) (d_total_of : Def P w K mg base 4 "total_of" ["loads"] [false] F_total_of) (c_ZERO : Const K mg "ZERO" (.tup [.int 0, .int 1])) (n_len : mg "len" = none) (e_NoCentre : ExcCl P w K mg base "NoCentre" ["many"]) (d_moment_of : Def P w K mg base 4 "moment_of" ["loads"] [false] F_moment_of) (d_over : Def P w K mg base 3 "over" ["one", "two"] [false, false] F_over) :
    FnOk P w K mg base (L2N.CX P w) 5 (He.ga K "centre_of") fd ["loads"] (spF K mg [false] F_centre_of) := by
  refine fn_ok F sc_centre_of rfl (fun cdv A outer s H E Γ hr hx hP tk po => ?_)
  have v0 : ∀ pos : Pos, PE (cxOf (L2N.CX P w) P w K mg base N_centre_of "centre_of" (defScope st_centre_of) (He.ga K "centre_of") cdv A outer s H E) (.Name "loads" pos) (tVar 0) := fun pos => pv 0
  have p0 := hP 0 (by decide)
  have w0 : ∀ pos : Pos, PE (cxOf (L2N.CX P w) P w K mg base N_centre_of "centre_of" (defScope st_centre_of) (He.ga K "centre_of") cdv A outer s H E) (.Name "loads" pos) (DE Γ (eVar 0)) := fun pos => v_var (v0 pos) p0
  have hr4 := hr.mono (show 4 ≤ 4 by decide)
  have l_total_of : Gl (cxOf (L2N.CX P w) P w K mg base N_centre_of "centre_of" (defScope st_centre_of) (He.ga K "centre_of") cdv A outer s H E) "total_of" := by rfl
  have q_total_of : (("total_of" : Str) == ("__debug__" : Str)) = false := by decide
  have p1 := hP 1 (by decide)
  have v1 : ∀ pos : Pos, PE (cxOf (L2N.CX P w) P w K mg base N_centre_of "centre_of" (defScope st_centre_of) (He.ga K "centre_of") cdv A outer s H E) (.Name "total" pos) (tVar 1) := fun pos => pv 1
  have w1 : ∀ pos : Pos, PE (cxOf (L2N.CX P w) P w K mg base N_centre_of "centre_of" (defScope st_centre_of) (He.ga K "centre_of") cdv A outer s H E) (.Name "total" pos) (DE Γ (eVar 1)) := fun pos => v_var (v1 pos) p1
  have l_ZERO : Gl (cxOf (L2N.CX P w) P w K mg base N_centre_of "centre_of" (defScope st_centre_of) (He.ga K "centre_of") cdv A outer s H E) "ZERO" := by rfl
  have q_ZERO : (("ZERO" : Str) == ("__debug__" : Str)) = false := by decide
  have l_len : Gl (cxOf (L2N.CX P w) P w K mg base N_centre_of "centre_of" (defScope st_centre_of) (He.ga K "centre_of") cdv A outer s H E) "len" := by rfl
  have r_len : ("len" : Str) ≠ "__name__" := by decide
  have q_len : (("len" : Str) == ("__debug__" : Str)) = false := by decide
  have hr2 := hr.mono (show 2 ≤ 4 by decide)
  have l_moment_of : Gl (cxOf (L2N.CX P w) P w K mg base N_centre_of "centre_of" (defScope st_centre_of) (He.ga K "centre_of") cdv A outer s H E) "moment_of" := by rfl
  have q_moment_of : (("moment_of" : Str) == ("__debug__" : Str)) = false := by decide
  have p3 := hP 3 (by decide)
  have p2 := hP 2 (by decide)
  have v3 : ∀ pos : Pos, PE (cxOf (L2N.CX P w) P w K mg base N_centre_of "centre_of" (defScope st_centre_of) (He.ga K "centre_of") cdv A outer s H E) (.Name "along" pos) (tVar 3) := fun pos => pv 3
  have w3 : ∀ pos : Pos, PE (cxOf (L2N.CX P w) P w K mg base N_centre_of "centre_of" (defScope st_centre_of) (He.ga K "centre_of") cdv A outer s H E) (.Name "along" pos) (DE Γ (eVar 3)) := fun pos => v_var (v3 pos) p3
  have hr3 := hr.mono (show 3 ≤ 4 by decide)
  have l_over : Gl (cxOf (L2N.CX P w) P w K mg base N_centre_of "centre_of" (defScope st_centre_of) (He.ga K "centre_of") cdv A outer s H E) "over" := by rfl
  have q_over : (("over" : Str) == ("__debug__" : Str)) = false := by decide
  have v2 : ∀ pos : Pos, PE (cxOf (L2N.CX P w) P w K mg base N_centre_of "centre_of" (defScope st_centre_of) (He.ga K "centre_of") cdv A outer s H E) (.Name "across" pos) (tVar 2) := fun pos => pv 2
  have w2 : ∀ pos : Pos, PE (cxOf (L2N.CX P w) P w K mg base N_centre_of "centre_of" (defScope st_centre_of) (He.ga K "centre_of") cdv A outer s H E) (.Name "across" pos) (DE Γ (eVar 2)) := fun pos => v_var (v2 pos) p2
  refine ss_cons (s_asg (ps_set (i := 1) sc_centre_of.nd rfl (by first | exact Or.inl rfl | exact Or.inr rfl) (v_call hx tk d_total_of hr4 l_total_of (b_val (w0 _) b_nil star_Name) q_total_of star_Name rfl)) p1) ?_
  refine ss_cons (s_if (t_eq hx hr.units (w1 _) (v_const c_ZERO hx l_ZERO q_ZERO) rfl)
 (by exact ss_one (s_raise hx rfl tk e_NoCentre hr2 (by rfl) (v_cons (v_len hx l_len n_len (by decide +kernel) (v_cons (w0 _) v_nil star_Name) r_len q_len star_Name rfl) v_nil star_Call)))
 ss_nil) ?_
  refine ss_cons (s_asgG (ps_asg (v_call hx tk d_moment_of hr4 l_moment_of (b_val (w0 _) b_nil star_Name) q_moment_of star_Name rfl) (g_tl hx rfl (gs_cons (g_name (pg_name sc_centre_of.nd rfl (by first | exact Or.inl rfl | exact Or.inr rfl)) p2) (gs_cons (g_name (pg_name sc_centre_of.nd rfl (by first | exact Or.inl rfl | exact Or.inr rfl)) p3) gs_nil))))) ?_
  exact ss_one (s_ret (v_tup (v_cons (v_call hx tk d_over hr3 l_over (b_val (w2 _) (b_val (w1 _) b_nil star_Name) star_Name) q_over star_Name rfl) (v_cons (v_call hx tk d_over hr3 l_over (b_val (w3 _) (b_val (w1 _) b_nil star_Name) star_Name) q_over star_Name rfl) v_nil star_Call) star_Call)))
end
abbrev st__law_middle : Stmt := top 50
abbrev N__law_middle : List Str := ["_law_loads", "_law_found", "wrong"]
theorem sc__law_middle : FnScope N__law_middle ["_law_loads"] (defScope st__law_middle) := ⟨rfl, rfl, rfl, by decide +kernel, rfl, by decide +kernel, by decide +kernel⟩
section
variable {P : Program} {w : World} {K : PySem.W.Frag} {mg : Str → Option Value} {base : Heap}
theorem ok__law_middle {fd : FuncData} (F : FunD K "_law_middle" "_law_middle" (defArgs st__law_middle) (defBody st__law_middle) (defScope st__law_middle) [] [] (He.ga K "_law_middle") fd) (d_centre_of : Def P w K mg base 5 "centre_of" ["loads"] [false] F_centre_of) (e_NoCentre : ExcCl P w K mg base "NoCentre" ["many"]) (m_NoCentre : PySem.W.exmOne K (.ref e_NoCentre.C) (.ref e_NoCentre.C) = some true) :
    FnOk P w K mg base (L2N.CX P w) 6 (He.ga K "_law_middle") fd ["_law_loads"] (spF K mg [false] F__law_middle) := by
  refine fn_ok F sc__law_middle rfl (fun cdv A outer s H E Γ hr hx hP tk po => ?_)
  have p2 := hP 2 (by decide)
  have hr5 := hr.mono (show 5 ≤ 5 by decide)
  have q_centre_of : (("centre_of" : Str) == ("__debug__" : Str)) = false := by decide
  have v1 : ∀ pos : Pos, PE (cxOf (L2N.CX P w) P w K mg base N__law_middle "_law_middle" (defScope st__law_middle) (He.ga K "_law_middle") cdv A outer s H E) (.Name "_law_found" pos) (tVar 1) := fun pos => pv 1
  have p1 := hP 1 (by decide)
  have w1 : ∀ pos : Pos, PE (cxOf (L2N.CX P w) P w K mg base N__law_middle "_law_middle" (defScope st__law_middle) (He.ga K "_law_middle") cdv A outer s H E) (.Name "_law_found" pos) (DE Γ (eVar 1)) := fun pos => v_var (v1 pos) p1
  refine ss_cons (s_try (i := 2) (x := "NoCentre") (hv := .ref e_NoCentre.C) hx p2 rfl rfl sc__law_middle.nd rfl rfl ⟨rfl, by decide, Or.inl e_NoCentre.gm⟩ tk (onlyM e_NoCentre.gm m_NoCentre)
 (fun pn xe Γ hx hΓ tk po => tryP hΓ hP fun hP => (by exact ss_one (s_asg (ps_set (i := 1) sc__law_middle.nd rfl (by first | exact Or.inl rfl | exact Or.inr rfl) (v_call hx tk d_centre_of hr5 (by rfl) (b_val (v_var (pv 0) (hP 0 (by decide))) b_nil star_Name) q_centre_of star_Name rfl)) (hP 1 (by decide)))))
 (fun a oe pn c0 C0 dd ws fs Γ hz hf hmc hmg hx hPi hPo hd rf => onlyD hmc hmg e_NoCentre.gm fun eC => by subst eC; exact suiteP (i := 2) hPo hP fun hP => (by exact ss_one (s_asg (ps_set (i := 1) sc__law_middle.nd rfl (by first | exact Or.inl rfl | exact Or.inr rfl) (v_lst (v_cons v_str (v_cons (v_xf e_NoCentre.xf (e_NoCentre.no _ (by decide)) hz hf (pv 2) hPi hd rf) v_nil star_Attribute) star_Constant))) (hP 1 (by decide)))))) ?_
  exact ss_one (s_ret (w1 _))
end
abbrev st__law_spoilt : Stmt := top 52
abbrev N__law_spoilt : List Str := ["_law_hand_here", "_law_load", "_law_kind", "_law_bad"]
theorem sc__law_spoilt : FnScope N__law_spoilt ["_law_hand_here", "_law_load"] (defScope st__law_spoilt) := ⟨rfl, rfl, rfl, by decide +kernel, rfl, by decide +kernel, by decide +kernel⟩
section
variable {P : Program} {w : World} {K : PySem.W.Frag} {mg : Str → Option Value} {base : Heap}
theorem ok__law_spoilt {fd : FuncData} (F : FunD K "_law_spoilt" "_law_spoilt" (defArgs st__law_spoilt) (defBody st__law_spoilt) (defScope st__law_spoilt) [] [] (He.ga K "_law_spoilt") fd) (d__law_take : Def P w K mg base 2 "_law_take" ["_law_hand_here", "_law_many"] [true, false] F__law_take) :
    FnOk P w K mg base (L2N.CX P w) 3 (He.ga K "_law_spoilt") fd ["_law_hand_here", "_law_load"] (spF K mg [true, false] F__law_spoilt) := by
  refine fn_ok F sc__law_spoilt rfl (fun cdv A outer s H E Γ hr hx hP tk po => ?_)
  have v0 : ∀ pos : Pos, PE (cxOf (L2N.CX P w) P w K mg base N__law_spoilt "_law_spoilt" (defScope st__law_spoilt) (He.ga K "_law_spoilt") cdv A outer s H E) (.Name "_law_hand_here" pos) (tVar 0) := fun pos => pv 0
  have hr2 := hr.mono (show 2 ≤ 2 by decide)
  have l__law_take : Gl (cxOf (L2N.CX P w) P w K mg base N__law_spoilt "_law_spoilt" (defScope st__law_spoilt) (He.ga K "_law_spoilt") cdv A outer s H E) "_law_take" := by rfl
  have q__law_take : (("_law_take" : Str) == ("__debug__" : Str)) = false := by decide
  have p2 := hP 2 (by decide)
  have v2 : ∀ pos : Pos, PE (cxOf (L2N.CX P w) P w K mg base N__law_spoilt "_law_spoilt" (defScope st__law_spoilt) (He.ga K "_law_spoilt") cdv A outer s H E) (.Name "_law_kind" pos) (tVar 2) := fun pos => pv 2
  have w2 : ∀ pos : Pos, PE (cxOf (L2N.CX P w) P w K mg base N__law_spoilt "_law_spoilt" (defScope st__law_spoilt) (He.ga K "_law_spoilt") cdv A outer s H E) (.Name "_law_kind" pos) (DE Γ (eVar 2)) := fun pos => v_var (v2 pos) p2
  have v1 : ∀ pos : Pos, PE (cxOf (L2N.CX P w) P w K mg base N__law_spoilt "_law_spoilt" (defScope st__law_spoilt) (He.ga K "_law_spoilt") cdv A outer s H E) (.Name "_law_load" pos) (tVar 1) := fun pos => pv 1
  have p1 := hP 1 (by decide)
  have w1 : ∀ pos : Pos, PE (cxOf (L2N.CX P w) P w K mg base N__law_spoilt "_law_spoilt" (defScope st__law_spoilt) (He.ga K "_law_spoilt") cdv A outer s H E) (.Name "_law_load" pos) (DE Γ (eVar 1)) := fun pos => v_var (v1 pos) p1
  have p3 := hP 3 (by decide)
  have v3 : ∀ pos : Pos, PE (cxOf (L2N.CX P w) P w K mg base N__law_spoilt "_law_spoilt" (defScope st__law_spoilt) (He.ga K "_law_spoilt") cdv A outer s H E) (.Name "_law_bad" pos) (tVar 3) := fun pos => pv 3
  have w3 : ∀ pos : Pos, PE (cxOf (L2N.CX P w) P w K mg base N__law_spoilt "_law_spoilt" (defScope st__law_spoilt) (He.ga K "_law_spoilt") cdv A outer s H E) (.Name "_law_bad" pos) (DE Γ (eVar 3)) := fun pos => v_var (v3 pos) p3
  refine ss_cons (s_asg (ps_set (i := 2) sc__law_spoilt.nd rfl (by first | exact Or.inl rfl | exact Or.inr rfl) (v_call hx tk d__law_take hr2 l__law_take (b_own (v0 _) (b_val v_int b_nil star_Constant) star_Name) q__law_take star_Name rfl)) p2) ?_
  refine ss_cons (s_if (t_eq hx hr.units (w2 _) v_int rfl)
 (by exact ss_one (s_ret (v_lst (v_cons v_str (v_cons (v_ix hx (v_lst (v_cons v_non (v_cons (v_tup (v_cons (v_ix hx (w1 _) v_int (fun _ _ => rfl)) v_nil star_Subscript)) (v_cons (v_tup (v_cons (v_ix hx (w1 _) v_int (fun _ _ => rfl)) (v_cons (v_ix hx (w1 _) v_int (fun _ _ => rfl)) (v_cons v_int v_nil star_Constant) star_Subscript) star_Subscript)) (v_cons v_int v_nil star_Constant) star_Tuple) star_Tuple) star_Constant)) (v_call hx tk d__law_take hr2 l__law_take (b_own (v0 _) (b_val v_int b_nil star_Constant) star_Name) q__law_take star_Name rfl) (fun _ _ => rfl)) v_nil star_Subscript) star_Constant))))
 ss_nil) ?_
  refine ss_cons (s_if (t_eq hx hr.units (w2 _) v_int rfl)
 (by refine ss_cons (s_asg (ps_set (i := 3) sc__law_spoilt.nd rfl (by first | exact Or.inl rfl | exact Or.inr rfl) (v_ix hx (v_lst (v_cons (v_tup (v_cons (v_un un_neg s_neg v_int) (v_cons v_int v_nil star_Constant) star_UnaryOp)) (v_cons (v_tup (v_cons (v_add hx (v_op op_pow s_pow v_int v_int) v_int) (v_cons v_int v_nil star_Constant) star_BinOp)) (v_cons (v_tup (v_cons v_int (v_cons v_int v_nil star_Constant) star_Constant)) (v_cons v_int (v_cons v_non (v_cons (v_lst (v_cons v_int (v_cons v_int v_nil star_Constant) star_Constant)) v_nil star_List) star_Constant) star_Constant) star_Tuple) star_Tuple) star_Tuple)) (v_call hx tk d__law_take hr2 l__law_take (b_own (v0 _) (b_val v_int b_nil star_Constant) star_Name) q__law_take star_Name rfl) (fun _ _ => rfl))) p3) ?_; exact ss_one (s_ret (v_lst (v_cons v_str (v_cons (v_tup (v_cons (w3 _) (v_cons (v_ix hx (v_lst (v_cons (v_ix hx (w1 _) v_int (fun _ _ => rfl)) (v_cons v_non v_nil star_Constant) star_Subscript)) (v_call hx tk d__law_take hr2 l__law_take (b_own (v0 _) (b_val v_int b_nil star_Constant) star_Name) q__law_take star_Name rfl) (fun _ _ => rfl)) v_nil star_Subscript) star_Name)) v_nil star_Tuple) star_Constant))))
 ss_nil) ?_
  exact ss_one (s_ret (v_lst (v_cons v_str (v_cons (v_lst (v_cons (v_ix hx (w1 _) v_int (fun _ _ => rfl)) (v_cons (v_ix hx (v_lst (v_cons v_non (v_cons (v_tup (v_cons (v_tup (v_cons v_int (v_cons v_int v_nil star_Constant) star_Constant)) v_nil star_Tuple)) (v_cons (v_tup (v_cons (v_ix hx (v_ix hx (w1 _) v_int (fun _ _ => rfl)) v_int (fun _ _ => rfl)) (v_cons v_int v_nil star_Constant) star_Subscript)) (v_cons (v_tup (v_cons (v_ix hx (v_ix hx (w1 _) v_int (fun _ _ => rfl)) v_int (fun _ _ => rfl)) (v_cons (v_tup (v_cons v_int (v_cons (v_add hx (v_op op_pow s_pow v_int v_int) v_int) v_nil star_BinOp) star_Constant)) v_nil star_Tuple) star_Subscript)) v_nil star_Tuple) star_Tuple) star_Tuple) star_Constant)) (v_call hx tk d__law_take hr2 l__law_take (b_own (v0 _) (b_val v_int b_nil star_Constant) star_Name) q__law_take star_Name rfl) (fun _ _ => rfl)) v_nil star_Subscript) star_Subscript)) v_nil star_List) star_Constant)))
end
abbrev st__law_refused : Stmt := top 53
abbrev N__law_refused : List Str := ["_law_hand_here", "_law_loads", "_law_marked", "_law_turn", "_law_at", "_law_load", "_law_due", "_law_seen", "_law_row"]
theorem sc__law_refused : FnScope N__law_refused ["_law_hand_here", "_law_loads"] (defScope st__law_refused) := ⟨rfl, rfl, rfl, by decide +kernel, rfl, by decide +kernel, by decide +kernel⟩
section
variable {P : Program} {w : World} {K : PySem.W.Frag} {mg : Str → Option Value} {base : Heap}
theorem ok__law_refused {fd : FuncData} (F : FunD K "_law_refused" "_law_refused" (defArgs st__law_refused) (defBody st__law_refused) (defScope st__law_refused) [] [] (He.ga K "_law_refused") fd) (d__law_take : Def P w K mg base 2 "_law_take" ["_law_hand_here", "_law_many"] [true, false] F__law_take) (n_range : mg "range" = none) (n_len : mg "len" = none) (d__law_spoilt : Def P w K mg base 3 "_law_spoilt" ["_law_hand_here", "_law_load"] [true, false] F__law_spoilt) (d__law_try : Def P w K mg base 8 "_law_try" ["_law_loads"] [false] F__law_try) (n_tuple : mg "tuple" = none) (n_isinstance : mg "isinstance" = none) :
    FnOk P w K mg base (L2N.CX P w) 9 (He.ga K "_law_refused") fd ["_law_hand_here", "_law_loads"] (spF K mg [true, false] F__law_refused) := by
  refine fn_ok F sc__law_refused rfl (fun cdv A outer s H E Γ hr hx hP tk po => ?_)
  have v1 : ∀ pos : Pos, PE (cxOf (L2N.CX P w) P w K mg base N__law_refused "_law_refused" (defScope st__law_refused) (He.ga K "_law_refused") cdv A outer s H E) (.Name "_law_loads" pos) (tVar 1) := fun pos => pv 1
  have p1 := hP 1 (by decide)
  have w1 : ∀ pos : Pos, PE (cxOf (L2N.CX P w) P w K mg base N__law_refused "_law_refused" (defScope st__law_refused) (He.ga K "_law_refused") cdv A outer s H E) (.Name "_law_loads" pos) (DE Γ (eVar 1)) := fun pos => v_var (v1 pos) p1
  have p2 := hP 2 (by decide)
  have v0 : ∀ pos : Pos, PE (cxOf (L2N.CX P w) P w K mg base N__law_refused "_law_refused" (defScope st__law_refused) (He.ga K "_law_refused") cdv A outer s H E) (.Name "_law_hand_here" pos) (tVar 0) := fun pos => pv 0
  have hr2 := hr.mono (show 2 ≤ 8 by decide)
  have l__law_take : Gl (cxOf (L2N.CX P w) P w K mg base N__law_refused "_law_refused" (defScope st__law_refused) (He.ga K "_law_refused") cdv A outer s H E) "_law_take" := by rfl
  have q__law_take : (("_law_take" : Str) == ("__debug__" : Str)) = false := by decide
  have p3 := hP 3 (by decide)
  have l_len : Gl (cxOf (L2N.CX P w) P w K mg base N__law_refused "_law_refused" (defScope st__law_refused) (He.ga K "_law_refused") cdv A outer s H E) "len" := by rfl
  have v2 : ∀ pos : Pos, PE (cxOf (L2N.CX P w) P w K mg base N__law_refused "_law_refused" (defScope st__law_refused) (He.ga K "_law_refused") cdv A outer s H E) (.Name "_law_marked" pos) (tVar 2) := fun pos => pv 2
  have r_len : ("len" : Str) ≠ "__name__" := by decide
  have q_len : (("len" : Str) == ("__debug__" : Str)) = false := by decide
  have p4 := hP 4 (by decide)
  have p5 := hP 5 (by decide)
  have v5 : ∀ pos : Pos, PE (cxOf (L2N.CX P w) P w K mg base N__law_refused "_law_refused" (defScope st__law_refused) (He.ga K "_law_refused") cdv A outer s H E) (.Name "_law_load" pos) (tVar 5) := fun pos => pv 5
  have w5 : ∀ pos : Pos, PE (cxOf (L2N.CX P w) P w K mg base N__law_refused "_law_refused" (defScope st__law_refused) (He.ga K "_law_refused") cdv A outer s H E) (.Name "_law_load" pos) (DE Γ (eVar 5)) := fun pos => v_var (v5 pos) p5
  have hr3 := hr.mono (show 3 ≤ 8 by decide)
  have l__law_spoilt : Gl (cxOf (L2N.CX P w) P w K mg base N__law_refused "_law_refused" (defScope st__law_refused) (He.ga K "_law_refused") cdv A outer s H E) "_law_spoilt" := by rfl
  have q__law_spoilt : (("_law_spoilt" : Str) == ("__debug__" : Str)) = false := by decide
  have v4 : ∀ pos : Pos, PE (cxOf (L2N.CX P w) P w K mg base N__law_refused "_law_refused" (defScope st__law_refused) (He.ga K "_law_refused") cdv A outer s H E) (.Name "_law_at" pos) (tVar 4) := fun pos => pv 4
  have w4 : ∀ pos : Pos, PE (cxOf (L2N.CX P w) P w K mg base N__law_refused "_law_refused" (defScope st__law_refused) (He.ga K "_law_refused") cdv A outer s H E) (.Name "_law_at" pos) (DE Γ (eVar 4)) := fun pos => v_var (v4 pos) p4
  have p6 := hP 6 (by decide)
  have v6 : ∀ pos : Pos, PE (cxOf (L2N.CX P w) P w K mg base N__law_refused "_law_refused" (defScope st__law_refused) (He.ga K "_law_refused") cdv A outer s H E) (.Name "_law_due" pos) (tVar 6) := fun pos => pv 6
  have w6 : ∀ pos : Pos, PE (cxOf (L2N.CX P w) P w K mg base N__law_refused "_law_refused" (defScope st__law_refused) (He.ga K "_law_refused") cdv A outer s H E) (.Name "_law_due" pos) (DE Γ (eVar 6)) := fun pos => v_var (v6 pos) p6
  have w2 : ∀ pos : Pos, PE (cxOf (L2N.CX P w) P w K mg base N__law_refused "_law_refused" (defScope st__law_refused) (He.ga K "_law_refused") cdv A outer s H E) (.Name "_law_marked" pos) (DE Γ (eVar 2)) := fun pos => v_var (v2 pos) p2
  have hr8 := hr.mono (show 8 ≤ 8 by decide)
  have l__law_try : Gl (cxOf (L2N.CX P w) P w K mg base N__law_refused "_law_refused" (defScope st__law_refused) (He.ga K "_law_refused") cdv A outer s H E) "_law_try" := by rfl
  have q__law_try : (("_law_try" : Str) == ("__debug__" : Str)) = false := by decide
  have p7 := hP 7 (by decide)
  have v7 : ∀ pos : Pos, PE (cxOf (L2N.CX P w) P w K mg base N__law_refused "_law_refused" (defScope st__law_refused) (He.ga K "_law_refused") cdv A outer s H E) (.Name "_law_seen" pos) (tVar 7) := fun pos => pv 7
  have w7 : ∀ pos : Pos, PE (cxOf (L2N.CX P w) P w K mg base N__law_refused "_law_refused" (defScope st__law_refused) (He.ga K "_law_refused") cdv A outer s H E) (.Name "_law_seen" pos) (DE Γ (eVar 7)) := fun pos => v_var (v7 pos) p7
  have l_tuple : Gl (cxOf (L2N.CX P w) P w K mg base N__law_refused "_law_refused" (defScope st__law_refused) (He.ga K "_law_refused") cdv A outer s H E) "tuple" := by rfl
  have r_tuple : ("tuple" : Str) ≠ "__name__" := by decide
  have q_tuple : (("tuple" : Str) == ("__debug__" : Str)) = false := by decide
  have l_isinstance : Gl (cxOf (L2N.CX P w) P w K mg base N__law_refused "_law_refused" (defScope st__law_refused) (He.ga K "_law_refused") cdv A outer s H E) "isinstance" := by rfl
  have r_isinstance : ("isinstance" : Str) ≠ "__name__" := by decide
  have q_isinstance : (("isinstance" : Str) == ("__debug__" : Str)) = false := by decide
  refine ss_cons (s_asgO (p_setLc (own := [("_law_load", 5)]) (is := [5]) (i := 2) rfl sc__law_refused.nd rfl rfl (sw_true rfl rfl rfl (by decide +kernel)) hx (i_seq hx (w1 _)) (blkOk_by (own := [("_law_load", 5)]) (N := N__law_refused) (sc := defScope st__law_refused) (by decide +kernel)) (fun j hj => hP j (ownNot [5] [true, false] hj (by decide))) (by decide) (fun s0 H0 C0 cl0 fp0 Γ hx hΓ tk => blkP hΓ hP fun hP => ⟨(g_name (pg_name sc__law_refused.nd rfl (by first | exact Or.inl rfl | exact Or.inr rfl)) (hP 5 (by decide))), ts_nil, (v_lst (v_cons v_str (v_cons (v_var (pv 5) (hP 5 (by decide))) v_nil star_Name) star_Constant))⟩)) p2) ?_
  refine ss_cons (s_for (is := [3]) (ps_for po rfl (i_rng1 (pi_range1 (by rfl) n_range (v_cons (v_call hx tk d__law_take hr2 l__law_take (b_own (v0 _) (b_val v_int b_nil star_Constant) star_Name) q__law_take star_Name rfl) v_nil star_Call))) (g_name (pg_name sc__law_refused.nd rfl (by first | exact Or.inl rfl | exact Or.inr rfl)) p3)
 (by refine ss_cons (s_asg (ps_set (i := 4) sc__law_refused.nd rfl (by first | exact Or.inl rfl | exact Or.inr rfl) (v_call hx tk d__law_take hr2 l__law_take (b_own (v0 _) (b_val (v_add hx (v_lenO hx l_len n_len (by decide +kernel) (v2 _) r_len q_len star_Name rfl) v_int) b_nil star_BinOp) star_Name) q__law_take star_Name rfl)) p4) ?_; refine ss_cons (s_asg (ps_set (i := 5) sc__law_refused.nd rfl (by first | exact Or.inl rfl | exact Or.inr rfl) (v_tup (v_cons (v_tup (v_cons v_int (v_cons v_int v_nil star_Constant) star_Constant)) (v_cons (v_tup (v_cons (v_tup (v_cons v_int (v_cons v_int v_nil star_Constant) star_Constant)) (v_cons (v_tup (v_cons (v_un un_neg s_neg v_int) (v_cons v_int v_nil star_Constant) star_UnaryOp)) v_nil star_Tuple) star_Tuple)) v_nil star_Tuple) star_Tuple))) p5) ?_; exact ss_one (s_meth m_insert (ps_expr (pe_bm PySem.F.plainAttrs_list PySem.F.slot_list_insert PySem.F.type_list_insert mt_insert (v2 _) (v_cons (w4 _) (v_cons (v_if (t_tru hx (v_call hx tk d__law_take hr2 l__law_take (b_own (v0 _) (b_val v_int b_nil star_Constant) star_Name) q__law_take star_Name rfl) (fun _ => rfl)) (v_call hx tk d__law_spoilt hr3 l__law_spoilt (b_own (v0 _) (b_val (w5 _) b_nil star_Name) star_Name) q__law_spoilt star_Name rfl) (v_lst (v_cons v_str (v_cons (w5 _) v_nil star_Name) star_Constant))) v_nil star_IfExp) star_Name))))))) ?_
  refine ss_cons (s_asg (ps_set (i := 6) sc__law_refused.nd rfl (by first | exact Or.inl rfl | exact Or.inr rfl) (v_if (t_cmp op_gt s_cmp (v_lenO hx l_len n_len (by decide +kernel) (v2 _) r_len q_len star_Name rfl) v_int rfl) (v_lst (v_cons v_int (v_cons v_str v_nil star_Constant) star_Constant)) v_non)) p6) ?_
  refine ss_cons (s_for (is := [4]) (ps_for po rfl (i_rng1 (pi_range1 (by rfl) n_range (v_cons (v_lenO hx l_len n_len (by decide +kernel) (v2 _) r_len q_len star_Name rfl) v_nil star_Call))) (g_name (pg_name sc__law_refused.nd rfl (by first | exact Or.inl rfl | exact Or.inr rfl)) p4)
 (by exact ss_one (s_if (PW.pt (w_and (t_cmp op_isA s_is (w6 _) v_non rfl) (w_and1 (t_tru hx (v_ix hx (v_ixS hx (v2 _) (w4 _) (fun _ _ => rfl)) v_int (fun _ _ => rfl)) (fun _ => rfl)))))
 (by exact ss_one (s_asg (ps_set (i := 6) sc__law_refused.nd rfl (by first | exact Or.inl rfl | exact Or.inr rfl) (v_lst (v_cons (w4 _) (v_cons (v_ix hx (v_ixS hx (v2 _) (w4 _) (fun _ _ => rfl)) v_int (fun _ _ => rfl)) v_nil star_Subscript) star_Name))) p6))
 ss_nil)))) ?_
  refine ss_cons (s_asg (ps_set (i := 7) sc__law_refused.nd rfl (by first | exact Or.inl rfl | exact Or.inr rfl) (v_call hx tk d__law_try hr8 l__law_try (b_val (v_frz (f_lc (own := [("_law_row", 8)]) (is := [8]) rfl sc__law_refused.nd hx (i_seq hx (w2 _)) (blkOk_by (own := [("_law_row", 8)]) (N := N__law_refused) (sc := defScope st__law_refused) (by decide +kernel)) (fun j hj => hP j (ownNot [8] [true, false] hj (by decide))) (by decide) (fun s0 H0 C0 cl0 fp0 Γ hx hΓ tk => blkP hΓ hP fun hP => ⟨(g_name (pg_name sc__law_refused.nd rfl (by first | exact Or.inl rfl | exact Or.inr rfl)) (hP 8 (by decide))), ts_nil, (v_ix hx (v_var (pv 8) (hP 8 (by decide))) v_int (fun _ _ => rfl))⟩))) b_nil star_ListComp) q__law_try star_ListComp rfl)) p7) ?_
  exact ss_one (s_ret (v_if (t_tru hx (w6 _) (fun _ => rfl)) (v_eq hx hr.units (w7 _) (w6 _) rfl) (v_isi hx l_isinstance n_isinstance (by decide +kernel) (v_cons (w7 _) (v_cons (v_ty l_tuple n_tuple (by decide +kernel) r_tuple q_tuple) v_nil star_Name) star_Name) r_isinstance q_isinstance star_Name rfl)))
end
abbrev st__law_bounded : Stmt := top 44
abbrev N__law_bounded : List Str := ["_law_hand_here", "_law_kind"]
theorem sc__law_bounded : FnScope N__law_bounded ["_law_hand_here"] (defScope st__law_bounded) := ⟨rfl, rfl, rfl, by decide +kernel, rfl, by decide +kernel, by decide +kernel⟩
section
variable {P : Program} {w : World} {K : PySem.W.Frag} {mg : Str → Option Value} {base : Heap}
theorem ok__law_bounded {fd : FuncData} (F : FunD K "_law_bounded" "_law_bounded" (defArgs st__law_bounded) (defBody st__law_bounded) (defScope st__law_bounded) [] [] (He.ga K "_law_bounded") fd) (d__law_take : Def P w K mg base 2 "_law_take" ["_law_hand_here", "_law_many"] [true, false] F__law_take) :
    FnOk P w K mg base (L2N.CX P w) 3 (He.ga K "_law_bounded") fd ["_law_hand_here"] (spF K mg [true] F__law_bounded) := by
  refine fn_ok F sc__law_bounded rfl (fun cdv A outer s H E Γ hr hx hP tk po => ?_)
  have v0 : ∀ pos : Pos, PE (cxOf (L2N.CX P w) P w K mg base N__law_bounded "_law_bounded" (defScope st__law_bounded) (He.ga K "_law_bounded") cdv A outer s H E) (.Name "_law_hand_here" pos) (tVar 0) := fun pos => pv 0
  have hr2 := hr.mono (show 2 ≤ 2 by decide)
  have l__law_take : Gl (cxOf (L2N.CX P w) P w K mg base N__law_bounded "_law_bounded" (defScope st__law_bounded) (He.ga K "_law_bounded") cdv A outer s H E) "_law_take" := by rfl
  have q__law_take : (("_law_take" : Str) == ("__debug__" : Str)) = false := by decide
  have p1 := hP 1 (by decide)
  have v1 : ∀ pos : Pos, PE (cxOf (L2N.CX P w) P w K mg base N__law_bounded "_law_bounded" (defScope st__law_bounded) (He.ga K "_law_bounded") cdv A outer s H E) (.Name "_law_kind" pos) (tVar 1) := fun pos => pv 1
  have w1 : ∀ pos : Pos, PE (cxOf (L2N.CX P w) P w K mg base N__law_bounded "_law_bounded" (defScope st__law_bounded) (He.ga K "_law_bounded") cdv A outer s H E) (.Name "_law_kind" pos) (DE Γ (eVar 1)) := fun pos => v_var (v1 pos) p1
  refine ss_cons (s_asg (ps_set (i := 1) sc__law_bounded.nd rfl (by first | exact Or.inl rfl | exact Or.inr rfl) (v_call hx tk d__law_take hr2 l__law_take (b_own (v0 _) (b_val v_int b_nil star_Constant) star_Name) q__law_take star_Name rfl)) p1) ?_
  refine ss_cons (s_if (t_cmp op_lt s_cmp (w1 _) v_int rfl)
 (by exact ss_one (s_ret (v_add hx v_int (v_call hx tk d__law_take hr2 l__law_take (b_own (v0 _) (b_val v_int b_nil star_Constant) star_Name) q__law_take star_Name rfl))))
 ss_nil) ?_
  exact ss_one (s_ret (v_if (t_eq hx hr.units (w1 _) v_int rfl) (v_op op_pow s_pow v_int v_int) (v_add hx (v_add hx v_int (v_op op_mulA s_mul (v_call hx tk d__law_take hr2 l__law_take (b_own (v0 _) (b_val (v_op op_pow s_pow v_int v_int) b_nil star_BinOp) star_Name) q__law_take star_Name rfl) (v_op op_pow s_pow v_int v_int))) (v_call hx tk d__law_take hr2 l__law_take (b_own (v0 _) (b_val (v_op op_pow s_pow v_int v_int) b_nil star_BinOp) star_Name) q__law_take star_Name rfl))))
end
abbrev st__law_arm : Stmt := top 45
abbrev N__law_arm : List Str := ["_law_hand_here"]
theorem sc__law_arm : FnScope N__law_arm ["_law_hand_here"] (defScope st__law_arm) := ⟨rfl, rfl, rfl, by decide +kernel, rfl, by decide +kernel, by decide +kernel⟩
section
variable {P : Program} {w : World} {K : PySem.W.Frag} {mg : Str → Option Value} {base : Heap}
theorem ok__law_arm {fd : FuncData} (F : FunD K "_law_arm" "_law_arm" (defArgs st__law_arm) (defBody st__law_arm) (defScope st__law_arm) [] [] (He.ga K "_law_arm") fd) (d__law_take : Def P w K mg base 2 "_law_take" ["_law_hand_here", "_law_many"] [true, false] F__law_take) (d__law_ratio : Def P w K mg base 2 "_law_ratio" ["_law_top", "_law_bottom"] [false, false] F__law_ratio) (d__law_bounded : Def P w K mg base 3 "_law_bounded" ["_law_hand_here"] [true] F__law_bounded) :
    FnOk P w K mg base (L2N.CX P w) 4 (He.ga K "_law_arm") fd ["_law_hand_here"] (spF K mg [true] F__law_arm) := by
  refine fn_ok F sc__law_arm rfl (fun cdv A outer s H E Γ hr hx hP tk po => ?_)
  have v0 : ∀ pos : Pos, PE (cxOf (L2N.CX P w) P w K mg base N__law_arm "_law_arm" (defScope st__law_arm) (He.ga K "_law_arm") cdv A outer s H E) (.Name "_law_hand_here" pos) (tVar 0) := fun pos => pv 0
  have hr2 := hr.mono (show 2 ≤ 3 by decide)
  have l__law_take : Gl (cxOf (L2N.CX P w) P w K mg base N__law_arm "_law_arm" (defScope st__law_arm) (He.ga K "_law_arm") cdv A outer s H E) "_law_take" := by rfl
  have q__law_take : (("_law_take" : Str) == ("__debug__" : Str)) = false := by decide
  have l__law_ratio : Gl (cxOf (L2N.CX P w) P w K mg base N__law_arm "_law_arm" (defScope st__law_arm) (He.ga K "_law_arm") cdv A outer s H E) "_law_ratio" := by rfl
  have q__law_ratio : (("_law_ratio" : Str) == ("__debug__" : Str)) = false := by decide
  have hr3 := hr.mono (show 3 ≤ 3 by decide)
  have l__law_bounded : Gl (cxOf (L2N.CX P w) P w K mg base N__law_arm "_law_arm" (defScope st__law_arm) (He.ga K "_law_arm") cdv A outer s H E) "_law_bounded" := by rfl
  have q__law_bounded : (("_law_bounded" : Str) == ("__debug__" : Str)) = false := by decide
  refine ss_cons (s_if (t_tru hx (v_call hx tk d__law_take hr2 l__law_take (b_own (v0 _) (b_val v_int b_nil star_Constant) star_Name) q__law_take star_Name rfl) (fun _ => rfl))
 (by exact ss_one (s_ret (v_call hx tk d__law_ratio hr2 l__law_ratio (b_val (v_add hx v_int (v_call hx tk d__law_take hr2 l__law_take (b_own (v0 _) (b_val v_int b_nil star_Constant) star_Name) q__law_take star_Name rfl)) (b_val (v_add hx v_int (v_call hx tk d__law_take hr2 l__law_take (b_own (v0 _) (b_val v_int b_nil star_Constant) star_Name) q__law_take star_Name rfl)) b_nil star_BinOp) star_BinOp) q__law_ratio star_BinOp rfl)))
 ss_nil) ?_
  exact ss_one (s_ret (v_call hx tk d__law_ratio hr2 l__law_ratio (b_val (v_call hx tk d__law_bounded hr3 l__law_bounded (b_own (v0 _) b_nil star_Name) q__law_bounded star_Name rfl) (b_val (v_call hx tk d__law_bounded hr3 l__law_bounded (b_own (v0 _) b_nil star_Name) q__law_bounded star_Name rfl) b_nil star_Call) star_Call) q__law_ratio star_Call rfl))
end
abbrev st__law_tuples : Stmt := top 43
abbrev N__law_tuples : List Str := ["_law_thing", "_law_item"]
theorem sc__law_tuples : FnScope N__law_tuples ["_law_thing"] (defScope st__law_tuples) := ⟨rfl, rfl, rfl, by decide +kernel, rfl, by decide +kernel, by decide +kernel⟩
section
variable {P : Program} {w : World} {K : PySem.W.Frag} {mg : Str → Option Value} {base : Heap}
theorem ok__law_tuples {fd : FuncData} (F : FunD K "_law_tuples" "_law_tuples" (defArgs st__law_tuples) (defBody st__law_tuples) (defScope st__law_tuples) [] [] (He.ga K "_law_tuples") fd) (gm : mg "_law_tuples" = some (.ref (He.ga K "_law_tuples"))) (bi : Binds K fd ["_law_thing"] []) (n_tuple : mg "tuple" = none) (n_isinstance : mg "isinstance" = none) (n_int : mg "int" = none) (n_bool : mg "bool" = none) :
    ∀ n : Nat, FnOk P w K mg base (L2N.CX P w) (1 + n) (He.ga K "_law_tuples") fd ["_law_thing"] (spF K mg [false] (R__law_tuples n))
  | 0 => fn_bad rfl
  | n + 1 => by
    have d__law_tuples : Def P w K mg base (1 + n) "_law_tuples" ["_law_thing"] [false] (R__law_tuples n) := ⟨_, _, ok__law_tuples F gm bi n_tuple n_isinstance n_int n_bool n, gm, F.kp, bi⟩
    refine fn_ok F sc__law_tuples rfl (fun cdv A outer s H E Γ hr hx hP tk po => ?_)
    have l_tuple : Gl (cxOf (L2N.CX P w) P w K mg base N__law_tuples "_law_tuples" (defScope st__law_tuples) (He.ga K "_law_tuples") cdv A outer s H E) "tuple" := by rfl
    have r_tuple : ("tuple" : Str) ≠ "__name__" := by decide
    have q_tuple : (("tuple" : Str) == ("__debug__" : Str)) = false := by decide
    have v0 : ∀ pos : Pos, PE (cxOf (L2N.CX P w) P w K mg base N__law_tuples "_law_tuples" (defScope st__law_tuples) (He.ga K "_law_tuples") cdv A outer s H E) (.Name "_law_thing" pos) (tVar 0) := fun pos => pv 0
    have p0 := hP 0 (by decide)
    have w0 : ∀ pos : Pos, PE (cxOf (L2N.CX P w) P w K mg base N__law_tuples "_law_tuples" (defScope st__law_tuples) (He.ga K "_law_tuples") cdv A outer s H E) (.Name "_law_thing" pos) (DE Γ (eVar 0)) := fun pos => v_var (v0 pos) p0
    have l_isinstance : Gl (cxOf (L2N.CX P w) P w K mg base N__law_tuples "_law_tuples" (defScope st__law_tuples) (He.ga K "_law_tuples") cdv A outer s H E) "isinstance" := by rfl
    have r_isinstance : ("isinstance" : Str) ≠ "__name__" := by decide
    have q_isinstance : (("isinstance" : Str) == ("__debug__" : Str)) = false := by decide
    have q__law_tuples : (("_law_tuples" : Str) == ("__debug__" : Str)) = false := by decide
    have l_int : Gl (cxOf (L2N.CX P w) P w K mg base N__law_tuples "_law_tuples" (defScope st__law_tuples) (He.ga K "_law_tuples") cdv A outer s H E) "int" := by rfl
    have r_int : ("int" : Str) ≠ "__name__" := by decide
    have q_int : (("int" : Str) == ("__debug__" : Str)) = false := by decide
    have l_bool : Gl (cxOf (L2N.CX P w) P w K mg base N__law_tuples "_law_tuples" (defScope st__law_tuples) (He.ga K "_law_tuples") cdv A outer s H E) "bool" := by rfl
    have r_bool : ("bool" : Str) ≠ "__name__" := by decide
    have q_bool : (("bool" : Str) == ("__debug__" : Str)) = false := by decide
    refine ss_cons (s_if (t_tru hx (v_isi hx l_isinstance n_isinstance (by decide +kernel) (v_cons (w0 _) (v_cons (v_ty l_tuple n_tuple (by decide +kernel) r_tuple q_tuple) v_nil star_Name) star_Name) r_isinstance q_isinstance star_Name rfl) (fun _ => rfl))
 (by exact ss_one (s_ret (v_not hx (v_frz (f_lc (own := [("_law_item", 1)]) (is := [1]) rfl sc__law_tuples.nd hx (i_seq hx (w0 _)) (blkOk_by (own := [("_law_item", 1)]) (N := N__law_tuples) (sc := defScope st__law_tuples) (by decide +kernel)) (fun j hj => hP j (ownNot [1] [false] hj (by decide))) (by decide) (fun s0 H0 C0 cl0 fp0 Γ hx hΓ tk => blkP hΓ hP fun hP => ⟨(g_name (pg_name sc__law_tuples.nd rfl (by first | exact Or.inl rfl | exact Or.inr rfl)) (hP 1 (by decide))), (ts_one (t_not (t_tru hx (v_call hx tk d__law_tuples hr (by rfl) (b_val (v_var (pv 1) (hP 1 (by decide))) b_nil star_Name) q__law_tuples star_Name rfl) (fun _ => rfl)))), v_int⟩))))))
 ss_nil) ?_
    exact ss_one (s_ret (v_and hx (v_isi hx l_isinstance n_isinstance (by decide +kernel) (v_cons (w0 _) (v_cons (v_ty l_int n_int (by decide +kernel) r_int q_int) v_nil star_Name) star_Name) r_isinstance q_isinstance star_Name rfl) (v_one (v_not hx (v_isi hx l_isinstance n_isinstance (by decide +kernel) (v_cons (w0 _) (v_cons (v_ty l_bool n_bool (by decide +kernel) r_bool q_bool) v_nil star_Name) star_Name) r_isinstance q_isinstance star_Name rfl)))))
end
abbrev st__law_coordinate : Stmt := top 46
abbrev N__law_coordinate : List Str := ["_law_hand_here"]
theorem sc__law_coordinate : FnScope N__law_coordinate ["_law_hand_here"] (defScope st__law_coordinate) := ⟨rfl, rfl, rfl, by decide +kernel, rfl, by decide +kernel, by decide +kernel⟩
section
variable {P : Program} {w : World} {K : PySem.W.Frag} {mg : Str → Option Value} {base : Heap}
theorem ok__law_coordinate {fd : FuncData} (F : FunD K "_law_coordinate" "_law_coordinate" (defArgs st__law_coordinate) (defBody st__law_coordinate) (defScope st__law_coordinate) [] [] (He.ga K "_law_coordinate") fd) (d__law_take : Def P w K mg base 2 "_law_take" ["_law_hand_here", "_law_many"] [true, false] F__law_take) (d__law_ratio : Def P w K mg base 2 "_law_ratio" ["_law_top", "_law_bottom"] [false, false] F__law_ratio) (d__law_bounded : Def P w K mg base 3 "_law_bounded" ["_law_hand_here"] [true] F__law_bounded) :
    FnOk P w K mg base (L2N.CX P w) 4 (He.ga K "_law_coordinate") fd ["_law_hand_here"] (spF K mg [true] F__law_coordinate) := by
  refine fn_ok F sc__law_coordinate rfl (fun cdv A outer s H E Γ hr hx hP tk po => ?_)
  have v0 : ∀ pos : Pos, PE (cxOf (L2N.CX P w) P w K mg base N__law_coordinate "_law_coordinate" (defScope st__law_coordinate) (He.ga K "_law_coordinate") cdv A outer s H E) (.Name "_law_hand_here" pos) (tVar 0) := fun pos => pv 0
  have hr2 := hr.mono (show 2 ≤ 3 by decide)
  have l__law_take : Gl (cxOf (L2N.CX P w) P w K mg base N__law_coordinate "_law_coordinate" (defScope st__law_coordinate) (He.ga K "_law_coordinate") cdv A outer s H E) "_law_take" := by rfl
  have q__law_take : (("_law_take" : Str) == ("__debug__" : Str)) = false := by decide
  have hr3 := hr.mono (show 3 ≤ 3 by decide)
  have l__law_bounded : Gl (cxOf (L2N.CX P w) P w K mg base N__law_coordinate "_law_coordinate" (defScope st__law_coordinate) (He.ga K "_law_coordinate") cdv A outer s H E) "_law_bounded" := by rfl
  have q__law_bounded : (("_law_bounded" : Str) == ("__debug__" : Str)) = false := by decide
  have l__law_ratio : Gl (cxOf (L2N.CX P w) P w K mg base N__law_coordinate "_law_coordinate" (defScope st__law_coordinate) (He.ga K "_law_coordinate") cdv A outer s H E) "_law_ratio" := by rfl
  have q__law_ratio : (("_law_ratio" : Str) == ("__debug__" : Str)) = false := by decide
  refine ss_cons (s_if (t_tru hx (v_call hx tk d__law_take hr2 l__law_take (b_own (v0 _) (b_val v_int b_nil star_Constant) star_Name) q__law_take star_Name rfl) (fun _ => rfl))
 (by exact ss_one (s_ret (v_tup (v_cons (v_op op_sub s_sub (v_call hx tk d__law_take hr2 l__law_take (b_own (v0 _) (b_val v_int b_nil star_Constant) star_Name) q__law_take star_Name rfl) v_int) (v_cons v_int v_nil star_Constant) star_BinOp))))
 ss_nil) ?_
  exact ss_one (s_ret (v_call hx tk d__law_ratio hr2 l__law_ratio (b_val (v_op op_mulA s_mul (v_call hx tk d__law_bounded hr3 l__law_bounded (b_own (v0 _) b_nil star_Name) q__law_bounded star_Name rfl) (v_op op_sub s_sub v_int (v_op op_mulA s_mul v_int (v_call hx tk d__law_take hr2 l__law_take (b_own (v0 _) (b_val v_int b_nil star_Constant) star_Name) q__law_take star_Name rfl)))) (b_val (v_call hx tk d__law_bounded hr3 l__law_bounded (b_own (v0 _) b_nil star_Name) q__law_bounded star_Name rfl) b_nil star_Call) star_BinOp) q__law_ratio star_BinOp rfl))
end
abbrev st__law_near : Stmt := top 47
abbrev N__law_near : List Str := ["_law_hand_here"]
theorem sc__law_near : FnScope N__law_near ["_law_hand_here"] (defScope st__law_near) := ⟨rfl, rfl, rfl, by decide +kernel, rfl, by decide +kernel, by decide +kernel⟩
section
variable {P : Program} {w : World} {K : PySem.W.Frag} {mg : Str → Option Value} {base : Heap}
theorem ok__law_near {fd : FuncData} (F : FunD K "_law_near" "_law_near" (defArgs st__law_near) (defBody st__law_near) (defScope st__law_near) [] [] (He.ga K "_law_near") fd) (d__law_ratio : Def P w K mg base 2 "_law_ratio" ["_law_top", "_law_bottom"] [false, false] F__law_ratio) (d__law_take : Def P w K mg base 2 "_law_take" ["_law_hand_here", "_law_many"] [true, false] F__law_take) :
    FnOk P w K mg base (L2N.CX P w) 3 (He.ga K "_law_near") fd ["_law_hand_here"] (spF K mg [true] F__law_near) := by
  refine fn_ok F sc__law_near rfl (fun cdv A outer s H E Γ hr hx hP tk po => ?_)
  have v0 : ∀ pos : Pos, PE (cxOf (L2N.CX P w) P w K mg base N__law_near "_law_near" (defScope st__law_near) (He.ga K "_law_near") cdv A outer s H E) (.Name "_law_hand_here" pos) (tVar 0) := fun pos => pv 0
  have hr2 := hr.mono (show 2 ≤ 2 by decide)
  have l__law_take : Gl (cxOf (L2N.CX P w) P w K mg base N__law_near "_law_near" (defScope st__law_near) (He.ga K "_law_near") cdv A outer s H E) "_law_take" := by rfl
  have q__law_take : (("_law_take" : Str) == ("__debug__" : Str)) = false := by decide
  have l__law_ratio : Gl (cxOf (L2N.CX P w) P w K mg base N__law_near "_law_near" (defScope st__law_near) (He.ga K "_law_near") cdv A outer s H E) "_law_ratio" := by rfl
  have q__law_ratio : (("_law_ratio" : Str) == ("__debug__" : Str)) = false := by decide
  exact ss_one (s_ret (v_call hx tk d__law_ratio hr2 l__law_ratio (b_val (v_op op_sub s_sub (v_call hx tk d__law_take hr2 l__law_take (b_own (v0 _) (b_val v_int b_nil star_Constant) star_Name) q__law_take star_Name rfl) v_int) (b_val (v_if (t_tru hx (v_call hx tk d__law_take hr2 l__law_take (b_own (v0 _) (b_val v_int b_nil star_Constant) star_Name) q__law_take star_Name rfl) (fun _ => rfl)) v_int v_int) b_nil star_IfExp) star_BinOp) q__law_ratio star_BinOp rfl))
end
abbrev st_one_load : Stmt := top 32
abbrev N_one_load : List Str := ["loads"]
theorem sc_one_load : FnScope N_one_load ["loads"] (defScope st_one_load) := ⟨rfl, rfl, rfl, by decide +kernel, rfl, by decide +kernel, by decide +kernel⟩
section
variable {P : Program} {w : World} {K : PySem.W.Frag} {mg : Str → Option Value} {base : Heap}
theorem ok_one_load {fd : FuncData} (F : FunD K "one_load" "one_load" (defArgs st_one_load) (defBody st_one_load) (defScope st_one_load) [] [] (He.ga K "one_load") fd) (d_centre_of : Def P w K mg base 5 "centre_of" ["loads"] [false] F_centre_of) (d_total_of : Def P w K mg base 4 "total_of" ["loads"] [false] F_total_of) :
    FnOk P w K mg base (L2N.CX P w) 6 (He.ga K "one_load") fd ["loads"] (spF K mg [false] F_one_load) := by
  refine fn_ok F sc_one_load rfl (fun cdv A outer s H E Γ hr hx hP tk po => ?_)
  have v0 : ∀ pos : Pos, PE (cxOf (L2N.CX P w) P w K mg base N_one_load "one_load" (defScope st_one_load) (He.ga K "one_load") cdv A outer s H E) (.Name "loads" pos) (tVar 0) := fun pos => pv 0
  have p0 := hP 0 (by decide)
  have w0 : ∀ pos : Pos, PE (cxOf (L2N.CX P w) P w K mg base N_one_load "one_load" (defScope st_one_load) (He.ga K "one_load") cdv A outer s H E) (.Name "loads" pos) (DE Γ (eVar 0)) := fun pos => v_var (v0 pos) p0
  have hr5 := hr.mono (show 5 ≤ 5 by decide)
  have l_centre_of : Gl (cxOf (L2N.CX P w) P w K mg base N_one_load "one_load" (defScope st_one_load) (He.ga K "one_load") cdv A outer s H E) "centre_of" := by rfl
  have q_centre_of : (("centre_of" : Str) == ("__debug__" : Str)) = false := by decide
  have hr4 := hr.mono (show 4 ≤ 5 by decide)
  have l_total_of : Gl (cxOf (L2N.CX P w) P w K mg base N_one_load "one_load" (defScope st_one_load) (He.ga K "one_load") cdv A outer s H E) "total_of" := by rfl
  have q_total_of : (("total_of" : Str) == ("__debug__" : Str)) = false := by decide
  exact ss_one (s_ret (v_tup (v_cons (v_tup (v_cons (v_call hx tk d_total_of hr4 l_total_of (b_val (w0 _) b_nil star_Name) q_total_of star_Name rfl) (v_cons (v_call hx tk d_centre_of hr5 l_centre_of (b_val (w0 _) b_nil star_Name) q_centre_of star_Name rfl) v_nil star_Call) star_Call)) v_nil star_Tuple)))
end
abbrev st__law_together : Stmt := top 51
abbrev N__law_together : List Str := ["_law_loads", "_law_found", "wrong"]
theorem sc__law_together : FnScope N__law_together ["_law_loads"] (defScope st__law_together) := ⟨rfl, rfl, rfl, by decide +kernel, rfl, by decide +kernel, by decide +kernel⟩
section
variable {P : Program} {w : World} {K : PySem.W.Frag} {mg : Str → Option Value} {base : Heap}
theorem ok__law_together {fd : FuncData} (F : FunD K "_law_together" "_law_together" (defArgs st__law_together) (defBody st__law_together) (defScope st__law_together) [] [] (He.ga K "_law_together") fd) (d_one_load : Def P w K mg base 6 "one_load" ["loads"] [false] F_one_load) (e_NoCentre : ExcCl P w K mg base "NoCentre" ["many"]) (m_NoCentre : PySem.W.exmOne K (.ref e_NoCentre.C) (.ref e_NoCentre.C) = some true) :
    FnOk P w K mg base (L2N.CX P w) 7 (He.ga K "_law_together") fd ["_law_loads"] (spF K mg [false] F__law_together) := by
  refine fn_ok F sc__law_together rfl (fun cdv A outer s H E Γ hr hx hP tk po => ?_)
  have p2 := hP 2 (by decide)
  have hr6 := hr.mono (show 6 ≤ 6 by decide)
  have q_one_load : (("one_load" : Str) == ("__debug__" : Str)) = false := by decide
  have v1 : ∀ pos : Pos, PE (cxOf (L2N.CX P w) P w K mg base N__law_together "_law_together" (defScope st__law_together) (He.ga K "_law_together") cdv A outer s H E) (.Name "_law_found" pos) (tVar 1) := fun pos => pv 1
  have p1 := hP 1 (by decide)
  have w1 : ∀ pos : Pos, PE (cxOf (L2N.CX P w) P w K mg base N__law_together "_law_together" (defScope st__law_together) (He.ga K "_law_together") cdv A outer s H E) (.Name "_law_found" pos) (DE Γ (eVar 1)) := fun pos => v_var (v1 pos) p1
  refine ss_cons (s_try (i := 2) (x := "NoCentre") (hv := .ref e_NoCentre.C) hx p2 rfl rfl sc__law_together.nd rfl rfl ⟨rfl, by decide, Or.inl e_NoCentre.gm⟩ tk (onlyM e_NoCentre.gm m_NoCentre)
 (fun pn xe Γ hx hΓ tk po => tryP hΓ hP fun hP => (by exact ss_one (s_asg (ps_set (i := 1) sc__law_together.nd rfl (by first | exact Or.inl rfl | exact Or.inr rfl) (v_call hx tk d_one_load hr6 (by rfl) (b_val (v_var (pv 0) (hP 0 (by decide))) b_nil star_Name) q_one_load star_Name rfl)) (hP 1 (by decide)))))
 (fun a oe pn c0 C0 dd ws fs Γ hz hf hmc hmg hx hPi hPo hd rf => onlyD hmc hmg e_NoCentre.gm fun eC => by subst eC; exact suiteP (i := 2) hPo hP fun hP => (by exact ss_one (s_asg (ps_set (i := 1) sc__law_together.nd rfl (by first | exact Or.inl rfl | exact Or.inr rfl) (v_lst (v_cons v_str (v_cons (v_xf e_NoCentre.xf (e_NoCentre.no _ (by decide)) hz hf (pv 2) hPi hd rf) v_nil star_Attribute) star_Constant))) (hP 1 (by decide)))))) ?_
  exact ss_one (s_ret (w1 _))
end
abbrev st__law_over : Stmt := top 41
abbrev N__law_over : List Str := ["_law_one", "_law_other"]
theorem sc__law_over : FnScope N__law_over ["_law_one", "_law_other"] (defScope st__law_over) := ⟨rfl, rfl, rfl, by decide +kernel, rfl, by decide +kernel, by decide +kernel⟩
section
variable {P : Program} {w : World} {K : PySem.W.Frag} {mg : Str → Option Value} {base : Heap}
theorem ok__law_over {fd : FuncData} (F : FunD K "_law_over" "_law_over" (defArgs st__law_over) (defBody st__law_over) (defScope st__law_over) [] [] (He.ga K "_law_over") fd) (d__law_ratio : Def P w K mg base 2 "_law_ratio" ["_law_top", "_law_bottom"] [false, false] F__law_ratio) :
    FnOk P w K mg base (L2N.CX P w) 3 (He.ga K "_law_over") fd ["_law_one", "_law_other"] (spF K mg [false, false] F__law_over) := by
  refine fn_ok F sc__law_over rfl (fun cdv A outer s H E Γ hr hx hP tk po => ?_)
  have v0 : ∀ pos : Pos, PE (cxOf (L2N.CX P w) P w K mg base N__law_over "_law_over" (defScope st__law_over) (He.ga K "_law_over") cdv A outer s H E) (.Name "_law_one" pos) (tVar 0) := fun pos => pv 0
  have p0 := hP 0 (by decide)
  have w0 : ∀ pos : Pos, PE (cxOf (L2N.CX P w) P w K mg base N__law_over "_law_over" (defScope st__law_over) (He.ga K "_law_over") cdv A outer s H E) (.Name "_law_one" pos) (DE Γ (eVar 0)) := fun pos => v_var (v0 pos) p0
  have v1 : ∀ pos : Pos, PE (cxOf (L2N.CX P w) P w K mg base N__law_over "_law_over" (defScope st__law_over) (He.ga K "_law_over") cdv A outer s H E) (.Name "_law_other" pos) (tVar 1) := fun pos => pv 1
  have p1 := hP 1 (by decide)
  have w1 : ∀ pos : Pos, PE (cxOf (L2N.CX P w) P w K mg base N__law_over "_law_over" (defScope st__law_over) (He.ga K "_law_over") cdv A outer s H E) (.Name "_law_other" pos) (DE Γ (eVar 1)) := fun pos => v_var (v1 pos) p1
  have hr2 := hr.mono (show 2 ≤ 2 by decide)
  have l__law_ratio : Gl (cxOf (L2N.CX P w) P w K mg base N__law_over "_law_over" (defScope st__law_over) (He.ga K "_law_over") cdv A outer s H E) "_law_ratio" := by rfl
  have q__law_ratio : (("_law_ratio" : Str) == ("__debug__" : Str)) = false := by decide
  exact ss_one (s_ret (v_call hx tk d__law_ratio hr2 l__law_ratio (b_val (v_op op_mulA s_mul (v_ix hx (w0 _) v_int (fun _ _ => rfl)) (v_ix hx (w1 _) v_int (fun _ _ => rfl))) (b_val (v_op op_mulA s_mul (v_ix hx (w0 _) v_int (fun _ _ => rfl)) (v_ix hx (w1 _) v_int (fun _ _ => rfl))) b_nil star_BinOp) star_BinOp) q__law_ratio star_BinOp rfl))
end
abbrev st_law : Stmt := top 54
abbrev N_law : List Str := ["_law_script", "_law_hand_here", "_law_many", "_law_great", "_law_nothing", "_law_loads", "_law_turn", "_law_weight", "_law_place", "_law_given", "_law_kept", "_law_found", "_law_total", "_law_across", "_law_along", "_law_middle_here", "_law_turned", "_law_at", "_law_rest", "_law_nine", "_law_load"]
theorem sc_law : FnScope N_law ["_law_script"] (defScope st_law) := ⟨rfl, rfl, rfl, by decide +kernel, rfl, by decide +kernel, by decide +kernel⟩
section
variable {P : Program} {w : World} {K : PySem.W.Frag} {mg : Str → Option Value} {base : Heap}
theorem ok_law {fd : FuncData} (F : FunD K "law" "law" (defArgs st_law) (defBody st_law) (defScope st_law) [] [] (He.ga K "law") fd) (d__law_hand : Def P w K mg base 1 "_law_hand" ["_law_script"] [false] F__law_hand) (d__law_take : Def P w K mg base 2 "_law_take" ["_law_hand_here", "_law_many"] [true, false] F__law_take) (n_range : mg "range" = none) (d__law_arm : Def P w K mg base 4 "_law_arm" ["_law_hand_here"] [true] F__law_arm) (d__law_coordinate : Def P w K mg base 4 "_law_coordinate" ["_law_hand_here"] [true] F__law_coordinate) (d__law_near : Def P w K mg base 3 "_law_near" ["_law_hand_here"] [true] F__law_near) (n_list : mg "list" = none) (n_repr : mg "repr" = none) (d__law_try : Def P w K mg base 8 "_law_try" ["_law_loads"] [false] F__law_try) (n_tuple : mg "tuple" = none) (d__law_tuples : Def P w K mg base 7 "_law_tuples" ["_law_thing"] [false] F__law_tuples) (d__law_centre : Def P w K mg base 5 "_law_centre" ["_law_loads"] [false] F__law_centre) (d_total_of : Def P w K mg base 4 "total_of" ["loads"] [false] F_total_of) (d_moment_of : Def P w K mg base 4 "moment_of" ["loads"] [false] F_moment_of) (d__law_middle : Def P w K mg base 6 "_law_middle" ["_law_loads"] [false] F__law_middle) (d__law_together : Def P w K mg base 7 "_law_together" ["_law_loads"] [false] F__law_together) (d__law_over : Def P w K mg base 3 "_law_over" ["_law_one", "_law_other"] [false, false] F__law_over) (d_one_load : Def P w K mg base 6 "one_load" ["loads"] [false] F_one_load) (d__law_plus : Def P w K mg base 3 "_law_plus" ["_law_one", "_law_other"] [false, false] F__law_plus) (d__law_times : Def P w K mg base 3 "_law_times" ["_law_one", "_law_other"] [false, false] F__law_times) (d__law_refused : Def P w K mg base 9 "_law_refused" ["_law_hand_here", "_law_loads"] [true, false] F__law_refused) :
    FnG P w K mg base (L2N.CX P w) 10 (He.ga K "law") fd ["_law_script"] (spF K mg [false] F_law) := by
  refine fn_okG F sc_law rfl (fun cdv A outer s H E Γ hgd hr hx hP tk po => ?_)
  have v0 : ∀ pos : Pos, PE (cxOf (L2N.CX P w) P w K mg base N_law "law" (defScope st_law) (He.ga K "law") cdv A outer s H E) (.Name "_law_script" pos) (tVar 0) := fun pos => pv 0
  have p0 := hP 0 (by decide)
  have w0 : ∀ pos : Pos, PE (cxOf (L2N.CX P w) P w K mg base N_law "law" (defScope st_law) (He.ga K "law") cdv A outer s H E) (.Name "_law_script" pos) (DE Γ (eVar 0)) := fun pos => v_var (v0 pos) p0
  have hr1 := hr.mono (show 1 ≤ 9 by decide)
  have l__law_hand : Gl (cxOf (L2N.CX P w) P w K mg base N_law "law" (defScope st_law) (He.ga K "law") cdv A outer s H E) "_law_hand" := by rfl
  have q__law_hand : (("_law_hand" : Str) == ("__debug__" : Str)) = false := by decide
  have p1 := hP 1 (by decide)
  have v1 : ∀ pos : Pos, PE (cxOf (L2N.CX P w) P w K mg base N_law "law" (defScope st_law) (He.ga K "law") cdv A outer s H E) (.Name "_law_hand_here" pos) (tVar 1) := fun pos => pv 1
  have hr2 := hr.mono (show 2 ≤ 9 by decide)
  have l__law_take : Gl (cxOf (L2N.CX P w) P w K mg base N_law "law" (defScope st_law) (He.ga K "law") cdv A outer s H E) "_law_take" := by rfl
  have q__law_take : (("_law_take" : Str) == ("__debug__" : Str)) = false := by decide
  have p2 := hP 2 (by decide)
  have p3 := hP 3 (by decide)
  have p4 := hP 4 (by decide)
  have p5 := hP 5 (by decide)
  have v2 : ∀ pos : Pos, PE (cxOf (L2N.CX P w) P w K mg base N_law "law" (defScope st_law) (He.ga K "law") cdv A outer s H E) (.Name "_law_many" pos) (tVar 2) := fun pos => pv 2
  have w2 : ∀ pos : Pos, PE (cxOf (L2N.CX P w) P w K mg base N_law "law" (defScope st_law) (He.ga K "law") cdv A outer s H E) (.Name "_law_many" pos) (DE Γ (eVar 2)) := fun pos => v_var (v2 pos) p2
  have p6 := hP 6 (by decide)
  have v4 : ∀ pos : Pos, PE (cxOf (L2N.CX P w) P w K mg base N_law "law" (defScope st_law) (He.ga K "law") cdv A outer s H E) (.Name "_law_nothing" pos) (tVar 4) := fun pos => pv 4
  have w4 : ∀ pos : Pos, PE (cxOf (L2N.CX P w) P w K mg base N_law "law" (defScope st_law) (He.ga K "law") cdv A outer s H E) (.Name "_law_nothing" pos) (DE Γ (eVar 4)) := fun pos => v_var (v4 pos) p4
  have hr4 := hr.mono (show 4 ≤ 9 by decide)
  have l__law_arm : Gl (cxOf (L2N.CX P w) P w K mg base N_law "law" (defScope st_law) (He.ga K "law") cdv A outer s H E) "_law_arm" := by rfl
  have q__law_arm : (("_law_arm" : Str) == ("__debug__" : Str)) = false := by decide
  have p7 := hP 7 (by decide)
  have v3 : ∀ pos : Pos, PE (cxOf (L2N.CX P w) P w K mg base N_law "law" (defScope st_law) (He.ga K "law") cdv A outer s H E) (.Name "_law_great" pos) (tVar 3) := fun pos => pv 3
  have w3 : ∀ pos : Pos, PE (cxOf (L2N.CX P w) P w K mg base N_law "law" (defScope st_law) (He.ga K "law") cdv A outer s H E) (.Name "_law_great" pos) (DE Γ (eVar 3)) := fun pos => v_var (v3 pos) p3
  have l__law_coordinate : Gl (cxOf (L2N.CX P w) P w K mg base N_law "law" (defScope st_law) (He.ga K "law") cdv A outer s H E) "_law_coordinate" := by rfl
  have q__law_coordinate : (("_law_coordinate" : Str) == ("__debug__" : Str)) = false := by decide
  have hr3 := hr.mono (show 3 ≤ 9 by decide)
  have l__law_near : Gl (cxOf (L2N.CX P w) P w K mg base N_law "law" (defScope st_law) (He.ga K "law") cdv A outer s H E) "_law_near" := by rfl
  have q__law_near : (("_law_near" : Str) == ("__debug__" : Str)) = false := by decide
  have p8 := hP 8 (by decide)
  have v8 : ∀ pos : Pos, PE (cxOf (L2N.CX P w) P w K mg base N_law "law" (defScope st_law) (He.ga K "law") cdv A outer s H E) (.Name "_law_place" pos) (tVar 8) := fun pos => pv 8
  have w8 : ∀ pos : Pos, PE (cxOf (L2N.CX P w) P w K mg base N_law "law" (defScope st_law) (He.ga K "law") cdv A outer s H E) (.Name "_law_place" pos) (DE Γ (eVar 8)) := fun pos => v_var (v8 pos) p8
  have v7 : ∀ pos : Pos, PE (cxOf (L2N.CX P w) P w K mg base N_law "law" (defScope st_law) (He.ga K "law") cdv A outer s H E) (.Name "_law_weight" pos) (tVar 7) := fun pos => pv 7
  have w7 : ∀ pos : Pos, PE (cxOf (L2N.CX P w) P w K mg base N_law "law" (defScope st_law) (He.ga K "law") cdv A outer s H E) (.Name "_law_weight" pos) (DE Γ (eVar 7)) := fun pos => v_var (v7 pos) p7
  have v5 : ∀ pos : Pos, PE (cxOf (L2N.CX P w) P w K mg base N_law "law" (defScope st_law) (He.ga K "law") cdv A outer s H E) (.Name "_law_loads" pos) (tVar 5) := fun pos => pv 5
  have w5 : ∀ pos : Pos, PE (cxOf (L2N.CX P w) P w K mg base N_law "law" (defScope st_law) (He.ga K "law") cdv A outer s H E) (.Name "_law_loads" pos) (DE Γ (eVar 5)) := fun pos => v_var (v5 pos) p5
  have r_list : ("list" : Str) ≠ "__name__" := by decide
  have q_list : (("list" : Str) == ("__debug__" : Str)) = false := by decide
  have p9 := hP 9 (by decide)
  have v9 : ∀ pos : Pos, PE (cxOf (L2N.CX P w) P w K mg base N_law "law" (defScope st_law) (He.ga K "law") cdv A outer s H E) (.Name "_law_given" pos) (tVar 9) := fun pos => pv 9
  have w9 : ∀ pos : Pos, PE (cxOf (L2N.CX P w) P w K mg base N_law "law" (defScope st_law) (He.ga K "law") cdv A outer s H E) (.Name "_law_given" pos) (DE Γ (eVar 9)) := fun pos => v_var (v9 pos) p9
  have l_repr : Gl (cxOf (L2N.CX P w) P w K mg base N_law "law" (defScope st_law) (He.ga K "law") cdv A outer s H E) "repr" := by rfl
  have r_repr : ("repr" : Str) ≠ "__name__" := by decide
  have q_repr : (("repr" : Str) == ("__debug__" : Str)) = false := by decide
  have p10 := hP 10 (by decide)
  have hr8 := hr.mono (show 8 ≤ 9 by decide)
  have l__law_try : Gl (cxOf (L2N.CX P w) P w K mg base N_law "law" (defScope st_law) (He.ga K "law") cdv A outer s H E) "_law_try" := by rfl
  have q__law_try : (("_law_try" : Str) == ("__debug__" : Str)) = false := by decide
  have p11 := hP 11 (by decide)
  have v11 : ∀ pos : Pos, PE (cxOf (L2N.CX P w) P w K mg base N_law "law" (defScope st_law) (He.ga K "law") cdv A outer s H E) (.Name "_law_found" pos) (tVar 11) := fun pos => pv 11
  have w11 : ∀ pos : Pos, PE (cxOf (L2N.CX P w) P w K mg base N_law "law" (defScope st_law) (He.ga K "law") cdv A outer s H E) (.Name "_law_found" pos) (DE Γ (eVar 11)) := fun pos => v_var (v11 pos) p11
  have l_tuple : Gl (cxOf (L2N.CX P w) P w K mg base N_law "law" (defScope st_law) (He.ga K "law") cdv A outer s H E) "tuple" := by rfl
  have r_tuple : ("tuple" : Str) ≠ "__name__" := by decide
  have q_tuple : (("tuple" : Str) == ("__debug__" : Str)) = false := by decide
  have hr7 := hr.mono (show 7 ≤ 9 by decide)
  have l__law_tuples : Gl (cxOf (L2N.CX P w) P w K mg base N_law "law" (defScope st_law) (He.ga K "law") cdv A outer s H E) "_law_tuples" := by rfl
  have q__law_tuples : (("_law_tuples" : Str) == ("__debug__" : Str)) = false := by decide
  have v10 : ∀ pos : Pos, PE (cxOf (L2N.CX P w) P w K mg base N_law "law" (defScope st_law) (He.ga K "law") cdv A outer s H E) (.Name "_law_kept" pos) (tVar 10) := fun pos => pv 10
  have w10 : ∀ pos : Pos, PE (cxOf (L2N.CX P w) P w K mg base N_law "law" (defScope st_law) (He.ga K "law") cdv A outer s H E) (.Name "_law_kept" pos) (DE Γ (eVar 10)) := fun pos => v_var (v10 pos) p10
  have hr5 := hr.mono (show 5 ≤ 9 by decide)
  have l__law_centre : Gl (cxOf (L2N.CX P w) P w K mg base N_law "law" (defScope st_law) (He.ga K "law") cdv A outer s H E) "_law_centre" := by rfl
  have q__law_centre : (("_law_centre" : Str) == ("__debug__" : Str)) = false := by decide
  have p14 := hP 14 (by decide)
  have p13 := hP 13 (by decide)
  have p12 := hP 12 (by decide)
  have l_total_of : Gl (cxOf (L2N.CX P w) P w K mg base N_law "law" (defScope st_law) (He.ga K "law") cdv A outer s H E) "total_of" := by rfl
  have q_total_of : (("total_of" : Str) == ("__debug__" : Str)) = false := by decide
  have v12 : ∀ pos : Pos, PE (cxOf (L2N.CX P w) P w K mg base N_law "law" (defScope st_law) (He.ga K "law") cdv A outer s H E) (.Name "_law_total" pos) (tVar 12) := fun pos => pv 12
  have w12 : ∀ pos : Pos, PE (cxOf (L2N.CX P w) P w K mg base N_law "law" (defScope st_law) (He.ga K "law") cdv A outer s H E) (.Name "_law_total" pos) (DE Γ (eVar 12)) := fun pos => v_var (v12 pos) p12
  have l_moment_of : Gl (cxOf (L2N.CX P w) P w K mg base N_law "law" (defScope st_law) (He.ga K "law") cdv A outer s H E) "moment_of" := by rfl
  have q_moment_of : (("moment_of" : Str) == ("__debug__" : Str)) = false := by decide
  have v14 : ∀ pos : Pos, PE (cxOf (L2N.CX P w) P w K mg base N_law "law" (defScope st_law) (He.ga K "law") cdv A outer s H E) (.Name "_law_along" pos) (tVar 14) := fun pos => pv 14
  have w14 : ∀ pos : Pos, PE (cxOf (L2N.CX P w) P w K mg base N_law "law" (defScope st_law) (He.ga K "law") cdv A outer s H E) (.Name "_law_along" pos) (DE Γ (eVar 14)) := fun pos => v_var (v14 pos) p14
  have v13 : ∀ pos : Pos, PE (cxOf (L2N.CX P w) P w K mg base N_law "law" (defScope st_law) (He.ga K "law") cdv A outer s H E) (.Name "_law_across" pos) (tVar 13) := fun pos => pv 13
  have w13 : ∀ pos : Pos, PE (cxOf (L2N.CX P w) P w K mg base N_law "law" (defScope st_law) (He.ga K "law") cdv A outer s H E) (.Name "_law_across" pos) (DE Γ (eVar 13)) := fun pos => v_var (v13 pos) p13
  have hr6 := hr.mono (show 6 ≤ 9 by decide)
  have l__law_middle : Gl (cxOf (L2N.CX P w) P w K mg base N_law "law" (defScope st_law) (He.ga K "law") cdv A outer s H E) "_law_middle" := by rfl
  have q__law_middle : (("_law_middle" : Str) == ("__debug__" : Str)) = false := by decide
  have p15 := hP 15 (by decide)
  have v15 : ∀ pos : Pos, PE (cxOf (L2N.CX P w) P w K mg base N_law "law" (defScope st_law) (He.ga K "law") cdv A outer s H E) (.Name "_law_middle_here" pos) (tVar 15) := fun pos => pv 15
  have w15 : ∀ pos : Pos, PE (cxOf (L2N.CX P w) P w K mg base N_law "law" (defScope st_law) (He.ga K "law") cdv A outer s H E) (.Name "_law_middle_here" pos) (DE Γ (eVar 15)) := fun pos => v_var (v15 pos) p15
  have l__law_together : Gl (cxOf (L2N.CX P w) P w K mg base N_law "law" (defScope st_law) (He.ga K "law") cdv A outer s H E) "_law_together" := by rfl
  have q__law_together : (("_law_together" : Str) == ("__debug__" : Str)) = false := by decide
  have l__law_over : Gl (cxOf (L2N.CX P w) P w K mg base N_law "law" (defScope st_law) (He.ga K "law") cdv A outer s H E) "_law_over" := by rfl
  have q__law_over : (("_law_over" : Str) == ("__debug__" : Str)) = false := by decide
  have l_one_load : Gl (cxOf (L2N.CX P w) P w K mg base N_law "law" (defScope st_law) (He.ga K "law") cdv A outer s H E) "one_load" := by rfl
  have q_one_load : (("one_load" : Str) == ("__debug__" : Str)) = false := by decide
  have p16 := hP 16 (by decide)
  have v16 : ∀ pos : Pos, PE (cxOf (L2N.CX P w) P w K mg base N_law "law" (defScope st_law) (He.ga K "law") cdv A outer s H E) (.Name "_law_turned" pos) (tVar 16) := fun pos => pv 16
  have w16 : ∀ pos : Pos, PE (cxOf (L2N.CX P w) P w K mg base N_law "law" (defScope st_law) (He.ga K "law") cdv A outer s H E) (.Name "_law_turned" pos) (DE Γ (eVar 16)) := fun pos => v_var (v16 pos) p16
  have p17 := hP 17 (by decide)
  have v17 : ∀ pos : Pos, PE (cxOf (L2N.CX P w) P w K mg base N_law "law" (defScope st_law) (He.ga K "law") cdv A outer s H E) (.Name "_law_at" pos) (tVar 17) := fun pos => pv 17
  have w17 : ∀ pos : Pos, PE (cxOf (L2N.CX P w) P w K mg base N_law "law" (defScope st_law) (He.ga K "law") cdv A outer s H E) (.Name "_law_at" pos) (DE Γ (eVar 17)) := fun pos => v_var (v17 pos) p17
  have p18 := hP 18 (by decide)
  have v18 : ∀ pos : Pos, PE (cxOf (L2N.CX P w) P w K mg base N_law "law" (defScope st_law) (He.ga K "law") cdv A outer s H E) (.Name "_law_rest" pos) (tVar 18) := fun pos => pv 18
  have w18 : ∀ pos : Pos, PE (cxOf (L2N.CX P w) P w K mg base N_law "law" (defScope st_law) (He.ga K "law") cdv A outer s H E) (.Name "_law_rest" pos) (DE Γ (eVar 18)) := fun pos => v_var (v18 pos) p18
  have l__law_plus : Gl (cxOf (L2N.CX P w) P w K mg base N_law "law" (defScope st_law) (He.ga K "law") cdv A outer s H E) "_law_plus" := by rfl
  have q__law_plus : (("_law_plus" : Str) == ("__debug__" : Str)) = false := by decide
  have l__law_times : Gl (cxOf (L2N.CX P w) P w K mg base N_law "law" (defScope st_law) (He.ga K "law") cdv A outer s H E) "_law_times" := by rfl
  have q__law_times : (("_law_times" : Str) == ("__debug__" : Str)) = false := by decide
  have hr9 := hr.mono (show 9 ≤ 9 by decide)
  have l__law_refused : Gl (cxOf (L2N.CX P w) P w K mg base N_law "law" (defScope st_law) (He.ga K "law") cdv A outer s H E) "_law_refused" := by rfl
  have q__law_refused : (("_law_refused" : Str) == ("__debug__" : Str)) = false := by decide
  have p19 := hP 19 (by decide)
  have v19 : ∀ pos : Pos, PE (cxOf (L2N.CX P w) P w K mg base N_law "law" (defScope st_law) (He.ga K "law") cdv A outer s H E) (.Name "_law_nine" pos) (tVar 19) := fun pos => pv 19
  have w19 : ∀ pos : Pos, PE (cxOf (L2N.CX P w) P w K mg base N_law "law" (defScope st_law) (He.ga K "law") cdv A outer s H E) (.Name "_law_nine" pos) (DE Γ (eVar 19)) := fun pos => v_var (v19 pos) p19
  refine ss_cons (s_asgO (ps_set (i := 1) sc_law.nd rfl (by first | exact Or.inl rfl | exact Or.inr rfl) (f_call hx tk d__law_hand hr1 l__law_hand (b_val (w0 _) b_nil star_Name) q__law_hand star_Name rfl)) p1) ?_
  refine ss_cons (s_asg (ps_set (i := 2) sc_law.nd rfl (by first | exact Or.inl rfl | exact Or.inr rfl) (v_call hx tk d__law_take hr2 l__law_take (b_own (v1 _) (b_val v_int b_nil star_Constant) star_Name) q__law_take star_Name rfl)) p2) ?_
  refine ss_cons (s_asg (ps_set (i := 3) sc_law.nd rfl (by first | exact Or.inl rfl | exact Or.inr rfl) (v_eq hx hr.units (v_call hx tk d__law_take hr2 l__law_take (b_own (v1 _) (b_val v_int b_nil star_Constant) star_Name) q__law_take star_Name rfl) v_int rfl)) p3) ?_
  refine ss_cons (s_asg (ps_set (i := 4) sc_law.nd rfl (by first | exact Or.inl rfl | exact Or.inr rfl) (v_eq hx hr.units (v_call hx tk d__law_take hr2 l__law_take (b_own (v1 _) (b_val v_int b_nil star_Constant) star_Name) q__law_take star_Name rfl) v_int rfl)) p4) ?_
  refine ss_cons (s_asgO (ps_set (i := 5) sc_law.nd rfl (by first | exact Or.inl rfl | exact Or.inr rfl) (f_lst v_nil)) p5) ?_
  refine ss_cons (s_for (is := [6]) (ps_for po rfl (i_rng1 (pi_range1 (by rfl) n_range (v_cons (w2 _) v_nil star_Name))) (g_name (pg_name sc_law.nd rfl (by first | exact Or.inl rfl | exact Or.inr rfl)) p6)
 (by refine ss_cons (s_asg (ps_set (i := 7) sc_law.nd rfl (by first | exact Or.inl rfl | exact Or.inr rfl) (v_if (PW.pt (w_or (t_tru hx (w4 _) (fun _ => rfl)) (w_or1 (t_eq hx hr.units (v_call hx tk d__law_take hr2 l__law_take (b_own (v1 _) (b_val v_int b_nil star_Constant) star_Name) q__law_take star_Name rfl) v_int rfl)))) (v_tup (v_cons v_int (v_cons v_int v_nil star_Constant) star_Constant)) (v_call hx tk d__law_arm hr4 l__law_arm (b_own (v1 _) b_nil star_Name) q__law_arm star_Name rfl))) p7) ?_; refine ss_cons (s_asg (ps_set (i := 8) sc_law.nd rfl (by first | exact Or.inl rfl | exact Or.inr rfl) (v_if (t_tru hx (w3 _) (fun _ => rfl)) (v_tup (v_cons (v_call hx tk d__law_coordinate hr4 l__law_coordinate (b_own (v1 _) b_nil star_Name) q__law_coordinate star_Name rfl) (v_cons (v_call hx tk d__law_coordinate hr4 l__law_coordinate (b_own (v1 _) b_nil star_Name) q__law_coordinate star_Name rfl) v_nil star_Call) star_Call)) (v_tup (v_cons (v_call hx tk d__law_near hr3 l__law_near (b_own (v1 _) b_nil star_Name) q__law_near star_Name rfl) (v_cons (v_call hx tk d__law_near hr3 l__law_near (b_own (v1 _) b_nil star_Name) q__law_near star_Name rfl) v_nil star_Call) star_Call)))) p8) ?_; exact ss_one (s_app hx (ps_expr (pe_bm PySem.F.plainAttrs_list PySem.F.slot_list_append PySem.F.type_list_append mt_append (v5 _) (pa_cons (v_tup (v_cons (w7 _) (v_cons (w8 _) v_nil star_Name) star_Name)) pa_nil))))))) ?_
  refine ss_cons (s_asg (asgF (p_setLc (own := [("_law_load", 20)]) (is := [20]) (i := 9) rfl sc_law.nd rfl rfl (sw_true rfl rfl rfl (by decide +kernel)) hx (i_seq hx (w5 _)) (blkOk_by (own := [("_law_load", 20)]) (N := N_law) (sc := defScope st_law) (by decide +kernel)) (fun j hj => hP j (ownNot [20] [false] hj (by decide))) (by decide) (fun s0 H0 C0 cl0 fp0 Γ hx hΓ tk => blkP hΓ hP fun hP => ⟨(g_name (pg_name sc_law.nd rfl (by first | exact Or.inl rfl | exact Or.inr rfl)) (hP 20 (by decide))), ts_nil, (v_lst (v_cons (v_ix hx (v_var (pv 20) (hP 20 (by decide))) v_int (fun _ _ => rfl)) (v_cons (v_listC hx (by rfl) n_list (by decide +kernel) (v_cons (v_ix hx (v_var (pv 20) (hP 20 (by decide))) v_int (fun _ _ => rfl)) v_nil star_Subscript) r_list q_list star_Subscript rfl) v_nil star_Call) star_Subscript))⟩))) p9) ?_
  refine ss_cons (s_asg (ps_set (i := 10) sc_law.nd rfl (by first | exact Or.inl rfl | exact Or.inr rfl) (v_repr hx hgd hr.units l_repr n_repr (by decide +kernel) (v_cons (w9 _) v_nil star_Name) r_repr q_repr star_Name rfl)) p10) ?_
  refine ss_cons (s_asg (ps_set (i := 11) sc_law.nd rfl (by first | exact Or.inl rfl | exact Or.inr rfl) (v_call hx tk d__law_try hr8 l__law_try (b_val (w9 _) b_nil star_Name) q__law_try star_Name rfl)) p11) ?_
  refine ss_cons (s_if (PW.pt (w_or (t_ne hx hr.units (w11 _) (v_tupleC hx l_tuple n_tuple (by decide +kernel) (v_cons (w5 _) v_nil star_Name) r_tuple q_tuple star_Name rfl) rfl) (w_or (t_not (t_tru hx (v_call hx tk d__law_tuples hr7 l__law_tuples (b_val (w11 _) b_nil star_Name) q__law_tuples star_Name rfl) (fun _ => rfl))) (w_or (t_ne hx hr.units (v_repr hx hgd hr.units l_repr n_repr (by decide +kernel) (v_cons (w9 _) v_nil star_Name) r_repr q_repr star_Name rfl) (w10 _) rfl) (w_or1 (t_ne hx hr.units (v_call hx tk d__law_try hr8 l__law_try (b_val (v_tupleC hx l_tuple n_tuple (by decide +kernel) (v_cons (w5 _) v_nil star_Name) r_tuple q_tuple star_Name rfl) b_nil star_Call) q__law_try star_Call rfl) (v_tupleC hx l_tuple n_tuple (by decide +kernel) (v_cons (w5 _) v_nil star_Name) r_tuple q_tuple star_Name rfl) rfl))))))
 (by exact ss_one (s_ret v_bl))
 ss_nil) ?_
  refine ss_cons (s_asgG (ps_asg (v_call hx tk d__law_centre hr5 l__law_centre (b_val (w5 _) b_nil star_Name) q__law_centre star_Name rfl) (g_tl hx rfl (gs_cons (g_name (pg_name sc_law.nd rfl (by first | exact Or.inl rfl | exact Or.inr rfl)) p12) (gs_cons (g_name (pg_name sc_law.nd rfl (by first | exact Or.inl rfl | exact Or.inr rfl)) p13) (gs_cons (g_name (pg_name sc_law.nd rfl (by first | exact Or.inl rfl | exact Or.inr rfl)) p14) gs_nil)))))) ?_
  refine ss_cons (s_if (PW.pt (w_or (t_ne hx hr.units (v_call hx tk d_total_of hr4 l_total_of (b_val (w9 _) b_nil star_Name) q_total_of star_Name rfl) (w12 _) rfl) (w_or (t_ne hx hr.units (v_call hx tk d_moment_of hr4 l_moment_of (b_val (w9 _) b_nil star_Name) q_moment_of star_Name rfl) (v_tup (v_cons (w13 _) (v_cons (w14 _) v_nil star_Name) star_Name)) rfl) (w_or1 (t_ne hx hr.units (v_repr hx hgd hr.units l_repr n_repr (by decide +kernel) (v_cons (w9 _) v_nil star_Name) r_repr q_repr star_Name rfl) (w10 _) rfl)))))
 (by exact ss_one (s_ret v_bl))
 ss_nil) ?_
  refine ss_cons (s_asg (ps_set (i := 15) sc_law.nd rfl (by first | exact Or.inl rfl | exact Or.inr rfl) (v_call hx tk d__law_middle hr6 l__law_middle (b_val (w9 _) b_nil star_Name) q__law_middle star_Name rfl)) p15) ?_
  refine ss_cons (s_if (t_eq hx hr.units (w12 _) (v_tup (v_cons v_int (v_cons v_int v_nil star_Constant) star_Constant)) rfl)
 (by exact ss_one (s_if (PW.pt (w_or (t_ne hx hr.units (w15 _) (v_lst (v_cons v_str (v_cons (w2 _) v_nil star_Name) star_Constant)) rfl) (w_or1 (t_ne hx hr.units (v_call hx tk d__law_together hr7 l__law_together (b_val (w5 _) b_nil star_Name) q__law_together star_Name rfl) (v_lst (v_cons v_str (v_cons (w2 _) v_nil star_Name) star_Constant)) rfl))))
 (by exact ss_one (s_ret v_bl))
 ss_nil))
 (by refine ss_cons (s_if (PW.pt (w_or (t_ne hx hr.units (w15 _) (v_tup (v_cons (v_call hx tk d__law_over hr3 l__law_over (b_val (w13 _) (b_val (w12 _) b_nil star_Name) star_Name) q__law_over star_Name rfl) (v_cons (v_call hx tk d__law_over hr3 l__law_over (b_val (w14 _) (b_val (w12 _) b_nil star_Name) star_Name) q__law_over star_Name rfl) v_nil star_Call) star_Call)) rfl) (w_or1 (t_ne hx hr.units (v_call hx tk d__law_together hr7 l__law_together (b_val (w9 _) b_nil star_Name) q__law_together star_Name rfl) (v_tup (v_cons (v_tup (v_cons (w12 _) (v_cons (w15 _) v_nil star_Name) star_Name)) v_nil star_Tuple)) rfl))))
 (by exact ss_one (s_ret v_bl))
 ss_nil) ?_; exact ss_one (s_if (PW.pt (w_or (t_ne hx hr.units (v_call hx tk d_total_of hr4 l_total_of (b_val (v_call hx tk d_one_load hr6 l_one_load (b_val (w5 _) b_nil star_Name) q_one_load star_Name rfl) b_nil star_Call) q_total_of star_Call rfl) (w12 _) rfl) (w_or (t_ne hx hr.units (v_call hx tk d_moment_of hr4 l_moment_of (b_val (v_call hx tk d_one_load hr6 l_one_load (b_val (w5 _) b_nil star_Name) q_one_load star_Name rfl) b_nil star_Call) q_moment_of star_Call rfl) (v_tup (v_cons (w13 _) (v_cons (w14 _) v_nil star_Name) star_Name)) rfl) (w_or1 (t_not (t_tru hx (v_call hx tk d__law_tuples hr7 l__law_tuples (b_val (v_call hx tk d_one_load hr6 l_one_load (b_val (w9 _) b_nil star_Name) q_one_load star_Name rfl) b_nil star_Call) q__law_tuples star_Call rfl) (fun _ => rfl)))))))
 (by exact ss_one (s_ret v_bl))
 ss_nil))) ?_
  refine ss_cons (s_asg (asgF (p_setLc (own := [("_law_at", 17)]) (is := [17]) (i := 16) rfl sc_law.nd rfl rfl (sw_true rfl rfl rfl (by decide +kernel)) hx (i_rng1 (pi_range1 (by rfl) n_range (v_cons (w2 _) v_nil star_Name))) (blkOk_by (own := [("_law_at", 17)]) (N := N_law) (sc := defScope st_law) (by decide +kernel)) (fun j hj => hP j (ownNot [17] [false] hj (by decide))) (by decide) (fun s0 H0 C0 cl0 fp0 Γ hx hΓ tk => blkP hΓ hP fun hP => ⟨(g_name (pg_name sc_law.nd rfl (by first | exact Or.inl rfl | exact Or.inr rfl)) (hP 17 (by decide))), ts_nil, (v_ixS hx (pv 5) (v_op op_sub s_sub (v_op op_sub s_sub (v_var (pv 2) (hP 2 (by decide))) v_int) (v_var (pv 17) (hP 17 (by decide)))) (fun _ _ => rfl))⟩))) p16) ?_
  refine ss_cons (s_if (PW.pt (w_or (t_ne hx hr.units (v_call hx tk d_total_of hr4 l_total_of (b_val (w16 _) b_nil star_Name) q_total_of star_Name rfl) (w12 _) rfl) (w_or (t_ne hx hr.units (v_call hx tk d_moment_of hr4 l_moment_of (b_val (w16 _) b_nil star_Name) q_moment_of star_Name rfl) (v_tup (v_cons (w13 _) (v_cons (w14 _) v_nil star_Name) star_Name)) rfl) (w_or1 (t_ne hx hr.units (v_call hx tk d__law_middle hr6 l__law_middle (b_val (w16 _) b_nil star_Name) q__law_middle star_Name rfl) (w15 _) rfl)))))
 (by exact ss_one (s_ret v_bl))
 ss_nil) ?_
  refine ss_cons (s_for (is := [17]) (ps_for po rfl (i_rng1 (pi_range1 (by rfl) n_range (v_cons (w2 _) v_nil star_Name))) (g_name (pg_name sc_law.nd rfl (by first | exact Or.inl rfl | exact Or.inr rfl)) p17)
 (by refine ss_cons (s_asg (ps_set (i := 18) sc_law.nd rfl (by first | exact Or.inl rfl | exact Or.inr rfl) (v_add hx (v_sl hx (w5 _) o_none (o_some (w17 _))) (v_sl hx (w5 _) (o_some (v_add hx (w17 _) v_int)) o_none))) p18) ?_; refine ss_cons (s_asgG (ps_asg (v_ixS hx (v5 _) (w17 _) (fun _ _ => rfl)) (g_tl hx rfl (gs_cons (g_name (pg_name sc_law.nd rfl (by first | exact Or.inl rfl | exact Or.inr rfl)) p7) (gs_cons (g_name (pg_name sc_law.nd rfl (by first | exact Or.inl rfl | exact Or.inr rfl)) p8) gs_nil))))) ?_; refine ss_cons (s_if (t_ne hx hr.units (v_call hx tk d__law_plus hr3 l__law_plus (b_val (v_call hx tk d_total_of hr4 l_total_of (b_val (w18 _) b_nil star_Name) q_total_of star_Name rfl) (b_val (w7 _) b_nil star_Name) star_Call) q__law_plus star_Call rfl) (w12 _) rfl)
 (by exact ss_one (s_ret v_bl))
 ss_nil) ?_; exact ss_one (s_if (t_ne hx hr.units (v_call hx tk d__law_plus hr3 l__law_plus (b_val (v_ix hx (v_call hx tk d_moment_of hr4 l_moment_of (b_val (w18 _) b_nil star_Name) q_moment_of star_Name rfl) v_int (fun _ _ => rfl)) (b_val (v_call hx tk d__law_times hr3 l__law_times (b_val (w7 _) (b_val (v_ix hx (w8 _) v_int (fun _ _ => rfl)) b_nil star_Subscript) star_Name) q__law_times star_Name rfl) b_nil star_Call) star_Subscript) q__law_plus star_Subscript rfl) (w14 _) rfl)
 (by exact ss_one (s_ret v_bl))
 ss_nil)))) ?_
  refine ss_cons (s_if (t_not (t_tru hx (v_call hx tk d__law_refused hr9 l__law_refused (b_own (v1 _) (b_val (w5 _) b_nil star_Name) star_Name) q__law_refused star_Name rfl) (fun _ => rfl)))
 (by exact ss_one (s_ret v_bl))
 ss_nil) ?_
  refine ss_cons (s_asg (asgF (p_setLc (own := [("_law_turn", 6)]) (is := [6]) (i := 19) rfl sc_law.nd rfl rfl (sw_true rfl rfl rfl (by decide +kernel)) hx (i_rng1 (pi_range1 (by rfl) n_range (v_cons v_int v_nil star_Constant))) (blkOk_by (own := [("_law_turn", 6)]) (N := N_law) (sc := defScope st_law) (by decide +kernel)) (fun j hj => hP j (ownNot [6] [false] hj (by decide))) (by decide) (fun s0 H0 C0 cl0 fp0 Γ hx hΓ tk => blkP hΓ hP fun hP => ⟨(g_name (pg_name sc_law.nd rfl (by first | exact Or.inl rfl | exact Or.inr rfl)) (hP 6 (by decide))), ts_nil, (v_tup (v_cons (v_tup (v_cons v_int (v_cons v_int v_nil star_Constant) star_Constant)) (v_cons (v_tup (v_cons (v_tup (v_cons (v_var (pv 6) (hP 6 (by decide))) (v_cons v_int v_nil star_Constant) star_Name)) (v_cons (v_tup (v_cons v_int (v_cons v_int v_nil star_Constant) star_Constant)) v_nil star_Tuple) star_Tuple)) v_nil star_Tuple) star_Tuple))⟩))) p19) ?_
  refine ss_cons (s_if (PW.pt (w_or (t_ne hx hr.units (v_call hx tk d__law_try hr8 l__law_try (b_val (w19 _) b_nil star_Name) q__law_try star_Name rfl) (v_lst (v_cons v_int (v_cons v_str v_nil star_Constant) star_Constant)) rfl) (w_or (t_ne hx hr.units (v_call hx tk d__law_try hr8 l__law_try (b_val (v_sl hx (w19 _) (o_some v_int) o_none) b_nil star_Subscript) q__law_try star_Subscript rfl) (v_tupleC hx l_tuple n_tuple (by decide +kernel) (v_cons (v_sl hx (w19 _) (o_some v_int) o_none) v_nil star_Subscript) r_tuple q_tuple star_Subscript rfl) rfl) (w_or1 (t_ne hx hr.units (v_call hx tk d__law_try hr8 l__law_try (b_val v_str b_nil star_Constant) q__law_try star_Constant rfl) (v_lst (v_cons v_int (v_cons v_str v_nil star_Constant) star_Constant)) rfl)))))
 (by exact ss_one (s_ret v_bl))
 ss_nil) ?_
  exact ss_one (s_ret (v_and hx (v_eq hx hr.units (v_call hx tk d__law_try hr8 l__law_try (b_val v_non b_nil star_Constant) q__law_try star_Constant rfl) (v_lst (v_cons v_int (v_cons v_str v_nil star_Constant) star_Constant)) rfl) (v_and hx (v_eq hx hr.units (v_call hx tk d__law_try hr8 l__law_try (b_val (v_lst v_nil) b_nil star_List) q__law_try star_List rfl) (v_tup v_nil) rfl) (v_and hx (v_eq hx hr.units (v_call hx tk d_total_of hr4 l_total_of (b_val (v_tup v_nil) b_nil star_Tuple) q_total_of star_Tuple rfl) (v_tup (v_cons v_int (v_cons v_int v_nil star_Constant) star_Constant)) rfl) (v_one (v_eq hx hr.units (v_call hx tk d_moment_of hr4 l_moment_of (b_val (v_lst v_nil) b_nil star_List) q_moment_of star_List rfl) (v_tup (v_cons (v_tup (v_cons v_int (v_cons v_int v_nil star_Constant) star_Constant)) (v_cons (v_tup (v_cons v_int (v_cons v_int v_nil star_Constant) star_Constant)) v_nil star_Tuple) star_Tuple)) rfl))))))
end
end K07
end

section
set_option Elab.async false
set_option linter.all false
set_option maxRecDepth 100000
set_option maxHeartbeats 4000000
set_option autoImplicit false
namespace K07
open PySem PySem.Spec PyProof.Rows L2 PL
abbrev st_BadRatio_init : Stmt := inClass (top 3) 0
abbrev st_BadLoads_init : Stmt := inClass (top 4) 0
abbrev st_NoCentre_init : Stmt := inClass (top 5) 0
def dd__law_hand : He.DefD := ⟨("_law_hand", none), "_law_hand", "_law_hand", defArgs st__law_hand, defBody st__law_hand, defScope st__law_hand, [], []⟩
def dd__law_mixed : He.DefD := ⟨("_law_mixed", none), "_law_mixed", "_law_mixed", defArgs st__law_mixed, defBody st__law_mixed, defScope st__law_mixed, [], []⟩
def dd__law_take : He.DefD := ⟨("_law_take", none), "_law_take", "_law_take", defArgs st__law_take, defBody st__law_take, defScope st__law_take, [], []⟩
def dd_is_sequence : He.DefD := ⟨("is_sequence", none), "is_sequence", "is_sequence", defArgs st_is_sequence, defBody st_is_sequence, defScope st_is_sequence, [.int 0, .non], []⟩
def dd_is_couple : He.DefD := ⟨("is_couple", none), "is_couple", "is_couple", defArgs st_is_couple, defBody st_is_couple, defScope st_is_couple, [], []⟩
def dd_is_whole : He.DefD := ⟨("is_whole", none), "is_whole", "is_whole", defArgs st_is_whole, defBody st_is_whole, defScope st_is_whole, [.non, .non], []⟩
def dd_is_ratio : He.DefD := ⟨("is_ratio", none), "is_ratio", "is_ratio", defArgs st_is_ratio, defBody st_is_ratio, defScope st_is_ratio, [], []⟩
def dd_is_within_bound : He.DefD := ⟨("is_within_bound", none), "is_within_bound", "is_within_bound", defArgs st_is_within_bound, defBody st_is_within_bound, defScope st_is_within_bound, [], []⟩
def dd_is_coordinate : He.DefD := ⟨("is_coordinate", none), "is_coordinate", "is_coordinate", defArgs st_is_coordinate, defBody st_is_coordinate, defScope st_is_coordinate, [], []⟩
def dd_is_weight : He.DefD := ⟨("is_weight", none), "is_weight", "is_weight", defArgs st_is_weight, defBody st_is_weight, defScope st_is_weight, [], []⟩
def dd_is_place : He.DefD := ⟨("is_place", none), "is_place", "is_place", defArgs st_is_place, defBody st_is_place, defScope st_is_place, [], []⟩
def dd_wrong_load : He.DefD := ⟨("wrong_load", none), "wrong_load", "wrong_load", defArgs st_wrong_load, defBody st_wrong_load, defScope st_wrong_load, [], []⟩
def dd_load_row : He.DefD := ⟨("load_row", none), "load_row", "load_row", defArgs st_load_row, defBody st_load_row, defScope st_load_row, [], []⟩
def dd_check_loads : He.DefD := ⟨("check_loads", none), "check_loads", "check_loads", defArgs st_check_loads, defBody st_check_loads, defScope st_check_loads, [], []⟩
def dd__law_try : He.DefD := ⟨("_law_try", none), "_law_try", "_law_try", defArgs st__law_try, defBody st__law_try, defScope st__law_try, [], []⟩
def dd__law_gcd : He.DefD := ⟨("_law_gcd", none), "_law_gcd", "_law_gcd", defArgs st__law_gcd, defBody st__law_gcd, defScope st__law_gcd, [], []⟩
def dd__law_ratio : He.DefD := ⟨("_law_ratio", none), "_law_ratio", "_law_ratio", defArgs st__law_ratio, defBody st__law_ratio, defScope st__law_ratio, [], []⟩
def dd__law_plus : He.DefD := ⟨("_law_plus", none), "_law_plus", "_law_plus", defArgs st__law_plus, defBody st__law_plus, defScope st__law_plus, [], []⟩
def dd__law_sum : He.DefD := ⟨("_law_sum", none), "_law_sum", "_law_sum", defArgs st__law_sum, defBody st__law_sum, defScope st__law_sum, [], []⟩
def dd__law_times : He.DefD := ⟨("_law_times", none), "_law_times", "_law_times", defArgs st__law_times, defBody st__law_times, defScope st__law_times, [], []⟩
def dd__law_centre : He.DefD := ⟨("_law_centre", none), "_law_centre", "_law_centre", defArgs st__law_centre, defBody st__law_centre, defScope st__law_centre, [], []⟩
def dd__in_lowest_terms : He.DefD := ⟨("_in_lowest_terms", none), "_in_lowest_terms", "_in_lowest_terms", defArgs st__in_lowest_terms, defBody st__in_lowest_terms, defScope st__in_lowest_terms, [], []⟩
def dd_plus : He.DefD := ⟨("plus", none), "plus", "plus", defArgs st_plus, defBody st_plus, defScope st_plus, [], []⟩
def dd_sum_of : He.DefD := ⟨("sum_of", none), "sum_of", "sum_of", defArgs st_sum_of, defBody st_sum_of, defScope st_sum_of, [], []⟩
def dd_total_of : He.DefD := ⟨("total_of", none), "total_of", "total_of", defArgs st_total_of, defBody st_total_of, defScope st_total_of, [], []⟩
def dd_times : He.DefD := ⟨("times", none), "times", "times", defArgs st_times, defBody st_times, defScope st_times, [], []⟩
def dd_moment_of : He.DefD := ⟨("moment_of", none), "moment_of", "moment_of", defArgs st_moment_of, defBody st_moment_of, defScope st_moment_of, [], []⟩
def dd_over : He.DefD := ⟨("over", none), "over", "over", defArgs st_over, defBody st_over, defScope st_over, [], []⟩
def dd_centre_of : He.DefD := ⟨("centre_of", none), "centre_of", "centre_of", defArgs st_centre_of, defBody st_centre_of, defScope st_centre_of, [], []⟩
def dd__law_middle : He.DefD := ⟨("_law_middle", none), "_law_middle", "_law_middle", defArgs st__law_middle, defBody st__law_middle, defScope st__law_middle, [], []⟩
def dd__law_spoilt : He.DefD := ⟨("_law_spoilt", none), "_law_spoilt", "_law_spoilt", defArgs st__law_spoilt, defBody st__law_spoilt, defScope st__law_spoilt, [], []⟩
def dd__law_refused : He.DefD := ⟨("_law_refused", none), "_law_refused", "_law_refused", defArgs st__law_refused, defBody st__law_refused, defScope st__law_refused, [], []⟩
def dd__law_bounded : He.DefD := ⟨("_law_bounded", none), "_law_bounded", "_law_bounded", defArgs st__law_bounded, defBody st__law_bounded, defScope st__law_bounded, [], []⟩
def dd__law_arm : He.DefD := ⟨("_law_arm", none), "_law_arm", "_law_arm", defArgs st__law_arm, defBody st__law_arm, defScope st__law_arm, [], []⟩
def dd__law_tuples : He.DefD := ⟨("_law_tuples", none), "_law_tuples", "_law_tuples", defArgs st__law_tuples, defBody st__law_tuples, defScope st__law_tuples, [], []⟩
def dd__law_coordinate : He.DefD := ⟨("_law_coordinate", none), "_law_coordinate", "_law_coordinate", defArgs st__law_coordinate, defBody st__law_coordinate, defScope st__law_coordinate, [], []⟩
def dd__law_near : He.DefD := ⟨("_law_near", none), "_law_near", "_law_near", defArgs st__law_near, defBody st__law_near, defScope st__law_near, [], []⟩
def dd_one_load : He.DefD := ⟨("one_load", none), "one_load", "one_load", defArgs st_one_load, defBody st_one_load, defScope st_one_load, [], []⟩
def dd__law_together : He.DefD := ⟨("_law_together", none), "_law_together", "_law_together", defArgs st__law_together, defBody st__law_together, defScope st__law_together, [], []⟩
def dd__law_over : He.DefD := ⟨("_law_over", none), "_law_over", "_law_over", defArgs st__law_over, defBody st__law_over, defScope st__law_over, [], []⟩
def dd_law : He.DefD := ⟨("law", none), "law", "law", defArgs st_law, defBody st_law, defScope st_law, [], []⟩
def dx_BadRatio : He.DefD := ⟨("BadRatio", some "__init__"), "__init__", "BadRatio.__init__", defArgs st_BadRatio_init, defBody st_BadRatio_init, defScope st_BadRatio_init, [], []⟩
def dx_BadLoads : He.DefD := ⟨("BadLoads", some "__init__"), "__init__", "BadLoads.__init__", defArgs st_BadLoads_init, defBody st_BadLoads_init, defScope st_BadLoads_init, [], []⟩
def dx_NoCentre : He.DefD := ⟨("NoCentre", some "__init__"), "__init__", "NoCentre.__init__", defArgs st_NoCentre_init, defBody st_NoCentre_init, defScope st_NoCentre_init, [], []⟩
def fnl : List He.DefD := [dd__law_hand, dd__law_mixed, dd__law_take, dd_is_sequence, dd_is_couple, dd_is_whole, dd_is_ratio, dd_is_within_bound, dd_is_coordinate, dd_is_weight, dd_is_place, dd_wrong_load, dd_load_row, dd_check_loads, dd__law_try, dd__law_gcd, dd__law_ratio, dd__law_plus, dd__law_sum, dd__law_times, dd__law_centre, dd__in_lowest_terms, dd_plus, dd_sum_of, dd_total_of, dd_times, dd_moment_of, dd_over, dd_centre_of, dd__law_middle, dd__law_spoilt, dd__law_refused, dd__law_bounded, dd__law_arm, dd__law_tuples, dd__law_coordinate, dd__law_near, dd_one_load, dd__law_together, dd__law_over, dd_law, dx_BadRatio, dx_BadLoads, dx_NoCentre]
def exl (K : PySem.W.Frag) : Bool := (exB "BadRatio" ["what"] K) && ((exB "BadLoads" ["index", "what"] K) && ((exB "NoCentre" ["many"] K) && ((bltB "gcd" "math.gcd" K) && ((He.tupB K "ZERO" [.int 0, .int 1]) && (true)))))
theorem sx_BadRatio : FnScope ["self", "what"] ["self", "what"] (defScope st_BadRatio_init) := ⟨rfl, rfl, rfl, by decide +kernel, rfl, by decide +kernel, by decide +kernel⟩
theorem okx_BadRatio {P : Program} {w : World} {K : PySem.W.Frag} {mg : Str → Option Value} {base : Heap} {fd : FuncData} (F : FunD K "__init__" "BadRatio.__init__" (defArgs st_BadRatio_init) (defBody st_BadRatio_init) (defScope st_BadRatio_init) [] [] (He.ma K (He.ga K "BadRatio") "__init__") fd) (x : ExF K "BadRatio" ["what"]) :
    FnOk P w K mg base CX0 1 (He.ma K (He.ga K "BadRatio") "__init__") fd ["self", "what"] (spI (He.ga K "BadRatio") ["what"]) := by
  refine F.ok sx_BadRatio (fun vs H Q E h => ?_) (fun cdv A outer s H vs Q E hr h => ⟨_, PSs.nox (X := _) (pss_one (ps_ost (pv 0) (pv 1))), init1 x.T (x.no _ (by decide)) h⟩)
  obtain ⟨a, ws, rfl, hl, _⟩ := h
  show ws.length + 1 = _
  rw [hl] <;> rfl
theorem sx_BadLoads : FnScope ["self", "index", "what"] ["self", "index", "what"] (defScope st_BadLoads_init) := ⟨rfl, rfl, rfl, by decide +kernel, rfl, by decide +kernel, by decide +kernel⟩
theorem okx_BadLoads {P : Program} {w : World} {K : PySem.W.Frag} {mg : Str → Option Value} {base : Heap} {fd : FuncData} (F : FunD K "__init__" "BadLoads.__init__" (defArgs st_BadLoads_init) (defBody st_BadLoads_init) (defScope st_BadLoads_init) [] [] (He.ma K (He.ga K "BadLoads") "__init__") fd) (x : ExF K "BadLoads" ["index", "what"]) :
    FnOk P w K mg base CX0 1 (He.ma K (He.ga K "BadLoads") "__init__") fd ["self", "index", "what"] (spI (He.ga K "BadLoads") ["index", "what"]) := by
  refine F.ok sx_BadLoads (fun vs H Q E h => ?_) (fun cdv A outer s H vs Q E hr h => ⟨_, PSs.nox (X := _) (pss_cons (ps_ost (pv 0) (pv 1)) (pss_one (ps_ost (pv 0) (pv 2)))), init2 x.T (x.no _ (by decide)) (x.no _ (by decide)) h⟩)
  obtain ⟨a, ws, rfl, hl, _⟩ := h
  show ws.length + 1 = _
  rw [hl] <;> rfl
theorem sx_NoCentre : FnScope ["self", "many"] ["self", "many"] (defScope st_NoCentre_init) := ⟨rfl, rfl, rfl, by decide +kernel, rfl, by decide +kernel, by decide +kernel⟩
theorem okx_NoCentre {P : Program} {w : World} {K : PySem.W.Frag} {mg : Str → Option Value} {base : Heap} {fd : FuncData} (F : FunD K "__init__" "NoCentre.__init__" (defArgs st_NoCentre_init) (defBody st_NoCentre_init) (defScope st_NoCentre_init) [] [] (He.ma K (He.ga K "NoCentre") "__init__") fd) (x : ExF K "NoCentre" ["many"]) :
    FnOk P w K mg base CX0 1 (He.ma K (He.ga K "NoCentre") "__init__") fd ["self", "many"] (spI (He.ga K "NoCentre") ["many"]) := by
  refine F.ok sx_NoCentre (fun vs H Q E h => ?_) (fun cdv A outer s H vs Q E hr h => ⟨_, PSs.nox (X := _) (pss_one (ps_ost (pv 0) (pv 1))), init1 x.T (x.no _ (by decide)) h⟩)
  obtain ⟨a, ws, rfl, hl, _⟩ := h
  show ws.length + 1 = _
  rw [hl] <;> rfl
def fal : List He.Fa := [.glo "law", .free "abs", .free "bool", .free "enumerate", .free "int", .free "isinstance", .free "len", .free "list", .free "range", .free "repr", .free "tuple", .int "MOST_LOADS" (8), .int "SMALL" (1000000000000), .glo "ZERO", .glo "_law_hand", .glo "_law_mixed", .glo "_law_take", .glo "is_sequence", .glo "is_couple", .glo "is_whole", .glo "is_ratio", .glo "is_within_bound", .glo "is_coordinate", .glo "is_weight", .glo "is_place", .glo "wrong_load", .glo "load_row", .glo "check_loads", .glo "_law_try", .glo "_law_gcd", .glo "_law_ratio", .glo "_law_plus", .glo "_law_sum", .glo "_law_times", .glo "_law_centre", .glo "_in_lowest_terms", .glo "plus", .glo "sum_of", .glo "total_of", .glo "times", .glo "moment_of", .glo "over", .glo "centre_of", .glo "_law_middle", .glo "_law_spoilt", .glo "_law_refused", .glo "_law_bounded", .glo "_law_arm", .glo "_law_tuples", .glo "_law_coordinate", .glo "_law_near", .glo "one_load", .glo "_law_together", .glo "_law_over", .exm "BadLoads" "BadLoads" true, .exm "NoCentre" "NoCentre" true]
theorem facts {P : Program} {w : World} {K : PySem.W.Frag} {h : Heap} {mg : Str → Option Value} (X : K.In h) (G : h.Ns mainGlobals mg) (c : SaysX fal fnl exl K) :
    ∃ fd : FuncData, (∀ (s : Shared) (v : Value), BindsTo s fd ⟨[v], []⟩ [("_law_script", v)]) ∧ ∀ base : Heap, FnG P w K mg base (L2N.CX P w) 10 (He.ga K "law") fd ["_law_script"] (spF K mg [false] F_law) := by
  obtain ⟨cD, cE⟩ := c
  unfold exl at cE
  obtain ⟨x_BadRatio, cE⟩ := Bool.and_eq_true_iff.mp cE
  obtain ⟨x_BadLoads, cE⟩ := Bool.and_eq_true_iff.mp cE
  obtain ⟨x_NoCentre, cE⟩ := Bool.and_eq_true_iff.mp cE
  obtain ⟨x_gcd, cE⟩ := Bool.and_eq_true_iff.mp cE
  obtain ⟨x_ZERO, cE⟩ := Bool.and_eq_true_iff.mp cE
  obtain ⟨fd__law_hand, D__law_hand⟩ := cD.def_ 0 (d := dd__law_hand) rfl
  obtain ⟨fd__law_mixed, D__law_mixed⟩ := cD.def_ 1 (d := dd__law_mixed) rfl
  obtain ⟨fd__law_take, D__law_take⟩ := cD.def_ 2 (d := dd__law_take) rfl
  obtain ⟨fd_is_sequence, D_is_sequence⟩ := cD.def_ 3 (d := dd_is_sequence) rfl
  obtain ⟨fd_is_couple, D_is_couple⟩ := cD.def_ 4 (d := dd_is_couple) rfl
  obtain ⟨fd_is_whole, D_is_whole⟩ := cD.def_ 5 (d := dd_is_whole) rfl
  obtain ⟨fd_is_ratio, D_is_ratio⟩ := cD.def_ 6 (d := dd_is_ratio) rfl
  obtain ⟨fd_is_within_bound, D_is_within_bound⟩ := cD.def_ 7 (d := dd_is_within_bound) rfl
  obtain ⟨fd_is_coordinate, D_is_coordinate⟩ := cD.def_ 8 (d := dd_is_coordinate) rfl
  obtain ⟨fd_is_weight, D_is_weight⟩ := cD.def_ 9 (d := dd_is_weight) rfl
  obtain ⟨fd_is_place, D_is_place⟩ := cD.def_ 10 (d := dd_is_place) rfl
  obtain ⟨fd_wrong_load, D_wrong_load⟩ := cD.def_ 11 (d := dd_wrong_load) rfl
  obtain ⟨fd_load_row, D_load_row⟩ := cD.def_ 12 (d := dd_load_row) rfl
  obtain ⟨fd_check_loads, D_check_loads⟩ := cD.def_ 13 (d := dd_check_loads) rfl
  obtain ⟨fd__law_try, D__law_try⟩ := cD.def_ 14 (d := dd__law_try) rfl
  obtain ⟨fd__law_gcd, D__law_gcd⟩ := cD.def_ 15 (d := dd__law_gcd) rfl
  obtain ⟨fd__law_ratio, D__law_ratio⟩ := cD.def_ 16 (d := dd__law_ratio) rfl
  obtain ⟨fd__law_plus, D__law_plus⟩ := cD.def_ 17 (d := dd__law_plus) rfl
  obtain ⟨fd__law_sum, D__law_sum⟩ := cD.def_ 18 (d := dd__law_sum) rfl
  obtain ⟨fd__law_times, D__law_times⟩ := cD.def_ 19 (d := dd__law_times) rfl
  obtain ⟨fd__law_centre, D__law_centre⟩ := cD.def_ 20 (d := dd__law_centre) rfl
  obtain ⟨fd__in_lowest_terms, D__in_lowest_terms⟩ := cD.def_ 21 (d := dd__in_lowest_terms) rfl
  obtain ⟨fd_plus, D_plus⟩ := cD.def_ 22 (d := dd_plus) rfl
  obtain ⟨fd_sum_of, D_sum_of⟩ := cD.def_ 23 (d := dd_sum_of) rfl
  obtain ⟨fd_total_of, D_total_of⟩ := cD.def_ 24 (d := dd_total_of) rfl
  obtain ⟨fd_times, D_times⟩ := cD.def_ 25 (d := dd_times) rfl
  obtain ⟨fd_moment_of, D_moment_of⟩ := cD.def_ 26 (d := dd_moment_of) rfl
  obtain ⟨fd_over, D_over⟩ := cD.def_ 27 (d := dd_over) rfl
  obtain ⟨fd_centre_of, D_centre_of⟩ := cD.def_ 28 (d := dd_centre_of) rfl
  obtain ⟨fd__law_middle, D__law_middle⟩ := cD.def_ 29 (d := dd__law_middle) rfl
  obtain ⟨fd__law_spoilt, D__law_spoilt⟩ := cD.def_ 30 (d := dd__law_spoilt) rfl
  obtain ⟨fd__law_refused, D__law_refused⟩ := cD.def_ 31 (d := dd__law_refused) rfl
  obtain ⟨fd__law_bounded, D__law_bounded⟩ := cD.def_ 32 (d := dd__law_bounded) rfl
  obtain ⟨fd__law_arm, D__law_arm⟩ := cD.def_ 33 (d := dd__law_arm) rfl
  obtain ⟨fd__law_tuples, D__law_tuples⟩ := cD.def_ 34 (d := dd__law_tuples) rfl
  obtain ⟨fd__law_coordinate, D__law_coordinate⟩ := cD.def_ 35 (d := dd__law_coordinate) rfl
  obtain ⟨fd__law_near, D__law_near⟩ := cD.def_ 36 (d := dd__law_near) rfl
  obtain ⟨fd_one_load, D_one_load⟩ := cD.def_ 37 (d := dd_one_load) rfl
  obtain ⟨fd__law_together, D__law_together⟩ := cD.def_ 38 (d := dd__law_together) rfl
  obtain ⟨fd__law_over, D__law_over⟩ := cD.def_ 39 (d := dd__law_over) rfl
  obtain ⟨fd_law, D_law⟩ := cD.def_ 40 (d := dd_law) rfl
  obtain ⟨fx_BadRatio, X_BadRatio⟩ := cD.def_ 41 (d := dx_BadRatio) rfl
  obtain ⟨fx_BadLoads, X_BadLoads⟩ := cD.def_ 42 (d := dx_BadLoads) rfl
  obtain ⟨fx_NoCentre, X_NoCentre⟩ := cD.def_ 43 (d := dx_NoCentre) rfl
  have n_abs : mg "abs" = none := He.free_ok X G (cD.fact 1 (f := .free "abs") rfl)
  have n_bool : mg "bool" = none := He.free_ok X G (cD.fact 2 (f := .free "bool") rfl)
  have n_enumerate : mg "enumerate" = none := He.free_ok X G (cD.fact 3 (f := .free "enumerate") rfl)
  have n_int : mg "int" = none := He.free_ok X G (cD.fact 4 (f := .free "int") rfl)
  have n_isinstance : mg "isinstance" = none := He.free_ok X G (cD.fact 5 (f := .free "isinstance") rfl)
  have n_len : mg "len" = none := He.free_ok X G (cD.fact 6 (f := .free "len") rfl)
  have n_list : mg "list" = none := He.free_ok X G (cD.fact 7 (f := .free "list") rfl)
  have n_range : mg "range" = none := He.free_ok X G (cD.fact 8 (f := .free "range") rfl)
  have n_repr : mg "repr" = none := He.free_ok X G (cD.fact 9 (f := .free "repr") rfl)
  have n_tuple : mg "tuple" = none := He.free_ok X G (cD.fact 10 (f := .free "tuple") rfl)
  have g_gcd := bltB_ok X G x_gcd
  have c_MOST_LOADS := constI X G (cD.fact 11 (f := .int "MOST_LOADS" (8)) rfl)
  have c_SMALL := constI X G (cD.fact 12 (f := .int "SMALL" (1000000000000)) rfl)
  have c_ZERO := constT2 X G (cD.fact 13 (f := .glo "ZERO") rfl) x_ZERO
  have gm__law_hand : mg "_law_hand" = some (.ref (He.ga K "_law_hand")) := He.glo_ok X G (cD.fact 14 (f := .glo "_law_hand") rfl)
  have gm__law_mixed : mg "_law_mixed" = some (.ref (He.ga K "_law_mixed")) := He.glo_ok X G (cD.fact 15 (f := .glo "_law_mixed") rfl)
  have gm__law_take : mg "_law_take" = some (.ref (He.ga K "_law_take")) := He.glo_ok X G (cD.fact 16 (f := .glo "_law_take") rfl)
  have gm_is_sequence : mg "is_sequence" = some (.ref (He.ga K "is_sequence")) := He.glo_ok X G (cD.fact 17 (f := .glo "is_sequence") rfl)
  have gm_is_couple : mg "is_couple" = some (.ref (He.ga K "is_couple")) := He.glo_ok X G (cD.fact 18 (f := .glo "is_couple") rfl)
  have gm_is_whole : mg "is_whole" = some (.ref (He.ga K "is_whole")) := He.glo_ok X G (cD.fact 19 (f := .glo "is_whole") rfl)
  have gm_is_ratio : mg "is_ratio" = some (.ref (He.ga K "is_ratio")) := He.glo_ok X G (cD.fact 20 (f := .glo "is_ratio") rfl)
  have gm_is_within_bound : mg "is_within_bound" = some (.ref (He.ga K "is_within_bound")) := He.glo_ok X G (cD.fact 21 (f := .glo "is_within_bound") rfl)
  have gm_is_coordinate : mg "is_coordinate" = some (.ref (He.ga K "is_coordinate")) := He.glo_ok X G (cD.fact 22 (f := .glo "is_coordinate") rfl)
  have gm_is_weight : mg "is_weight" = some (.ref (He.ga K "is_weight")) := He.glo_ok X G (cD.fact 23 (f := .glo "is_weight") rfl)
  have gm_is_place : mg "is_place" = some (.ref (He.ga K "is_place")) := He.glo_ok X G (cD.fact 24 (f := .glo "is_place") rfl)
  have gm_wrong_load : mg "wrong_load" = some (.ref (He.ga K "wrong_load")) := He.glo_ok X G (cD.fact 25 (f := .glo "wrong_load") rfl)
  have gm_load_row : mg "load_row" = some (.ref (He.ga K "load_row")) := He.glo_ok X G (cD.fact 26 (f := .glo "load_row") rfl)
  have gm_check_loads : mg "check_loads" = some (.ref (He.ga K "check_loads")) := He.glo_ok X G (cD.fact 27 (f := .glo "check_loads") rfl)
  have gm__law_try : mg "_law_try" = some (.ref (He.ga K "_law_try")) := He.glo_ok X G (cD.fact 28 (f := .glo "_law_try") rfl)
  have gm__law_gcd : mg "_law_gcd" = some (.ref (He.ga K "_law_gcd")) := He.glo_ok X G (cD.fact 29 (f := .glo "_law_gcd") rfl)
  have gm__law_ratio : mg "_law_ratio" = some (.ref (He.ga K "_law_ratio")) := He.glo_ok X G (cD.fact 30 (f := .glo "_law_ratio") rfl)
  have gm__law_plus : mg "_law_plus" = some (.ref (He.ga K "_law_plus")) := He.glo_ok X G (cD.fact 31 (f := .glo "_law_plus") rfl)
  have gm__law_sum : mg "_law_sum" = some (.ref (He.ga K "_law_sum")) := He.glo_ok X G (cD.fact 32 (f := .glo "_law_sum") rfl)
  have gm__law_times : mg "_law_times" = some (.ref (He.ga K "_law_times")) := He.glo_ok X G (cD.fact 33 (f := .glo "_law_times") rfl)
  have gm__law_centre : mg "_law_centre" = some (.ref (He.ga K "_law_centre")) := He.glo_ok X G (cD.fact 34 (f := .glo "_law_centre") rfl)
  have gm__in_lowest_terms : mg "_in_lowest_terms" = some (.ref (He.ga K "_in_lowest_terms")) := He.glo_ok X G (cD.fact 35 (f := .glo "_in_lowest_terms") rfl)
  have gm_plus : mg "plus" = some (.ref (He.ga K "plus")) := He.glo_ok X G (cD.fact 36 (f := .glo "plus") rfl)
  have gm_sum_of : mg "sum_of" = some (.ref (He.ga K "sum_of")) := He.glo_ok X G (cD.fact 37 (f := .glo "sum_of") rfl)
  have gm_total_of : mg "total_of" = some (.ref (He.ga K "total_of")) := He.glo_ok X G (cD.fact 38 (f := .glo "total_of") rfl)
  have gm_times : mg "times" = some (.ref (He.ga K "times")) := He.glo_ok X G (cD.fact 39 (f := .glo "times") rfl)
  have gm_moment_of : mg "moment_of" = some (.ref (He.ga K "moment_of")) := He.glo_ok X G (cD.fact 40 (f := .glo "moment_of") rfl)
  have gm_over : mg "over" = some (.ref (He.ga K "over")) := He.glo_ok X G (cD.fact 41 (f := .glo "over") rfl)
  have gm_centre_of : mg "centre_of" = some (.ref (He.ga K "centre_of")) := He.glo_ok X G (cD.fact 42 (f := .glo "centre_of") rfl)
  have gm__law_middle : mg "_law_middle" = some (.ref (He.ga K "_law_middle")) := He.glo_ok X G (cD.fact 43 (f := .glo "_law_middle") rfl)
  have gm__law_spoilt : mg "_law_spoilt" = some (.ref (He.ga K "_law_spoilt")) := He.glo_ok X G (cD.fact 44 (f := .glo "_law_spoilt") rfl)
  have gm__law_refused : mg "_law_refused" = some (.ref (He.ga K "_law_refused")) := He.glo_ok X G (cD.fact 45 (f := .glo "_law_refused") rfl)
  have gm__law_bounded : mg "_law_bounded" = some (.ref (He.ga K "_law_bounded")) := He.glo_ok X G (cD.fact 46 (f := .glo "_law_bounded") rfl)
  have gm__law_arm : mg "_law_arm" = some (.ref (He.ga K "_law_arm")) := He.glo_ok X G (cD.fact 47 (f := .glo "_law_arm") rfl)
  have gm__law_tuples : mg "_law_tuples" = some (.ref (He.ga K "_law_tuples")) := He.glo_ok X G (cD.fact 48 (f := .glo "_law_tuples") rfl)
  have gm__law_coordinate : mg "_law_coordinate" = some (.ref (He.ga K "_law_coordinate")) := He.glo_ok X G (cD.fact 49 (f := .glo "_law_coordinate") rfl)
  have gm__law_near : mg "_law_near" = some (.ref (He.ga K "_law_near")) := He.glo_ok X G (cD.fact 50 (f := .glo "_law_near") rfl)
  have gm_one_load : mg "one_load" = some (.ref (He.ga K "one_load")) := He.glo_ok X G (cD.fact 51 (f := .glo "one_load") rfl)
  have gm__law_together : mg "_law_together" = some (.ref (He.ga K "_law_together")) := He.glo_ok X G (cD.fact 52 (f := .glo "_law_together") rfl)
  have gm__law_over : mg "_law_over" = some (.ref (He.ga K "_law_over")) := He.glo_ok X G (cD.fact 53 (f := .glo "_law_over") rfl)
  have gm_law : mg "law" = some (.ref (He.ga K "law")) := He.glo_ok X G (cD.fact 0 (f := .glo "law") rfl)
  have bx_BadRatio : Binds K fx_BadRatio ["self", "what"] [] := FunD.bindsN X_BadRatio (fun _ _ _ _ _ _ us hl => match us, hl with | [_, _], _ => rfl)
  have ef_BadRatio := exB_ok x_BadRatio
  have bx_BadLoads : Binds K fx_BadLoads ["self", "index", "what"] [] := FunD.bindsN X_BadLoads (fun _ _ _ _ _ _ us hl => match us, hl with | [_, _, _], _ => rfl)
  have ef_BadLoads := exB_ok x_BadLoads
  have bx_NoCentre : Binds K fx_NoCentre ["self", "many"] [] := FunD.bindsN X_NoCentre (fun _ _ _ _ _ _ us hl => match us, hl with | [_, _], _ => rfl)
  have ef_NoCentre := exB_ok x_NoCentre
  have bi__law_hand : Binds K fd__law_hand ["_law_script"] [] := FunD.bindsN D__law_hand (fun _ _ _ _ _ _ us hl => match us, hl with | [_], _ => rfl)
  have bi__law_mixed : Binds K fd__law_mixed ["_law_number", "_law_turn"] [] := FunD.bindsN D__law_mixed (fun _ _ _ _ _ _ us hl => match us, hl with | [_, _], _ => rfl)
  have bi__law_take : Binds K fd__law_take ["_law_hand_here", "_law_many"] [] := FunD.bindsN D__law_take (fun _ _ _ _ _ _ us hl => match us, hl with | [_, _], _ => rfl)
  have bi_is_sequence : Binds K fd_is_sequence ["thing", "low", "high"] [] := bindsAll D_is_sequence (List.cons_ne_nil _ _) (fun _ _ _ _ _ _ _ us its h1 h2 => match us, its, h1, h2 with | [_, _, _], [_, _], _, _ => ⟨_, rfl, rfl⟩)
  have bi_is_couple : Binds K fd_is_couple ["thing"] [] := FunD.bindsN D_is_couple (fun _ _ _ _ _ _ us hl => match us, hl with | [_], _ => rfl)
  have bi_is_whole : Binds K fd_is_whole ["thing", "low", "high"] [] := bindsAll D_is_whole (List.cons_ne_nil _ _) (fun _ _ _ _ _ _ _ us its h1 h2 => match us, its, h1, h2 with | [_, _, _], [_, _], _, _ => ⟨_, rfl, rfl⟩)
  have bi_is_ratio : Binds K fd_is_ratio ["thing"] [] := FunD.bindsN D_is_ratio (fun _ _ _ _ _ _ us hl => match us, hl with | [_], _ => rfl)
  have bi_is_within_bound : Binds K fd_is_within_bound ["thing", "bound"] [] := FunD.bindsN D_is_within_bound (fun _ _ _ _ _ _ us hl => match us, hl with | [_, _], _ => rfl)
  have bi_is_coordinate : Binds K fd_is_coordinate ["thing"] [] := FunD.bindsN D_is_coordinate (fun _ _ _ _ _ _ us hl => match us, hl with | [_], _ => rfl)
  have bi_is_weight : Binds K fd_is_weight ["thing"] [] := FunD.bindsN D_is_weight (fun _ _ _ _ _ _ us hl => match us, hl with | [_], _ => rfl)
  have bi_is_place : Binds K fd_is_place ["thing"] [] := FunD.bindsN D_is_place (fun _ _ _ _ _ _ us hl => match us, hl with | [_], _ => rfl)
  have bi_wrong_load : Binds K fd_wrong_load ["thing"] [] := FunD.bindsN D_wrong_load (fun _ _ _ _ _ _ us hl => match us, hl with | [_], _ => rfl)
  have bi_load_row : Binds K fd_load_row ["load"] [] := FunD.bindsN D_load_row (fun _ _ _ _ _ _ us hl => match us, hl with | [_], _ => rfl)
  have bi_check_loads : Binds K fd_check_loads ["loads"] [] := FunD.bindsN D_check_loads (fun _ _ _ _ _ _ us hl => match us, hl with | [_], _ => rfl)
  have bi__law_try : Binds K fd__law_try ["_law_loads"] [] := FunD.bindsN D__law_try (fun _ _ _ _ _ _ us hl => match us, hl with | [_], _ => rfl)
  have bi__law_gcd : Binds K fd__law_gcd ["_law_one", "_law_other"] [] := FunD.bindsN D__law_gcd (fun _ _ _ _ _ _ us hl => match us, hl with | [_, _], _ => rfl)
  have bi__law_ratio : Binds K fd__law_ratio ["_law_top", "_law_bottom"] [] := FunD.bindsN D__law_ratio (fun _ _ _ _ _ _ us hl => match us, hl with | [_, _], _ => rfl)
  have bi__law_plus : Binds K fd__law_plus ["_law_one", "_law_other"] [] := FunD.bindsN D__law_plus (fun _ _ _ _ _ _ us hl => match us, hl with | [_, _], _ => rfl)
  have bi__law_sum : Binds K fd__law_sum ["_law_rows"] [] := FunD.bindsN D__law_sum (fun _ _ _ _ _ _ us hl => match us, hl with | [_], _ => rfl)
  have bi__law_times : Binds K fd__law_times ["_law_one", "_law_other"] [] := FunD.bindsN D__law_times (fun _ _ _ _ _ _ us hl => match us, hl with | [_, _], _ => rfl)
  have bi__law_centre : Binds K fd__law_centre ["_law_loads"] [] := FunD.bindsN D__law_centre (fun _ _ _ _ _ _ us hl => match us, hl with | [_], _ => rfl)
  have bi__in_lowest_terms : Binds K fd__in_lowest_terms ["top", "bottom"] [] := FunD.bindsN D__in_lowest_terms (fun _ _ _ _ _ _ us hl => match us, hl with | [_, _], _ => rfl)
  have bi_plus : Binds K fd_plus ["one", "two"] [] := FunD.bindsN D_plus (fun _ _ _ _ _ _ us hl => match us, hl with | [_, _], _ => rfl)
  have bi_sum_of : Binds K fd_sum_of ["ratios"] [] := FunD.bindsN D_sum_of (fun _ _ _ _ _ _ us hl => match us, hl with | [_], _ => rfl)
  have bi_total_of : Binds K fd_total_of ["loads"] [] := FunD.bindsN D_total_of (fun _ _ _ _ _ _ us hl => match us, hl with | [_], _ => rfl)
  have bi_times : Binds K fd_times ["one", "two"] [] := FunD.bindsN D_times (fun _ _ _ _ _ _ us hl => match us, hl with | [_, _], _ => rfl)
  have bi_moment_of : Binds K fd_moment_of ["loads"] [] := FunD.bindsN D_moment_of (fun _ _ _ _ _ _ us hl => match us, hl with | [_], _ => rfl)
  have bi_over : Binds K fd_over ["one", "two"] [] := FunD.bindsN D_over (fun _ _ _ _ _ _ us hl => match us, hl with | [_, _], _ => rfl)
  have bi_centre_of : Binds K fd_centre_of ["loads"] [] := FunD.bindsN D_centre_of (fun _ _ _ _ _ _ us hl => match us, hl with | [_], _ => rfl)
  have bi__law_middle : Binds K fd__law_middle ["_law_loads"] [] := FunD.bindsN D__law_middle (fun _ _ _ _ _ _ us hl => match us, hl with | [_], _ => rfl)
  have bi__law_spoilt : Binds K fd__law_spoilt ["_law_hand_here", "_law_load"] [] := FunD.bindsN D__law_spoilt (fun _ _ _ _ _ _ us hl => match us, hl with | [_, _], _ => rfl)
  have bi__law_refused : Binds K fd__law_refused ["_law_hand_here", "_law_loads"] [] := FunD.bindsN D__law_refused (fun _ _ _ _ _ _ us hl => match us, hl with | [_, _], _ => rfl)
  have bi__law_bounded : Binds K fd__law_bounded ["_law_hand_here"] [] := FunD.bindsN D__law_bounded (fun _ _ _ _ _ _ us hl => match us, hl with | [_], _ => rfl)
  have bi__law_arm : Binds K fd__law_arm ["_law_hand_here"] [] := FunD.bindsN D__law_arm (fun _ _ _ _ _ _ us hl => match us, hl with | [_], _ => rfl)
  have bi__law_tuples : Binds K fd__law_tuples ["_law_thing"] [] := FunD.bindsN D__law_tuples (fun _ _ _ _ _ _ us hl => match us, hl with | [_], _ => rfl)
  have bi__law_coordinate : Binds K fd__law_coordinate ["_law_hand_here"] [] := FunD.bindsN D__law_coordinate (fun _ _ _ _ _ _ us hl => match us, hl with | [_], _ => rfl)
  have bi__law_near : Binds K fd__law_near ["_law_hand_here"] [] := FunD.bindsN D__law_near (fun _ _ _ _ _ _ us hl => match us, hl with | [_], _ => rfl)
  have bi_one_load : Binds K fd_one_load ["loads"] [] := FunD.bindsN D_one_load (fun _ _ _ _ _ _ us hl => match us, hl with | [_], _ => rfl)
  have bi__law_together : Binds K fd__law_together ["_law_loads"] [] := FunD.bindsN D__law_together (fun _ _ _ _ _ _ us hl => match us, hl with | [_], _ => rfl)
  have bi__law_over : Binds K fd__law_over ["_law_one", "_law_other"] [] := FunD.bindsN D__law_over (fun _ _ _ _ _ _ us hl => match us, hl with | [_, _], _ => rfl)
  have bi_law : Binds K fd_law ["_law_script"] [] := FunD.bindsN D_law (fun _ _ _ _ _ _ us hl => match us, hl with | [_], _ => rfl)
  refine ⟨fd_law, fun s v => FunD.bindsA (ps := ["_law_script"]) D_law (fun _ _ _ _ _ _ us hl => match us, hl with | [_], _ => rfl) s [v] rfl, fun base => ?_⟩
  let e_BadRatio : ExcCl P w K mg base "BadRatio" ["what"] := ⟨_, _, _, _, ef_BadRatio.T, ef_BadRatio.iC, ef_BadRatio.tI, okx_BadRatio X_BadRatio ef_BadRatio, bx_BadRatio, PySem.W.mg_of X G ef_BadRatio.gC, ef_BadRatio.xf, ef_BadRatio.no⟩
  let e_BadLoads : ExcCl P w K mg base "BadLoads" ["index", "what"] := ⟨_, _, _, _, ef_BadLoads.T, ef_BadLoads.iC, ef_BadLoads.tI, okx_BadLoads X_BadLoads ef_BadLoads, bx_BadLoads, PySem.W.mg_of X G ef_BadLoads.gC, ef_BadLoads.xf, ef_BadLoads.no⟩
  have m_BadLoads : PySem.W.exmOne K (.ref e_BadLoads.C) (.ref e_BadLoads.C) = some true := He.exm_ok (cD.fact 54 (f := .exm "BadLoads" "BadLoads" true) rfl)
  let e_NoCentre : ExcCl P w K mg base "NoCentre" ["many"] := ⟨_, _, _, _, ef_NoCentre.T, ef_NoCentre.iC, ef_NoCentre.tI, okx_NoCentre X_NoCentre ef_NoCentre, bx_NoCentre, PySem.W.mg_of X G ef_NoCentre.gC, ef_NoCentre.xf, ef_NoCentre.no⟩
  have m_NoCentre : PySem.W.exmOne K (.ref e_NoCentre.C) (.ref e_NoCentre.C) = some true := He.exm_ok (cD.fact 55 (f := .exm "NoCentre" "NoCentre" true) rfl)
  let d__law_hand : Def P w K mg base 1 "_law_hand" ["_law_script"] [false] F__law_hand := ⟨_, _, ok__law_hand D__law_hand n_len n_int n_abs, gm__law_hand, D__law_hand.kp, bi__law_hand⟩
  let d__law_mixed : Def P w K mg base 1 "_law_mixed" ["_law_number", "_law_turn"] [false, false] F__law_mixed := ⟨_, _, ok__law_mixed D__law_mixed n_int, gm__law_mixed, D__law_mixed.kp, bi__law_mixed⟩
  let d__law_take : Def P w K mg base 2 "_law_take" ["_law_hand_here", "_law_many"] [true, false] F__law_take := ⟨_, _, ok__law_take D__law_take n_len d__law_mixed n_int, gm__law_take, D__law_take.kp, bi__law_take⟩
  let d_is_sequence : Def P w K mg base 1 "is_sequence" ["thing", "low", "high"] [false, false, false] F_is_sequence := ⟨_, _, ok_is_sequence D_is_sequence n_tuple n_list n_isinstance n_len, gm_is_sequence, D_is_sequence.kp, bi_is_sequence⟩
  let d_is_couple : Def P w K mg base 2 "is_couple" ["thing"] [false] F_is_couple := ⟨_, _, ok_is_couple D_is_couple d_is_sequence, gm_is_couple, D_is_couple.kp, bi_is_couple⟩
  let d_is_whole : Def P w K mg base 1 "is_whole" ["thing", "low", "high"] [false, false, false] F_is_whole := ⟨_, _, ok_is_whole D_is_whole n_int n_isinstance n_bool, gm_is_whole, D_is_whole.kp, bi_is_whole⟩
  have b_is_whole_1 : ∃ ds, Vals [V.non, V.non] ds ∧ Binds K d_is_whole.fd ["thing", "low", "high"] ds := FunD.binds1 D_is_whole 1 0 (List.cons_ne_nil _ _) rfl (fun _ _ _ _ _ _ _ us its h1 h2 => match us, its, h1, h2 with | [_], [_, _], _, _ => ⟨_, rfl, rfl⟩)
  have b_is_whole_2 : ∃ ds, Vals [V.non] ds ∧ Binds K d_is_whole.fd ["thing", "low", "high"] ds := FunD.binds1 D_is_whole 2 1 (List.cons_ne_nil _ _) rfl (fun _ _ _ _ _ _ _ us its h1 h2 => match us, its, h1, h2 with | [_, _], [_, _], _, _ => ⟨_, rfl, rfl⟩)
  let d_is_ratio : Def P w K mg base 2 "is_ratio" ["thing"] [false] F_is_ratio := ⟨_, _, ok_is_ratio D_is_ratio n_tuple n_isinstance n_len d_is_whole b_is_whole_1 b_is_whole_2 g_gcd, gm_is_ratio, D_is_ratio.kp, bi_is_ratio⟩
  let d_is_within_bound : Def P w K mg base 3 "is_within_bound" ["thing", "bound"] [false, false] F_is_within_bound := ⟨_, _, ok_is_within_bound D_is_within_bound d_is_ratio n_abs, gm_is_within_bound, D_is_within_bound.kp, bi_is_within_bound⟩
  let d_is_coordinate : Def P w K mg base 4 "is_coordinate" ["thing"] [false] F_is_coordinate := ⟨_, _, ok_is_coordinate D_is_coordinate d_is_within_bound c_SMALL, gm_is_coordinate, D_is_coordinate.kp, bi_is_coordinate⟩
  let d_is_weight : Def P w K mg base 5 "is_weight" ["thing"] [false] F_is_weight := ⟨_, _, ok_is_weight D_is_weight d_is_coordinate, gm_is_weight, D_is_weight.kp, bi_is_weight⟩
  let d_is_place : Def P w K mg base 5 "is_place" ["thing"] [false] F_is_place := ⟨_, _, ok_is_place D_is_place d_is_couple d_is_coordinate, gm_is_place, D_is_place.kp, bi_is_place⟩
  let d_wrong_load : Def P w K mg base 6 "wrong_load" ["thing"] [false] F_wrong_load := ⟨_, _, ok_wrong_load D_wrong_load d_is_couple d_is_weight d_is_place, gm_wrong_load, D_wrong_load.kp, bi_wrong_load⟩
  let d_load_row : Def P w K mg base 1 "load_row" ["load"] [false] F_load_row := ⟨_, _, ok_load_row D_load_row n_tuple, gm_load_row, D_load_row.kp, bi_load_row⟩
  let d_check_loads : Def P w K mg base 7 "check_loads" ["loads"] [false] F_check_loads := ⟨_, _, ok_check_loads D_check_loads d_is_sequence c_MOST_LOADS e_BadLoads n_enumerate d_wrong_load d_load_row n_tuple, gm_check_loads, D_check_loads.kp, bi_check_loads⟩
  let d__law_try : Def P w K mg base 8 "_law_try" ["_law_loads"] [false] F__law_try := ⟨_, _, ok__law_try D__law_try d_check_loads e_BadLoads m_BadLoads, gm__law_try, D__law_try.kp, bi__law_try⟩
  let d__law_gcd : Def P w K mg base 1 "_law_gcd" ["_law_one", "_law_other"] [false, false] F__law_gcd := ⟨_, _, ok__law_gcd D__law_gcd n_abs n_int, gm__law_gcd, D__law_gcd.kp, bi__law_gcd⟩
  let d__law_ratio : Def P w K mg base 2 "_law_ratio" ["_law_top", "_law_bottom"] [false, false] F__law_ratio := ⟨_, _, ok__law_ratio D__law_ratio d__law_gcd, gm__law_ratio, D__law_ratio.kp, bi__law_ratio⟩
  let d__law_plus : Def P w K mg base 3 "_law_plus" ["_law_one", "_law_other"] [false, false] F__law_plus := ⟨_, _, ok__law_plus D__law_plus d__law_ratio, gm__law_plus, D__law_plus.kp, bi__law_plus⟩
  let d__law_sum : Def P w K mg base 4 "_law_sum" ["_law_rows"] [false] F__law_sum := ⟨_, _, ok__law_sum D__law_sum d__law_plus, gm__law_sum, D__law_sum.kp, bi__law_sum⟩
  let d__law_times : Def P w K mg base 3 "_law_times" ["_law_one", "_law_other"] [false, false] F__law_times := ⟨_, _, ok__law_times D__law_times d__law_ratio, gm__law_times, D__law_times.kp, bi__law_times⟩
  let d__law_centre : Def P w K mg base 5 "_law_centre" ["_law_loads"] [false] F__law_centre := ⟨_, _, ok__law_centre D__law_centre d__law_sum d__law_times, gm__law_centre, D__law_centre.kp, bi__law_centre⟩
  let d__in_lowest_terms : Def P w K mg base 1 "_in_lowest_terms" ["top", "bottom"] [false, false] F__in_lowest_terms := ⟨_, _, ok__in_lowest_terms D__in_lowest_terms g_gcd, gm__in_lowest_terms, D__in_lowest_terms.kp, bi__in_lowest_terms⟩
  let d_plus : Def P w K mg base 2 "plus" ["one", "two"] [false, false] F_plus := ⟨_, _, ok_plus D_plus d__in_lowest_terms, gm_plus, D_plus.kp, bi_plus⟩
  let d_sum_of : Def P w K mg base 3 "sum_of" ["ratios"] [false] F_sum_of := ⟨_, _, ok_sum_of D_sum_of c_ZERO d_plus, gm_sum_of, D_sum_of.kp, bi_sum_of⟩
  let d_total_of : Def P w K mg base 4 "total_of" ["loads"] [false] F_total_of := ⟨_, _, ok_total_of D_total_of d_sum_of, gm_total_of, D_total_of.kp, bi_total_of⟩
  let d_times : Def P w K mg base 2 "times" ["one", "two"] [false, false] F_times := ⟨_, _, ok_times D_times d__in_lowest_terms, gm_times, D_times.kp, bi_times⟩
  let d_moment_of : Def P w K mg base 4 "moment_of" ["loads"] [false] F_moment_of := ⟨_, _, ok_moment_of D_moment_of d_sum_of d_times, gm_moment_of, D_moment_of.kp, bi_moment_of⟩
  let d_over : Def P w K mg base 3 "over" ["one", "two"] [false, false] F_over := ⟨_, _, ok_over D_over e_BadRatio d__in_lowest_terms, gm_over, D_over.kp, bi_over⟩
  let d_centre_of : Def P w K mg base 5 "centre_of" ["loads"] [false] F_centre_of := ⟨_, _, ok_centre_of D_centre_of d_total_of c_ZERO n_len e_NoCentre d_moment_of d_over, gm_centre_of, D_centre_of.kp, bi_centre_of⟩
  let d__law_middle : Def P w K mg base 6 "_law_middle" ["_law_loads"] [false] F__law_middle := ⟨_, _, ok__law_middle D__law_middle d_centre_of e_NoCentre m_NoCentre, gm__law_middle, D__law_middle.kp, bi__law_middle⟩
  let d__law_spoilt : Def P w K mg base 3 "_law_spoilt" ["_law_hand_here", "_law_load"] [true, false] F__law_spoilt := ⟨_, _, ok__law_spoilt D__law_spoilt d__law_take, gm__law_spoilt, D__law_spoilt.kp, bi__law_spoilt⟩
  let d__law_refused : Def P w K mg base 9 "_law_refused" ["_law_hand_here", "_law_loads"] [true, false] F__law_refused := ⟨_, _, ok__law_refused D__law_refused d__law_take n_range n_len d__law_spoilt d__law_try n_tuple n_isinstance, gm__law_refused, D__law_refused.kp, bi__law_refused⟩
  let d__law_bounded : Def P w K mg base 3 "_law_bounded" ["_law_hand_here"] [true] F__law_bounded := ⟨_, _, ok__law_bounded D__law_bounded d__law_take, gm__law_bounded, D__law_bounded.kp, bi__law_bounded⟩
  let d__law_arm : Def P w K mg base 4 "_law_arm" ["_law_hand_here"] [true] F__law_arm := ⟨_, _, ok__law_arm D__law_arm d__law_take d__law_ratio d__law_bounded, gm__law_arm, D__law_arm.kp, bi__law_arm⟩
  let d__law_tuples : Def P w K mg base 7 "_law_tuples" ["_law_thing"] [false] F__law_tuples := ⟨_, _, ok__law_tuples D__law_tuples gm__law_tuples bi__law_tuples n_tuple n_isinstance n_int n_bool 6, gm__law_tuples, D__law_tuples.kp, bi__law_tuples⟩
  let d__law_coordinate : Def P w K mg base 4 "_law_coordinate" ["_law_hand_here"] [true] F__law_coordinate := ⟨_, _, ok__law_coordinate D__law_coordinate d__law_take d__law_ratio d__law_bounded, gm__law_coordinate, D__law_coordinate.kp, bi__law_coordinate⟩
  let d__law_near : Def P w K mg base 3 "_law_near" ["_law_hand_here"] [true] F__law_near := ⟨_, _, ok__law_near D__law_near d__law_ratio d__law_take, gm__law_near, D__law_near.kp, bi__law_near⟩
  let d_one_load : Def P w K mg base 6 "one_load" ["loads"] [false] F_one_load := ⟨_, _, ok_one_load D_one_load d_centre_of d_total_of, gm_one_load, D_one_load.kp, bi_one_load⟩
  let d__law_together : Def P w K mg base 7 "_law_together" ["_law_loads"] [false] F__law_together := ⟨_, _, ok__law_together D__law_together d_one_load e_NoCentre m_NoCentre, gm__law_together, D__law_together.kp, bi__law_together⟩
  let d__law_over : Def P w K mg base 3 "_law_over" ["_law_one", "_law_other"] [false, false] F__law_over := ⟨_, _, ok__law_over D__law_over d__law_ratio, gm__law_over, D__law_over.kp, bi__law_over⟩
  exact ok_law D_law d__law_hand d__law_take n_range d__law_arm d__law_coordinate d__law_near n_list n_repr d__law_try n_tuple d__law_tuples d__law_centre d_total_of d_moment_of d__law_middle d__law_together d__law_over d_one_load d__law_plus d__law_times d__law_refused
def loose0 : List Str := ["gcd", "ScaleError", "BadRatio", "BadLoads", "NoCentre", "ZERO", "SMALL", "is_whole", "is_ratio", "is_within_bound", "is_coordinate", "is_weight", "_in_lowest_terms", "plus", "times", "over", "sum_of", "is_sequence", "is_couple", "is_place"]
def loose1 : List Str := ["MOST_LOADS", "wrong_load", "load_row", "check_loads", "total_of", "moment_of", "centre_of", "one_load", "_law_hand", "_law_mixed", "_law_take", "_law_gcd", "_law_ratio", "_law_plus", "_law_times", "_law_over", "_law_sum", "_law_tuples", "_law_bounded", "_law_arm"]
def loose2 : List Str := ["_law_coordinate", "_law_near", "_law_centre", "_law_try", "_law_middle", "_law_together", "_law_spoilt", "_law_refused"]
def looseA : List Str := loose0 ++ loose1 ++ loose2
abbrev rowR : PySem.W.OpenRow := PySem.W.OpenLaw.row PySem.Challenge.rw_wherelaid_k07_whole_loads_and_their_cent
abbrev hk : PySem.W.Hook := hookX 5 fal fnl exl
def ob (s : PySem.W.SharedT) : He.AlD × Bool := obsX 5 fal fnl exl (HandSHeadRun.getT s)
theorem ob_eq (s : PySem.W.SharedT) : ob s = hk.obs s.abs := obsX_eq (HandSHeadRun.getT_eq s)
theorem run (w : World) : HandSHeadRun.RunEqI rowR (PySem.W.view rowR.prog [0, 54]) hk ob 20000 looseA w := by
  unfold HandSHeadRun.RunEqI
  kernel_rfl
end K07
end

section
set_option Elab.async false
set_option linter.all false
set_option maxRecDepth 100000
set_option maxHeartbeats 4000000
set_option autoImplicit false
namespace PL
open PySem PySem.Spec PyProof.Rows L2
/-! evaluation, step by step -/
theorem ev_ok {α β : Type} (a : α) (ρ : PEnv) (k : α → PEnv → ERes β) : (ERes.ok a ρ).bind k = k a ρ := rfl
theorem ev_exc {α β : Type} (c : Str) (fs : List (Str × PV)) (ρ : PEnv) (k : α → PEnv → ERes β) : (ERes.exc c fs ρ).bind k = .exc c fs ρ := rfl
theorem ev_bad {α β : Type} (k : α → PEnv → ERes β) : (ERes.bad).bind k = .bad := rfl
theorem ev_okS {α : Type} (a : α) (ρ : PEnv) (k : α → PEnv → SRes) : (ERes.ok a ρ).bindS k = k a ρ := rfl
theorem ev_excS {α : Type} (c : Str) (fs : List (Str × PV)) (ρ : PEnv) (k : α → PEnv → SRes) : (ERes.exc c fs ρ).bindS k = .exc c fs ρ := rfl
theorem ev_badS {α : Type} (k : α → PEnv → SRes) : (ERes.bad).bindS k = .bad := rfl
theorem ev_cg {α β : Type} {r r' : ERes α} (k : α → PEnv → ERes β) (h : r = r') : r.bind k = r'.bind k := by rw [h]
theorem ev_cgS {α : Type} {r r' : ERes α} (k : α → PEnv → SRes) (h : r = r') : r.bindS k = r'.bindS k := by rw [h]
def goV (s : Option Slot) (i : Nat) (ρ : PEnv) : ERes PV := match s with
  | some (.v p) => .ok p ρ
  | some (.own p) => .ok p (ρ.set i (.v p))
  | _ => .bad
theorem ev_var (i : Nat) (ρ : PEnv) : eVar i ρ = goV ρ[i]? i ρ := rfl
theorem ev_v (p : PV) (i : Nat) (ρ : PEnv) : goV (some (.v p)) i ρ = .ok p ρ := rfl
theorem ev_c (p : PV) (ρ : PEnv) : eC p ρ = .ok p ρ := rfl
theorem ev_op (g : PV → PV → Option PV) (fa fb : EF) (ρ : PEnv) : eOp g fa fb ρ = (fa ρ).bind fun p ρ1 => (fb ρ1).bind fun q ρ2 => oRes (g p q) ρ2 := rfl
theorem ev_un (g : PV → Option PV) (fa : EF) (ρ : PEnv) : eUn g fa ρ = (fa ρ).bind fun p ρ1 => oRes (g p) ρ1 := rfl
theorem ev_some (z : PV) (ρ : PEnv) : oRes (some z) ρ = .ok z ρ := rfl
def goC (o : Option PV) (fc : EF) (g' : PV → PV → Option PV) (q : PV) (ρ2 : PEnv) : ERes PV := match o with
  | some (.bl true) => (fc ρ2).bind fun r ρ3 => oRes (g' q r) ρ3
  | some (.bl false) => .ok (.bl false) ρ2
  | _ => .bad
theorem goC_cg {o o' : Option PV} (fc : EF) (g' : PV → PV → Option PV) (q : PV) (ρ2 : PEnv) (h : o = o') : goC o fc g' q ρ2 = goC o' fc g' q ρ2 := by rw [h]
theorem ev_ct (fc : EF) (g' : PV → PV → Option PV) (q : PV) (ρ2 : PEnv) : goC (some (.bl true)) fc g' q ρ2 = (fc ρ2).bind fun r ρ3 => oRes (g' q r) ρ3 := rfl
theorem ev_cf (fc : EF) (g' : PV → PV → Option PV) (q : PV) (ρ2 : PEnv) : goC (some (.bl false)) fc g' q ρ2 = .ok (.bl false) ρ2 := rfl
theorem ev_chain (g g' : PV → PV → Option PV) (fa fb fc : EF) (ρ : PEnv) : eChain g g' fa fb fc ρ = (fa ρ).bind fun p ρ1 => (fb ρ1).bind fun q ρ2 => goC (g p q) fc g' q ρ2 := rfl
theorem ev_nil (ρ : PEnv) : aNil ρ = .ok [] ρ := rfl
theorem ev_cons (fa : EF) (fr : AF) (ρ : PEnv) : aCons fa fr ρ = (fa ρ).bind fun p ρ1 => (fr ρ1).bind fun ps ρ2 => .ok (p :: ps) ρ2 := rfl
theorem ev_tup (fa : AF) (ρ : PEnv) : eTup fa ρ = (fa ρ).bind fun ps ρ1 => if decide (ps.length ≤ 100000) = true then .ok (.tup ps) ρ1 else .bad := rfl
theorem ev_lst (fa : AF) (ρ : PEnv) : eLst fa ρ = (fa ρ).bind fun ps ρ1 => if decide (ps.length ≤ 100000) = true then .ok (.lst ps) ρ1 else .bad := rfl
theorem ev_tru (f : EF) (ρ : PEnv) : tTru f ρ = (f ρ).bind fun p ρ1 => tRes (pTru p) ρ1 := rfl
theorem ev_tsome (b : Bool) (ρ : PEnv) : tRes (some b) ρ = .ok b ρ := rfl
theorem ev_bl (f : EF) (ρ : PEnv) : tBl f ρ = (f ρ).bind fun p ρ1 => match p with
  | .bl b => .ok b ρ1
  | _ => .bad := rfl
theorem ev_no (f : TF) (ρ : PEnv) : tNo f ρ = (f ρ).bind fun b ρ1 => .ok (!b) ρ1 := rfl
def goB {α : Type} (b : Bool) (x y : α) : α := if b = true then x else y
theorem goB_cg {α : Type} {b b' : Bool} (x y : α) (h : b = b') : goB b x y = goB b' x y := by rw [h]
theorem goB_t {α : Type} (x y : α) : goB true x y = x := rfl
theorem goB_f {α : Type} (x y : α) : goB false x y = y := rfl
theorem ev_an (f g : TF) (ρ : PEnv) : tAn f g ρ = (f ρ).bind fun b ρ1 => goB b (g ρ1) (.ok false ρ1) := rfl
theorem ev_oo (f g : TF) (ρ : PEnv) : tOo f g ρ = (f ρ).bind fun b ρ1 => goB b (.ok true ρ1) (g ρ1) := rfl
def goT (o : Option Bool) (x y : ERes PV) : ERes PV := match o with
  | some true => x
  | some false => y
  | none => .bad
theorem goT_cg {b b' : Option Bool} (x y : ERes PV) (h : b = b') : goT b x y = goT b' x y := by rw [h]
theorem goT_s (b : Bool) (x y : ERes PV) : goT (some b) x y = goB b x y := by cases b <;> rfl
theorem ev_and (fa fb : EF) (ρ : PEnv) : eAnd fa fb ρ = (fa ρ).bind fun p ρ1 => goT (pTru p) (fb ρ1) (.ok p ρ1) := rfl
theorem ev_or (fa fb : EF) (ρ : PEnv) : eOr fa fb ρ = (fa ρ).bind fun p ρ1 => goT (pTru p) (.ok p ρ1) (fb ρ1) := rfl
theorem ev_not (f : EF) (ρ : PEnv) : eNot f ρ = (f ρ).bind fun p ρ1 => match pTru p with
  | some k => .ok (.bl (!k)) ρ1
  | none => .bad := rfl
theorem ev_if (t : TF) (fa fb : EF) (ρ : PEnv) : eIf t fa fb ρ = (t ρ).bind fun b ρ1 => goB b (fa ρ1) (fb ρ1) := rfl
theorem ev_call (g : List PV → Option PV) (fa : AF) (ρ : PEnv) : eCall g fa ρ = (fa ρ).bind fun ps ρ1 => oRes (g ps) ρ1 := rfl
theorem ev_fmt (fa : EF) (ρ : PEnv) : eFmt fa ρ = (fa ρ).bind fun p ρ1 => oRes (pFmt p) ρ1 := rfl
theorem ev_asg (i : Nat) (f : EF) (ρ : PEnv) : sAsg i f ρ = (f ρ).bindS fun p ρ1 => .nx (ρ1.set i (.v p)) := rfl
theorem ev_asgO (i : Nat) (f : EF) (ρ : PEnv) : sAsgO i f ρ = (f ρ).bindS fun p ρ1 => .nx (ρ1.set i (.own p)) := rfl
theorem ev_asgG (g : GF) (f : EF) (ρ : PEnv) : sAsgG g f ρ = (f ρ).bindS fun p ρ1 => match g p ρ1 with
  | some ρ2 => .nx ρ2
  | none => .bad := rfl
theorem ev_gN (i : Nat) (p : PV) (ρ : PEnv) : gN i p ρ = some (ρ.set i (.v p)) := rfl
theorem ev_gsN (ρ : PEnv) : gsN [] ρ = some ρ := rfl
theorem ev_gsC (g : GF) (gs : GsF) (p : PV) (r : List PV) (ρ : PEnv) : gsC g gs (p :: r) ρ = match g p ρ with
    | some ρ' => gs r ρ'
    | none => none := rfl
theorem ev_gTp (n : Nat) (gs : GsF) (xs : List PV) (ρ : PEnv) : gTp n gs (.tup xs) ρ = goB (decide (xs.length = n)) (gs xs ρ) none := rfl
theorem ev_par (i j : Nat) (fa : AF) (ρ : PEnv) : sPar i j fa ρ = (fa ρ).bindS fun ps ρ1 => match ps with
  | [p, q] => .nx ((ρ1.set i (.v p)).set j (.v q))
  | _ => .bad := rfl
theorem ev_drop (f : EF) (ρ : PEnv) : sDrop f ρ = (f ρ).bindS fun _ ρ1 => .nx ρ1 := rfl
theorem ev_ret (f : EF) (ρ : PEnv) : sRet f ρ = (f ρ).bindS fun p ρ1 => .rt p ρ1 := rfl
theorem ev_retO (f : EF) (ρ : PEnv) : sRetO f ρ = (f ρ).bindS fun p ρ1 => .ro p ρ1 := rfl
theorem ev_pass (ρ : PEnv) : sPass ρ = .nx ρ := rfl
def goS (r : SRes) (g : SF) : SRes := match r with
  | .nx ρ1 => g ρ1
  | r => r
theorem goS_cg {r r' : SRes} (g : SF) (h : r = r') : goS r g = goS r' g := by rw [h]
theorem ev_seq (f g : SF) (ρ : PEnv) : sSeq f g ρ = goS (f ρ) g := rfl
theorem goS_nx (ρ : PEnv) (g : SF) : goS (.nx ρ) g = g ρ := rfl
theorem goS_rt (p : PV) (ρ : PEnv) (g : SF) : goS (.rt p ρ) g = .rt p ρ := rfl
theorem goS_ro (p : PV) (ρ : PEnv) (g : SF) : goS (.ro p ρ) g = .ro p ρ := rfl
theorem goS_exc (c : Str) (fs : List (Str × PV)) (ρ : PEnv) (g : SF) : goS (.exc c fs ρ) g = .exc c fs ρ := rfl
theorem goS_bk (ρ : PEnv) (g : SF) : goS (.bk ρ) g = .bk ρ := rfl
theorem goS_ct (ρ : PEnv) (g : SF) : goS (.ct ρ) g = .ct ρ := rfl
theorem ev_sif (t : TF) (f g : SF) (ρ : PEnv) : sIf t f g ρ = (t ρ).bindS fun b ρ1 => goB b (f ρ1) (g ρ1) := rfl
theorem ev_raise (c : Str) (ns : List Str) (fa : AF) (ρ : PEnv) : sRaise c ns fa ρ = (fa ρ).bindS fun ps ρ1 => if decide (ps.length = ns.length ∧ ns.length ≤ 100) = true then .exc c ((ns.zip ps).reverse) ρ1 else .bad := rfl
theorem ev_xf (fs : List (Str × PV)) (f : Str) (ρ : PEnv) : eXf fs f ρ = oRes (fs.lookup f) ρ := rfl
theorem ev_for (fi : IF) (g : GF) (body : SF) (ρ : PEnv) : sFor fi g body ρ = (fi ρ).bindS fun ps ρ1 => forL g body ps ρ1 := rfl
theorem ev_while (fuel : PEnv → Nat) (t : TF) (body : SF) (ρ : PEnv) : sWhile fuel t body ρ = whileL t body (fuel ρ) ρ := rfl
theorem ev_iseq (f : EF) (ρ : PEnv) : iSeq f ρ = (f ρ).bind fun p ρ1 => match p with
  | .lst xs => .ok xs ρ1
  | .tup xs => .ok xs ρ1
  | .scr xs => .ok xs ρ1
  | _ => .bad := rfl
theorem ev_iarg (g : List PV → Option (List PV)) (fa : AF) (ρ : PEnv) : iArg g fa ρ = (fa ρ).bind fun ps ρ1 => lRes (g ps) ρ1 := rfl
theorem ev_lsome (z : List PV) (ρ : PEnv) : lRes (some z) ρ = .ok z ρ := rfl
theorem ev_callF (ms : List Bool) (F : FF) (fa : AF2) (ρ : PEnv) : eCallF ms F fa ρ = (fa ρ).bind fun as ρ1 => callE ms F as ρ1 := rfl
theorem ev_callD (ms : List Bool) (F : FF) (dps : List PV) (fa : AF2) (ρ : PEnv) : eCallD ms F dps fa ρ = (fa ρ).bind fun as ρ1 => callE ms F (as ++ dps.map AV.val) ρ1 := rfl
theorem ev_call0 (ms : List Bool) (F : FF) (dps : List PV) (ρ : PEnv) : eCall0 ms F dps ρ = callE ms F (dps.map AV.val) ρ := rfl
theorem ev_callO (ms : List Bool) (F : FF) (fa : AF2) (ρ : PEnv) : eCallO ms F fa ρ = (fa ρ).bind fun as ρ1 => callO ms F as ρ1 := rfl
theorem ev_bnil (ρ : PEnv) : bNil ρ = .ok [] ρ := rfl
theorem ev_bval (fa : EF) (fr : AF2) (ρ : PEnv) : bVal fa fr ρ = (fa ρ).bind fun p ρ1 => (fr ρ1).bind fun as ρ2 => .ok (AV.val p :: as) ρ2 := rfl
theorem ev_bown (i : Nat) (fr : AF2) (ρ : PEnv) : bOwn i fr ρ = match ρ[i]? with
  | some (.own _) => (fr ρ).bind fun as ρ2 => .ok (AV.own i :: as) ρ2
  | _ => .bad := rfl
def goF (r : FRes) (as : List AV) (ρ : PEnv) : ERes PV := match r with
    | .ret p os => match putO as os ρ with
      | some ρ' => .ok p ρ'
      | none => .bad
    | .exc c fs os => match putO as os ρ with
      | some ρ' => .exc c fs ρ'
      | none => .bad
    | _ => .bad
theorem goF_cg {r r' : FRes} (as : List AV) (ρ : PEnv) (h : r = r') : goF r as ρ = goF r' as ρ := by rw [h]
/-- calls of values alone -/
theorem collect_vals : ∀ (ps : List PV) (ρ : PEnv), collect (ps.map AV.val) ρ = some ps
  | [], _ => rfl
  | p :: ps, ρ => by
    show (match collect (ps.map AV.val) ρ with | some ps => some (p :: ps) | none => none) = _
    rw [collect_vals ps ρ]
theorem putO_vals : ∀ (ps : List PV) (ρ : PEnv), putO (ps.map AV.val) [] ρ = some ρ
  | [], _ => rfl
  | p :: ps, ρ => putO_vals ps ρ
theorem idx_vals : ∀ ps : List PV, idx (ps.map AV.val) = []
  | [] => rfl
  | p :: ps => idx_vals ps
def goR (r : FRes) (ρ : PEnv) : ERes PV := match r with
    | .ret p [] => .ok p ρ
    | .exc c fs [] => .exc c fs ρ
    | _ => .bad
theorem goR_cg {r r' : FRes} (ρ : PEnv) (h : r = r') : goR r ρ = goR r' ρ := by rw [h]
theorem goR_ret (p : PV) (ρ : PEnv) : goR (.ret p []) ρ = .ok p ρ := rfl
theorem goR_exc (c : Str) (fs : List (Str × PV)) (ρ : PEnv) : goR (.exc c fs []) ρ = .exc c fs ρ := rfl
theorem ce_vals (F : FF) (ps : List PV) (ms : List Bool) (ρ : PEnv) (h : ms = ps.map fun _ => false) (hn : ∀ p os, F ps = .ret p os → os = []) (hx : ∀ c fs os, F ps = .exc c fs os → os = []) : callE ms F (ps.map AV.val) ρ = goR (F ps) ρ := by
  unfold callE
  rw [collect_vals]
  have e : (decide ((ps.map AV.val).map AV.isOwn = ms) && decide ((idx (ps.map AV.val)).Nodup)) = true := by
    rw [idx_vals, h]
    simp [AV.isOwn]
  simp only [e, if_true]
  cases hf : F ps with
  | ret p os => rw [hn _ _ hf]; simp only [putO_vals, goR]
  | exc c fs os => rw [hx _ _ _ hf]; simp only [putO_vals, goR]
  | reo p os => rfl
  | bad => rfl

def okA : List AV → List Bool → Bool
  | [], [] => true
  | .val _ :: as, false :: ms => okA as ms
  | .own i :: as, true :: ms => !(idx as).contains i && okA as ms
  | _, _ => false
theorem okA_eq : ∀ (as : List AV) (ms : List Bool), okA as ms = (decide (as.map AV.isOwn = ms) && decide ((idx as).Nodup))
  | [], [] => by simp [okA, idx]
  | [], _ :: _ => by simp [okA]
  | .val _ :: as, false :: ms => by
    simp [okA, idx, AV.isOwn, okA_eq as ms]
    try rfl
  | .own i :: as, true :: ms => by
    simp only [okA, idx, AV.isOwn, okA_eq as ms, List.map_cons, List.nodup_cons, List.cons.injEq, true_and, List.contains_eq_mem]
    by_cases h1 : i ∈ idx as <;> by_cases h2 : as.map AV.isOwn = ms <;> simp [h1, h2]
  | .val _ :: as, true :: ms => by simp [okA, AV.isOwn]
  | .own _ :: as, false :: ms => by simp [okA, AV.isOwn]
  | .val _ :: as, [] => by simp [okA]
  | .own _ :: as, [] => by simp [okA]
def goA (o : Option (List PV)) (ms : List Bool) (F : FF) (as : List AV) (ρ : PEnv) : ERes PV := match o with
  | some ps => goB (okA as ms) (goF (F ps) as ρ) .bad
  | none => .bad
theorem goA_s (ps : List PV) (ms : List Bool) (F : FF) (as : List AV) (ρ : PEnv) : goA (some ps) ms F as ρ = goB (okA as ms) (goF (F ps) as ρ) .bad := rfl
theorem ev_callE (ms : List Bool) (F : FF) (as : List AV) (ρ : PEnv) : callE ms F as ρ = goA (collect as ρ) ms F as ρ := by
  unfold callE goA goB goF
  rw [okA_eq]
  cases collect as ρ <;> rfl
def goFO (r : FRes) (as : List AV) (ρ : PEnv) : ERes PV := match r with
    | .reo p os => match putO as os ρ with
      | some ρ' => .ok p ρ'
      | none => .bad
    | .exc c fs os => match putO as os ρ with
      | some ρ' => .exc c fs ρ'
      | none => .bad
    | _ => .bad
theorem goFO_cg {r r' : FRes} (as : List AV) (ρ : PEnv) (h : r = r') : goFO r as ρ = goFO r' as ρ := by rw [h]
def goAO (o : Option (List PV)) (ms : List Bool) (F : FF) (as : List AV) (ρ : PEnv) : ERes PV := match o with
  | some ps => goB (okA as ms) (goFO (F ps) as ρ) .bad
  | none => .bad
theorem goAO_s (ps : List PV) (ms : List Bool) (F : FF) (as : List AV) (ρ : PEnv) : goAO (some ps) ms F as ρ = goB (okA as ms) (goFO (F ps) as ρ) .bad := rfl
theorem ev_callOE (ms : List Bool) (F : FF) (as : List AV) (ρ : PEnv) : callO ms F as ρ = goAO (collect as ρ) ms F as ρ := by
  unfold callO goAO goB goFO
  rw [okA_eq]
  cases collect as ρ <;> rfl
def goP (o : Option PEnv) (k : PEnv → ERes PV) : ERes PV := match o with
  | some ρ => k ρ
  | none => .bad
theorem goP_s (ρ : PEnv) (k : PEnv → ERes PV) : goP (some ρ) k = k ρ := rfl
theorem goF_ret (p : PV) (os : List PV) (as : List AV) (ρ : PEnv) : goF (.ret p os) as ρ = goP (putO as os ρ) fun ρ' => .ok p ρ' := rfl
theorem goF_exc (c : Str) (fs : List (Str × PV)) (os : List PV) (as : List AV) (ρ : PEnv) : goF (.exc c fs os) as ρ = goP (putO as os ρ) fun ρ' => .exc c fs ρ' := rfl
theorem goFO_reo (p : PV) (os : List PV) (as : List AV) (ρ : PEnv) : goFO (.reo p os) as ρ = goP (putO as os ρ) fun ρ' => .ok p ρ' := rfl
theorem goFO_exc (c : Str) (fs : List (Str × PV)) (os : List PV) (as : List AV) (ρ : PEnv) : goFO (.exc c fs os) as ρ = goP (putO as os ρ) fun ρ' => .exc c fs ρ' := rfl
theorem co_nil (ρ : PEnv) : collect [] ρ = some [] := rfl
theorem co_val (p : PV) (as : List AV) (ρ : PEnv) : collect (.val p :: as) ρ = (collect as ρ).map (p :: ·) := by
  show (match collect as ρ with | some ps => some (p :: ps) | none => none) = _
  cases collect as ρ <;> rfl
def goOwn (s : Option Slot) (o : Option (List PV)) : Option (List PV) := match s with
  | some (.own p) => (match o with | some ps => some (p :: ps) | none => none)
  | _ => none
theorem co_own (i : Nat) (as : List AV) (ρ : PEnv) : collect (.own i :: as) ρ = goOwn ρ[i]? (collect as ρ) := rfl
theorem co_go (p : PV) (ps : List PV) : goOwn (some (.own p)) (some ps) = some (p :: ps) := rfl
theorem co_map (p : PV) (ps : List PV) : (some ps).map (p :: ·) = some (p :: ps) := rfl
theorem pu_nil (ρ : PEnv) : putO [] [] ρ = some ρ := rfl
theorem pu_val (p : PV) (as : List AV) (os : List PV) (ρ : PEnv) : putO (.val p :: as) os ρ = putO as os ρ := rfl
theorem pu_own (i : Nat) (o : PV) (as : List AV) (os : List PV) (ρ : PEnv) : putO (.own i :: as) (o :: os) ρ = putO as os (ρ.set i (.own o)) := rfl
theorem oa_nil : okA [] [] = true := rfl
theorem oa_val (p : PV) (as : List AV) (ms : List Bool) : okA (.val p :: as) (false :: ms) = okA as ms := rfl
theorem oa_own (i : Nat) (as : List AV) (ms : List Bool) : okA (.own i :: as) (true :: ms) = (!(idx as).contains i && okA as ms) := rfl
theorem ix_nil : idx [] = [] := rfl
theorem ix_val (p : PV) (as : List AV) : idx (.val p :: as) = idx as := rfl
theorem ix_own (i : Nat) (as : List AV) : idx (.own i :: as) = i :: idx as := rfl
/-! a def's run -/
def goRun (ms : List Bool) (r : SRes) : FRes := match r with
  | .nx ρ => match ownsOf ms ρ with
    | some os => .ret .non os
    | none => .bad
  | .rt p ρ => match ownsOf ms ρ with
    | some os => .ret p os
    | none => .bad
  | .ro p ρ => match ownsOf ms ρ with
    | some os => .reo p os
    | none => .bad
  | .exc c fs ρ => match ownsOf ms ρ with
    | some os => .exc c fs os
    | none => .bad
  | _ => .bad
theorem ev_run (ms : List Bool) (n : Nat) (B : SF) (ps : List PV) : runF ms n B ps = goRun ms (B (slotsOf ms ps ++ List.replicate (n - ms.length) .no)) := rfl
def goO (o : Option (List PV)) (k : List PV → FRes) : FRes := match o with
  | some os => k os
  | none => .bad
theorem goO_s (os : List PV) (k : List PV → FRes) : goO (some os) k = k os := rfl
theorem gr_nx (ms : List Bool) (ρ : PEnv) : goRun ms (.nx ρ) = goO (ownsOf ms ρ) fun os => .ret .non os := rfl
theorem gr_rt (ms : List Bool) (p : PV) (ρ : PEnv) : goRun ms (.rt p ρ) = goO (ownsOf ms ρ) fun os => .ret p os := rfl
theorem gr_ro (ms : List Bool) (p : PV) (ρ : PEnv) : goRun ms (.ro p ρ) = goO (ownsOf ms ρ) fun os => .reo p os := rfl
theorem gr_exc (ms : List Bool) (c : Str) (fs : List (Str × PV)) (ρ : PEnv) : goRun ms (.exc c fs ρ) = goO (ownsOf ms ρ) fun os => .exc c fs os := rfl
theorem ow_nil (ρ : PEnv) : ownsOf [] ρ = some [] := by cases ρ <;> rfl
theorem ow_f (ms : List Bool) (s : Slot) (ρ : PEnv) : ownsOf (false :: ms) (s :: ρ) = ownsOf ms ρ := rfl
theorem ow_t (ms : List Bool) (p : PV) (ρ : PEnv) : ownsOf (true :: ms) (.own p :: ρ) = (ownsOf ms ρ).map (p :: ·) := by
  show (match ownsOf ms ρ with | some os => some (p :: os) | none => none) = _
  cases ownsOf ms ρ <;> rfl
theorem sl_nil (ps : List PV) : slotsOf [] ps = [] := by cases ps <;> rfl
theorem sl_f (ms : List Bool) (p : PV) (ps : List PV) : slotsOf (false :: ms) (p :: ps) = .v p :: slotsOf ms ps := rfl
theorem sl_t (ms : List Bool) (p : PV) (ps : List PV) : slotsOf (true :: ms) (p :: ps) = .own p :: slotsOf ms ps := rfl
theorem rp_s (n : Nat) (s : Slot) : List.replicate (n + 1) s = s :: List.replicate n s := rfl
theorem rp_0 (s : Slot) : List.replicate 0 s = [] := rfl
/-! isinstance -/
def isT (p : PV) (b : String) : Option PV := match tyName p with
    | some a => if decide (b ∈ tyIs) = true then some (.bl (isaT a b)) else none
    | none => none
theorem isi_int_int (i : Int) : pIsi [.int i, .atm (.ty "int")] = some (.bl true) := rfl
theorem isi_int_bool (i : Int) : pIsi [.int i, .atm (.ty "bool")] = some (.bl false) := rfl
theorem isi_int_tup (i : Int) : pIsi [.int i, .atm (.ty "tuple")] = some (.bl false) := rfl
theorem isi_int_lst (i : Int) : pIsi [.int i, .atm (.ty "list")] = some (.bl false) := rfl
theorem isi_int_str (i : Int) : pIsi [.int i, .atm (.ty "str")] = some (.bl false) := rfl
theorem isi_bl_int (i : Bool) : pIsi [.bl i, .atm (.ty "int")] = some (.bl true) := rfl
theorem isi_bl_bool (i : Bool) : pIsi [.bl i, .atm (.ty "bool")] = some (.bl true) := rfl
theorem isi_bl_tup (i : Bool) : pIsi [.bl i, .atm (.ty "tuple")] = some (.bl false) := rfl
theorem isi_bl_lst (i : Bool) : pIsi [.bl i, .atm (.ty "list")] = some (.bl false) := rfl
theorem isi_bl_str (i : Bool) : pIsi [.bl i, .atm (.ty "str")] = some (.bl false) := rfl
theorem isi_tup_int (i : List PV) : pIsi [.tup i, .atm (.ty "int")] = some (.bl false) := rfl
theorem isi_tup_bool (i : List PV) : pIsi [.tup i, .atm (.ty "bool")] = some (.bl false) := rfl
theorem isi_tup_tup (i : List PV) : pIsi [.tup i, .atm (.ty "tuple")] = some (.bl true) := rfl
theorem isi_tup_lst (i : List PV) : pIsi [.tup i, .atm (.ty "list")] = some (.bl false) := rfl
theorem isi_tup_str (i : List PV) : pIsi [.tup i, .atm (.ty "str")] = some (.bl false) := rfl
theorem isi_lst_int (i : List PV) : pIsi [.lst i, .atm (.ty "int")] = some (.bl false) := rfl
theorem isi_lst_bool (i : List PV) : pIsi [.lst i, .atm (.ty "bool")] = some (.bl false) := rfl
theorem isi_lst_tup (i : List PV) : pIsi [.lst i, .atm (.ty "tuple")] = some (.bl false) := rfl
theorem isi_lst_lst (i : List PV) : pIsi [.lst i, .atm (.ty "list")] = some (.bl true) := rfl
theorem isi_lst_str (i : List PV) : pIsi [.lst i, .atm (.ty "str")] = some (.bl false) := rfl
theorem isi_str_int (i : Str) : pIsi [.str i, .atm (.ty "int")] = some (.bl false) := rfl
theorem isi_str_bool (i : Str) : pIsi [.str i, .atm (.ty "bool")] = some (.bl false) := rfl
theorem isi_str_tup (i : Str) : pIsi [.str i, .atm (.ty "tuple")] = some (.bl false) := rfl
theorem isi_str_lst (i : Str) : pIsi [.str i, .atm (.ty "list")] = some (.bl false) := rfl
theorem isi_str_str (i : Str) : pIsi [.str i, .atm (.ty "str")] = some (.bl true) := rfl
theorem isi_non_int : pIsi [.non, .atm (.ty "int")] = some (.bl false) := rfl
theorem isi_non_bool : pIsi [.non, .atm (.ty "bool")] = some (.bl false) := rfl
theorem isi_non_tup : pIsi [.non, .atm (.ty "tuple")] = some (.bl false) := rfl
theorem isi_non_lst : pIsi [.non, .atm (.ty "list")] = some (.bl false) := rfl
theorem isi_non_str : pIsi [.non, .atm (.ty "str")] = some (.bl false) := rfl
theorem pt_bl (b : Bool) : pTru (.bl b) = some b := rfl
theorem pt_int (i : Int) : pTru (.int i) = some (i != 0) := rfl
theorem pt_non : pTru .non = some false := rfl
theorem pt_tup (xs : List PV) : pTru (.tup xs) = some (!xs.isEmpty) := rfl
theorem pt_lst (xs : List PV) : pTru (.lst xs) = some (!xs.isEmpty) := rfl
theorem pc_ii (f : Int → Int → Bool) (i j : Int) : pCmp f (.int i) (.int j) = some (.bl (f i j)) := rfl
theorem pa_ii (i j : Int) : pAddA (.int i) (.int j) = some (.int (i + j)) := rfl
theorem psb_ii (i j : Int) : pSub (.int i) (.int j) = some (.int (i - j)) := rfl
theorem pn_i (i : Int) : pNeg (.int i) = some (.int (-i)) := rfl
theorem pab_i (i : Int) : pAbs [.int i] = some (.int (i.natAbs : Int)) := by
  show some (PV.int (if i < 0 then -i else i)) = _
  by_cases h : i < 0
  · rw [if_pos h]; congr 2; omega
  · rw [if_neg h]; congr 2; omega
theorem pi_i (i : Int) : pInt [.int i] = some (.int i) := rfl
theorem pg_ii (i j : Int) : pGcd [.int i, .int j] = some (.int ((Nat.gcd i.natAbs j.natAbs : Nat) : Int)) := rfl
theorem pl_l (xs : List PV) : pLen [.lst xs] = some (.int xs.length) := rfl
theorem pl_t (xs : List PV) : pLen [.tup xs] = some (.int xs.length) := rfl
theorem pl_s (xs : List PV) : pLen [.scr xs] = some (.int xs.length) := rfl
/-- numbers within a bound -/
def Sm (n : Nat) (i : Int) : Prop := i.natAbs < 2 ^ n
theorem log2_lt {a n : Nat} (h : a < 2 ^ n) : a.log2 < n ∨ a = 0 := by
  rcases Nat.eq_zero_or_pos a with e | e
  · exact .inr e
  · exact .inl ((Nat.log2_lt (by omega)).mpr h)
theorem l20 : Nat.log2 0 = 0 := by decide
theorem pm_ii {i j : Int} (hi : i.natAbs < 2 ^ 400000) (hj : j.natAbs < 2 ^ 400000) : pMul (.int i) (.int j) = some (.int (i * j)) := by
  have e1 : i.natAbs.log2 ≤ 400000 := by
    rcases log2_lt hi with h | h
    · omega
    · rw [h, l20]; decide
  have e2 : j.natAbs.log2 ≤ 400000 := by
    rcases log2_lt hj with h | h
    · omega
    · rw [h, l20]; decide
  have e3 : decide (i.natAbs.log2 + j.natAbs.log2 < 1000000) = true := by simp only [decide_eq_true_eq]; omega
  show (if (decide ((-(2 ^ 64) < i ∧ i < 2 ^ 64) ∨ (-(2 ^ 64) < j ∧ j < 2 ^ 64)) || decide (i.natAbs.log2 + j.natAbs.log2 < 1000000)) = true then some (PV.int (i * j)) else none) = _
  rw [e3, Bool.or_true, if_pos rfl]
theorem pd_ii {i j : Int} (h0 : j ≠ 0) (hj : j.natAbs < 2 ^ 8999) : pDiv (.int i) (.int j) = some (.int (i.fdiv j)) := by
  have e2 : j.natAbs.log2 < 9000 := by
    rcases log2_lt hj with h | h
    · omega
    · rw [h, l20]; decide
  unfold pDiv
  have e3 : decide (j ≠ 0 ∧ j.natAbs.log2 < 9000) = true := by simp only [decide_eq_true_eq]; exact ⟨h0, e2⟩
  simp only [e3, if_true]
theorem pmo_ii {i j : Int} (h0 : j ≠ 0) : pMod (.int i) (.int j) = some (.int (i.fmod j)) := by
  unfold pMod
  simp [h0]
theorem atI_nat {α : Type} (xs : List α) (n : Nat) : atI xs (n : Int) = xs[n]? := by
  unfold atI ixN
  rw [if_pos (by omega)]
  by_cases h : n < xs.length
  · rw [if_pos (by omega)]; rfl
  · rw [if_neg (by omega), List.getElem?_eq_none (by omega)]; rfl
theorem at_0 (xs : List PV) : pIx (.tup xs) (.int 0) = xs[0]? := atI_nat xs 0
theorem at_1 (xs : List PV) : pIx (.tup xs) (.int 1) = xs[1]? := atI_nat xs 1
theorem at_2 (xs : List PV) : pIx (.tup xs) (.int 2) = xs[2]? := atI_nat xs 2
theorem at_3 (xs : List PV) : pIx (.tup xs) (.int 3) = xs[3]? := atI_nat xs 3
theorem atl_0 (xs : List PV) : pIx (.lst xs) (.int 0) = xs[0]? := atI_nat xs 0
theorem atl_1 (xs : List PV) : pIx (.lst xs) (.int 1) = xs[1]? := atI_nat xs 1
theorem atl_2 (xs : List PV) : pIx (.lst xs) (.int 2) = xs[2]? := atI_nat xs 2
theorem atl_3 (xs : List PV) : pIx (.lst xs) (.int 3) = xs[3]? := atI_nat xs 3
end PL
end

section
set_option Elab.async false
set_option linter.all false
set_option maxRecDepth 100000
set_option maxHeartbeats 4000000
set_option autoImplicit false
namespace PL
open PySem PySem.Spec PyProof.Rows L2
/-! == of numbers and of pairs -/
theorem pe_ii (i j : Int) : pEq (.int i) (.int j) = some (.bl (decide (i = j))) := by
  have e : pEqB (.int i) (.int j) = some (i == j) := rfl
  unfold pEq; rw [e]; rfl
theorem pne_ii (i j : Int) : pNe (.int i) (.int j) = some (.bl (!decide (i = j))) := by
  have e : pEqB (.int i) (.int j) = some (i == j) := rfl
  unfold pNe; rw [e]; rfl
theorem pb_rr (a b c d : Int) : pEqB (.tup [.int a, .int b]) (.tup [.int c, .int d]) = some (decide (a = c) && decide (b = d)) := by
  have e : pEqB (.tup [.int a, .int b]) (.tup [.int c, .int d]) = some ((a == c) && ((b == d) && true)) := by
    simp [pEqB, toD, toDs, SeqAt.shaped, PyData.canLay0, PyData.canLayAll0, PyData.depth, PyData.depthAll, PyData.eqv, PyData.eqvAll]
  rw [e, Bool.and_true]; rfl
theorem pe_rr (a b c d : Int) : pEq (.tup [.int a, .int b]) (.tup [.int c, .int d]) = some (.bl (decide (a = c) && decide (b = d))) := by
  unfold pEq; rw [pb_rr]
theorem pne_rr (a b c d : Int) : pNe (.tup [.int a, .int b]) (.tup [.int c, .int d]) = some (.bl (!(decide (a = c) && decide (b = d)))) := by
  unfold pNe; rw [pb_rr]
theorem pe_ss {x y : Str} (hx : PyData.strOk x = true) (hy : PyData.strOk y = true) : pEq (.str x) (.str y) = some (.bl (x == y)) := by
  simp [pEq, pEqB, toD, SeqAt.shaped, PyData.canLay0, PyData.depth, PyData.eqv, hx, hy]
theorem pne_ss {x y : Str} (hx : PyData.strOk x = true) (hy : PyData.strOk y = true) : pNe (.str x) (.str y) = some (.bl (!(x == y))) := by
  simp [pNe, pEqB, toD, SeqAt.shaped, PyData.canLay0, PyData.depth, PyData.eqv, hx, hy]
/-! fractions -/
def sg (t b : Int) : Int := if b < 0 then -((Nat.gcd t.natAbs b.natAbs : Nat) : Int) else ((Nat.gcd t.natAbs b.natAbs : Nat) : Int)
def rt (t b : Int) : Int := t.fdiv (sg t b)
def rb (t b : Int) : Int := b.fdiv (sg t b)
def rd (t b : Int) : PV := .tup [.int (rt t b), .int (rb t b)]
theorem sg_ne {t b : Int} (h : b ≠ 0) : sg t b ≠ 0 := by
  have : 0 < Nat.gcd t.natAbs b.natAbs := Nat.gcd_pos_of_pos_right _ (by omega)
  unfold sg; split <;> omega
theorem sg_abs (t b : Int) : (sg t b).natAbs = Nat.gcd t.natAbs b.natAbs := by
  unfold sg; split <;> simp
theorem sg_le {t b : Int} (h : b ≠ 0) : (sg t b).natAbs ≤ b.natAbs := by
  rw [sg_abs]; exact Nat.gcd_le_right _ (by omega)
theorem rd_t (t b : Int) : sg t b * rt t b = t := by
  have h : sg t b ∣ t := Int.natAbs_dvd_natAbs.mp (by rw [sg_abs]; exact Nat.gcd_dvd_left _ _)
  unfold rt
  exact Int.mul_fdiv_cancel' h
theorem rd_b (t b : Int) : sg t b * rb t b = b := by
  have h : sg t b ∣ b := Int.natAbs_dvd_natAbs.mp (by rw [sg_abs]; exact Nat.gcd_dvd_right _ _)
  unfold rb
  exact Int.mul_fdiv_cancel' h
theorem rb_pos {t b : Int} (h : b ≠ 0) : 0 < rb t b := by
  have h1 := rd_b t b
  have h2 : 0 < Nat.gcd t.natAbs b.natAbs := Nat.gcd_pos_of_pos_right _ (by omega)
  rcases Int.lt_trichotomy (rb t b) 0 with h3 | h3 | h3
  · exfalso
    unfold sg at h1
    split at h1
    · rename_i hb
      have := Int.mul_pos_of_neg_of_neg (a := -((Nat.gcd t.natAbs b.natAbs : Nat) : Int)) (b := rb t b) (by omega) h3
      omega
    · rename_i hb
      have := Int.mul_neg_of_pos_of_neg (a := ((Nat.gcd t.natAbs b.natAbs : Nat) : Int)) (b := rb t b) (by omega) h3
      omega
  · rw [h3] at h1; simp at h1; omega
  · exact h3
theorem rd_gcd {t b : Int} (h : b ≠ 0) : Nat.gcd (rt t b).natAbs (rb t b).natAbs = 1 := by
  have h2 : 0 < Nat.gcd t.natAbs b.natAbs := Nat.gcd_pos_of_pos_right _ (by omega)
  have e1 : t.natAbs = (sg t b).natAbs * (rt t b).natAbs := by rw [← Int.natAbs_mul, rd_t]
  have e2 : b.natAbs = (sg t b).natAbs * (rb t b).natAbs := by rw [← Int.natAbs_mul, rd_b]
  have e3 : Nat.gcd t.natAbs b.natAbs = Nat.gcd t.natAbs b.natAbs * Nat.gcd (rt t b).natAbs (rb t b).natAbs := by
    have e4 : Nat.gcd t.natAbs b.natAbs = Nat.gcd ((sg t b).natAbs * (rt t b).natAbs) ((sg t b).natAbs * (rb t b).natAbs) := by rw [← e1, ← e2]
    rw [Nat.gcd_mul_left, sg_abs] at e4
    exact e4
  exact Nat.eq_of_mul_eq_mul_left h2 (by rw [Nat.mul_one]; exact e3.symm)
theorem rt_le {t b : Int} (h : b ≠ 0) : (rt t b).natAbs ≤ t.natAbs := by
  have e1 : t.natAbs = (sg t b).natAbs * (rt t b).natAbs := by rw [← Int.natAbs_mul, rd_t]
  have h2 : 0 < (sg t b).natAbs := by have := sg_ne (t := t) h; omega
  rw [e1]
  exact Nat.le_mul_of_pos_left _ h2
theorem rb_le {t b : Int} (h : b ≠ 0) : (rb t b).natAbs ≤ b.natAbs := by
  have e1 : b.natAbs = (sg t b).natAbs * (rb t b).natAbs := by rw [← Int.natAbs_mul, rd_b]
  have h2 : 0 < (sg t b).natAbs := by have := sg_ne (t := t) h; omega
  have h3 : (rb t b).natAbs ≤ (sg t b).natAbs * (rb t b).natAbs := Nat.le_mul_of_pos_left _ h2
  omega
/-! sizes -/
def Bd (n : Nat) (i : Int) : Prop := i.natAbs < 2 ^ n
theorem Bd.mono {m n : Nat} {i : Int} (h : Bd m i) (l : m ≤ n) : Bd n i := Nat.lt_of_lt_of_le h (Nat.pow_le_pow_right (by decide) l)
theorem Bd.mul {m n : Nat} {i j : Int} (h : Bd m i) (k : Bd n j) : Bd (m + n) (i * j) := by
  unfold Bd at *
  rw [Int.natAbs_mul, Nat.pow_add]
  exact Nat.mul_lt_mul_of_lt_of_lt h k
theorem Bd.add {m : Nat} {i j : Int} (h : Bd m i) (k : Bd m j) : Bd (m + 1) (i + j) := by
  unfold Bd at *
  have : (i + j).natAbs ≤ i.natAbs + j.natAbs := Int.natAbs_add_le _ _
  rw [Nat.pow_succ]; omega
theorem Bd.neg {m : Nat} {i : Int} (h : Bd m i) : Bd m (-i) := by unfold Bd at *; rwa [Int.natAbs_neg]
theorem Bd.sub {m : Nat} {i j : Int} (h : Bd m i) (k : Bd m j) : Bd (m + 1) (i - j) := by rw [Int.sub_eq_add_neg]; exact h.add k.neg
theorem pm_bd {m n : Nat} {i j : Int} (h : Bd m i) (k : Bd n j) (l : m ≤ 400000 := by omega) (l' : n ≤ 400000 := by omega) : pMul (.int i) (.int j) = some (.int (i * j)) := pm_ii (h.mono l) (k.mono l')
theorem pd_bd {m : Nat} {i j : Int} (h0 : j ≠ 0) (h : Bd m j) (l : m ≤ 8999 := by omega) : pDiv (.int i) (.int j) = some (.int (i.fdiv j)) := pd_ii h0 (h.mono l)
theorem sg_bd {m : Nat} {t b : Int} (h0 : b ≠ 0) (h : Bd m b) : Bd m (sg t b) := Nat.lt_of_le_of_lt (sg_le h0) h
theorem rt_bd {m : Nat} {t b : Int} (h0 : b ≠ 0) (h : Bd m t) : Bd m (rt t b) := Nat.lt_of_le_of_lt (rt_le h0) h
theorem rb_bd {m : Nat} {t b : Int} (h0 : b ≠ 0) (h : Bd m b) : Bd m (rb t b) := Nat.lt_of_le_of_lt (rb_le h0) h

/-! texts of numbers -/
theorem sok_of (s : String) : PyData.strOk (Str.ofString s) = true := by
  unfold PyData.strOk
  rw [Str.ofString_eq_toList]
  simp only [Array.all_eq_true_iff_forall_mem, List.mem_toArray, List.mem_map, decide_eq_true_eq]
  rintro x ⟨c, _, rfl⟩
  have h := c.valid
  rcases h with h | h
  · have h1 : c.toNat < 0xd800 := h; omega
  · have h1 : c.toNat < 0x110000 := h.2; exact h1
theorem sok_app {a b : Str} (ha : PyData.strOk a = true) (hb : PyData.strOk b = true) : PyData.strOk (a ++ b) = true := by
  have e : (a ++ b).cps = a.cps ++ b.cps := rfl
  unfold PyData.strOk at *
  rw [e, Array.all_append, ha, hb]; rfl
theorem len_of (s : String) : (Str.ofString s).length = s.toList.length := by
  rw [Str.ofString_eq_toList]
  simp [Str.length]
theorem len_app (a b : Str) : (a ++ b).length = a.length + b.length := by
  have e : (a ++ b).cps = a.cps ++ b.cps := rfl
  unfold Str.length
  rw [e]; simp
theorem nat_len {n k : Nat} (hk : 0 < k) (h : n < 10 ^ k) : (toString n).toList.length ≤ k := by
  have := (Nat.length_toDigits_le_iff (b := 10) (n := n) (by decide) hk).mpr h
  simpa [toString, Nat.repr] using this
theorem int_len {i : Int} {k : Nat} (hk : 0 < k) (h : i.natAbs < 10 ^ k) : (Str.ofString (toString i)).length ≤ k + 1 := by
  rw [len_of]
  cases i with
  | ofNat n =>
    have := nat_len hk (n := n) (by simpa using h)
    show (toString n).toList.length ≤ k + 1
    omega
  | negSucc n =>
    have := nat_len hk (n := n + 1) (by simpa [Int.natAbs_negSucc] using h)
    show (("-" : String) ++ toString (n + 1)).toList.length ≤ k + 1
    rw [String.toList_append, List.length_append]
    have e : ("-" : String).toList.length = 1 := rfl
    omega
end PL
end

section
set_option Elab.async false
set_option linter.all false
set_option maxRecDepth 100000
set_option maxHeartbeats 4000000
set_option autoImplicit false
set_option exponentiation.threshold 2000
/-! rational numbers as values, plain data compared, comprehensions and sums -/
namespace PL
open PySem PySem.Spec PyProof.Rows L2

/-! ### plain data -/
mutual
def nb : PyData → Bool
  | .none | .int _ | .str _ => true
  | .bool _ | .dict _ => false
  | .list xs | .tuple xs => nbs xs
def nbs : List PyData → Bool
  | [] => true
  | x :: xs => nb x && nbs xs
end
mutual
theorem eqv_inj : ∀ d e : PyData, nb d = true → nb e = true → PyData.eqv d e = true → d = e
  | .none, e, _, he, h => by cases e <;> simp_all [PyData.eqv, nb]
  | .bool _, _, hd, _, _ => by simp [nb] at hd
  | .dict _, _, hd, _, _ => by simp [nb] at hd
  | .int _, e, _, he, h => by cases e <;> simp_all [PyData.eqv, nb]
  | .str _, e, _, he, h => by cases e <;> simp_all [PyData.eqv, nb]
  | .list xs, e, hd, he, h => by
    cases e with
    | list ys =>
      simp only [PyData.eqv, nb] at *
      rw [eqvs_inj xs ys hd he h]
    | _ => simp_all [PyData.eqv, nb]
  | .tuple xs, e, hd, he, h => by
    cases e with
    | tuple ys =>
      simp only [PyData.eqv, nb] at *
      rw [eqvs_inj xs ys hd he h]
    | _ => simp_all [PyData.eqv, nb]
theorem eqvs_inj : ∀ xs ys : List PyData, nbs xs = true → nbs ys = true → PyData.eqvAll xs ys = true → xs = ys
  | [], [], _, _, _ => rfl
  | [], _ :: _, _, _, h => by simp [PyData.eqvAll] at h
  | _ :: _, [], _, _, h => by simp [PyData.eqvAll] at h
  | x :: xs, y :: ys, hx, hy, h => by
    simp only [PyData.eqvAll, nbs, Bool.and_eq_true] at *
    rw [eqv_inj x y hx.1 hy.1 h.1, eqvs_inj xs ys hx.2 hy.2 h.2]
end
mutual
theorem toD_inj : ∀ (p q : PV) (d : PyData), toD p = some d → toD q = some d → p = q
  | .non, q, d, hp, hq => by
    cases q <;> simp only [toD] at * <;> (try split at hq) <;> (first | (cases hp; cases hq; rfl) | (cases hp; cases hq))
  | .bl _, q, d, hp, hq => by
    cases q <;> simp only [toD] at * <;> (try split at hq) <;> (first | (cases hp; cases hq; rfl) | (cases hp; cases hq))
  | .int _, q, d, hp, hq => by
    cases q <;> simp only [toD] at * <;> (try split at hq) <;> (first | (cases hp; cases hq; rfl) | (cases hp; cases hq))
  | .str _, q, d, hp, hq => by
    cases q <;> simp only [toD] at * <;> (try split at hq) <;> (first | (cases hp; cases hq; rfl) | (cases hp; cases hq))
  | .tup xs, q, d, hp, hq => by
    simp only [toD] at hp
    split at hp
    · rename_i ds h1
      cases hp
      cases q with
      | tup ys =>
        simp only [toD] at hq
        split at hq
        · rename_i es h2
          cases hq
          rw [toDs_inj xs ys _ h1 h2]
        · cases hq
      | lst ys => simp only [toD] at hq; split at hq <;> cases hq
      | _ => simp [toD] at hq
    · cases hp
  | .lst xs, q, d, hp, hq => by
    simp only [toD] at hp
    split at hp
    · rename_i ds h1
      cases hp
      cases q with
      | lst ys =>
        simp only [toD] at hq
        split at hq
        · rename_i es h2
          cases hq
          rw [toDs_inj xs ys _ h1 h2]
        · cases hq
      | tup ys => simp only [toD] at hq; split at hq <;> cases hq
      | _ => simp [toD] at hq
    · cases hp
  | .scr _, q, d, hp, _ => by simp [toD] at hp
  | .obj _ _, q, d, hp, _ => by simp [toD] at hp
  | .atm _, q, d, hp, _ => by simp [toD] at hp
theorem toDs_inj : ∀ (xs ys : List PV) (ds : List PyData), toDs xs = some ds → toDs ys = some ds → xs = ys
  | [], [], _, _, _ => rfl
  | [], y :: ys, ds, hp, hq => by
    simp only [toDs] at *
    cases hp
    split at hq
    · split at hq <;> cases hq
    · cases hq
  | x :: xs, [], ds, hp, hq => by
    simp only [toDs] at *
    cases hq
    split at hp
    · split at hp <;> cases hp
    · cases hp
  | x :: xs, y :: ys, ds, hp, hq => by
    simp only [toDs] at *
    split at hp
    · rename_i d1 h1
      split at hp
      · rename_i ds1 h2
        cases hp
        split at hq
        · rename_i d2 h3
          split at hq
          · rename_i ds2 h4
            cases hq
            rw [toD_inj x y _ h1 h3, toDs_inj xs ys _ h2 h4]
          · cases hq
        · cases hq
      · cases hp
    · cases hp
end
/-- plain data of depth n: no bools -/
def Pv (n : Nat) (p : PV) : Prop := ∃ d, toD p = some d ∧ d.canLay0 = true ∧ d.depth ≤ n ∧ nb d = true
theorem Pv.mono {m n : Nat} {p : PV} (h : Pv m p) (l : m ≤ n) : Pv n p := by
  obtain ⟨d, h1, h2, h3, h4⟩ := h
  exact ⟨d, h1, h2, Nat.le_trans h3 l, h4⟩
theorem Pv.int (n : Nat) (i : Int) : Pv n (.int i) := ⟨.int i, by simp [toD], by simp [PyData.canLay0], by simp [PyData.depth], by simp [nb]⟩
theorem Pv.non (n : Nat) : Pv n .non := ⟨.none, by simp [toD], by simp [PyData.canLay0], by simp [PyData.depth], by simp [nb]⟩
theorem Pv.str (n : Nat) (s : String) : Pv n (.str (Str.ofString s)) := ⟨.str (Str.ofString s), by simp [toD], by simpa [PyData.canLay0] using sok_of s, by simp [PyData.depth], by simp [nb]⟩
theorem Pvs {n : Nat} : ∀ {xs : List PV}, (∀ x ∈ xs, Pv n x) → ∃ ds, toDs xs = some ds ∧ PyData.canLayAll0 ds = true ∧ PyData.depthAll ds ≤ n ∧ nbs ds = true ∧ ds.length = xs.length
  | [], _ => ⟨[], by simp [toDs], by simp [PyData.canLayAll0], by simp [PyData.depthAll], by simp [nbs], rfl⟩
  | x :: xs, h => by
    obtain ⟨d, h1, h2, h3, h4⟩ := h x (by simp)
    obtain ⟨ds, k1, k2, k3, k4, k5⟩ := Pvs (xs := xs) fun y hy => h y (by simp [hy])
    refine ⟨d :: ds, ?_, ?_, ?_, ?_, by simp [k5]⟩
    · simp only [toDs, h1, k1]
    · simp only [PyData.canLayAll0, h2, k2]; rfl
    · simp only [PyData.depthAll]; omega
    · simp only [nbs, h4, k4]; rfl
theorem Pv.tup {n : Nat} {xs : List PV} (h : ∀ x ∈ xs, Pv n x) : Pv (n + 1) (.tup xs) := by
  obtain ⟨ds, k1, k2, k3, k4, _⟩ := Pvs h
  exact ⟨.tuple ds, by simp only [toD, k1], by simpa only [PyData.canLay0] using k2, by simp only [PyData.depth]; omega, by simpa only [nb] using k4⟩
theorem Pv.lst {n : Nat} {xs : List PV} (h : ∀ x ∈ xs, Pv n x) : Pv (n + 1) (.lst xs) := by
  obtain ⟨ds, k1, k2, k3, k4, _⟩ := Pvs h
  exact ⟨.list ds, by simp only [toD, k1], by simpa only [PyData.canLay0] using k2, by simp only [PyData.depth]; omega, by simpa only [nb] using k4⟩
theorem shaped_of {d : PyData} {n : Nat} (h1 : d.canLay0 = true) (h2 : d.depth ≤ n) (l : n ≤ 64) : SeqAt.shaped d = true := by
  unfold SeqAt.shaped
  rw [h1, decide_eq_true (Nat.le_trans h2 l)]; rfl
open Classical in
theorem peqB {m n : Nat} {p q : PV} (hp : Pv m p) (hq : Pv n q) (l : m ≤ 64) (l' : n ≤ 64) : pEqB p q = some (decide (p = q)) := by
  obtain ⟨d, h1, h2, h3, h4⟩ := hp
  obtain ⟨e, k1, k2, k3, k4⟩ := hq
  unfold pEqB
  rw [h1, k1]
  simp only [shaped_of h2 h3 l, shaped_of k2 k3 l', Bool.and_self, if_true]
  by_cases z : p = q
  · subst z
    rw [h1] at k1
    cases k1
    rw [decide_eq_true rfl]
    exact congrArg some (SeqAt.eqv_refl d h2)
  · rw [decide_eq_false z]
    refine congrArg some ?_
    cases hz : PyData.eqv d e with
    | false => rfl
    | true =>
      have := eqv_inj d e h4 k4 hz
      subst this
      exact absurd (toD_inj p q d h1 k1) z
theorem peq_t {n : Nat} {p : PV} (hp : Pv n p) (l : n ≤ 64 := by omega) : pEq p p = some (.bl true) := by
  unfold pEq; rw [peqB hp hp l l]; simp
theorem pne_t {n : Nat} {p : PV} (hp : Pv n p) (l : n ≤ 64 := by omega) : pNe p p = some (.bl false) := by
  unfold pNe; rw [peqB hp hp l l]; simp
theorem peq_f {m n : Nat} {p q : PV} (h : p ≠ q) (hp : Pv m p) (hq : Pv n q) (l : m ≤ 64 := by omega) (l' : n ≤ 64 := by omega) : pEq p q = some (.bl false) := by
  unfold pEq; rw [peqB hp hq l l']; simp [h]
theorem pne_f {m n : Nat} {p q : PV} (h : p ≠ q) (hp : Pv m p) (hq : Pv n q) (l : m ≤ 64 := by omega) (l' : n ≤ 64 := by omega) : pNe p q = some (.bl true) := by
  unfold pNe; rw [peqB hp hq l l']; simp [h]

/-! ### rational numbers -/
abbrev R2 (t b : Int) : PV := .tup [.int t, .int b]
def rq (r : Rat) : PV := R2 r.num (r.den : Int)
theorem Pv.rq {n : Nat} (r : Rat) : Pv (n + 1) (rq r) := Pv.tup fun x hx => by
  simp only [List.mem_cons, List.not_mem_nil, or_false] at hx
  rcases hx with rfl | rfl <;> exact Pv.int _ _
theorem rq_inj {r s : Rat} (h : rq r = rq s) : r = s := by
  unfold PL.rq at h
  simp only [PV.tup.injEq, List.cons.injEq, PV.int.injEq, and_true] at h
  exact Rat.ext h.1 (by have := h.2; omega)
theorem rat_of {t b : Int} (hb : 0 < b) (hg : Nat.gcd t.natAbs b.natAbs = 1) : R2 t b = rq (Rat.divInt t b) := by
  have hn : b.natAbs ≠ 0 := by omega
  have e := Rat.mk_eq_divInt (num := t) (den := b.natAbs) (nz := hn) (c := hg)
  have eb : ((b.natAbs : Nat) : Int) = b := by omega
  rw [eb] at e
  rw [← e]
  unfold PL.rq
  show R2 t b = R2 t ((b.natAbs : Nat) : Int)
  rw [eb]
theorem rd_rat {t b : Int} (hb : b ≠ 0) : rd t b = rq (Rat.divInt t b) := by
  have h1 := rd_t t b
  have h2 := rd_b t b
  have e : Rat.divInt t b = Rat.divInt (rt t b) (rb t b) := by
    rw [← Rat.divInt_mul_left (n := rt t b) (d := rb t b) (sg_ne (t := t) hb), h1, h2]
  rw [e]
  exact rat_of (rb_pos hb) (rd_gcd hb)
theorem rq_num (r : Rat) : Nat.gcd r.num.natAbs r.den = 1 := r.reduced
theorem den_pos (r : Rat) : (0 : Int) < (r.den : Int) := by have := r.den_nz; omega
theorem den_ne (r : Rat) : (r.den : Int) ≠ 0 := by have := r.den_nz; omega
/-- size -/
structure BQ (n : Nat) (r : Rat) : Prop where
  top : Bd n r.num
  bot : Bd n (r.den : Int)
theorem BQ.mono {m n : Nat} {r : Rat} (h : BQ m r) (l : m ≤ n) : BQ n r := ⟨h.top.mono l, h.bot.mono l⟩
theorem divInt_bd {n : Nat} {t b : Int} (hb : b ≠ 0) (h1 : Bd n t) (h2 : Bd n b) : BQ n (Rat.divInt t b) := by
  have e := rd_rat (t := t) hb
  unfold rd PL.rq at e
  simp only [PV.tup.injEq, List.cons.injEq, PV.int.injEq, and_true] at e
  constructor
  · rw [← e.1]; exact rt_bd hb h1
  · rw [← e.2]; exact rb_bd hb h2
theorem add_div (a b : Rat) : a + b = Rat.divInt (a.num * b.den + b.num * a.den) (a.den * b.den) := by
  have := Rat.divInt_add_divInt a.num b.num (den_ne a) (den_ne b)
  rwa [Rat.num_divInt_den, Rat.num_divInt_den] at this
theorem sub_div (a b : Rat) : a - b = Rat.divInt (a.num * b.den - b.num * a.den) (a.den * b.den) := by
  have := Rat.divInt_sub_divInt a.num b.num (den_ne a) (den_ne b)
  rwa [Rat.num_divInt_den, Rat.num_divInt_den] at this
theorem mul_div (a b : Rat) : a * b = Rat.divInt (a.num * b.num) (a.den * b.den) := by
  have := Rat.divInt_mul_divInt a.num b.num (d₁ := a.den) (d₂ := b.den)
  rwa [Rat.num_divInt_den, Rat.num_divInt_den] at this
theorem div_div (a b : Rat) : a / b = Rat.divInt (a.num * b.den) (a.den * b.num) := by
  rw [Rat.div_def]
  have e : b⁻¹ = Rat.divInt b.den b.num := by
    have := Rat.inv_divInt b.num b.den
    rwa [Rat.num_divInt_den] at this
  by_cases hb : b.num = 0
  · rw [e, hb]; simp
  · have := Rat.divInt_mul_divInt a.num b.den (d₁ := a.den) (d₂ := b.num)
    rw [Rat.num_divInt_den] at this
    rw [e, this]
theorem BQ.add {m n : Nat} {a b : Rat} (h : BQ m a) (k : BQ n b) : BQ (m + n + 1) (a + b) := by
  rw [add_div]
  refine divInt_bd (Int.mul_ne_zero (den_ne a) (den_ne b)) ?_ ((h.bot.mul k.bot).mono (by omega))
  exact (h.top.mul k.bot).add (by have := k.top.mul h.bot; rwa [Nat.add_comm] at this)
theorem BQ.sub {m n : Nat} {a b : Rat} (h : BQ m a) (k : BQ n b) : BQ (m + n + 1) (a - b) := by
  rw [sub_div]
  refine divInt_bd (Int.mul_ne_zero (den_ne a) (den_ne b)) ?_ ((h.bot.mul k.bot).mono (by omega))
  exact (h.top.mul k.bot).sub (by have := k.top.mul h.bot; rwa [Nat.add_comm] at this)
theorem BQ.mul {m n : Nat} {a b : Rat} (h : BQ m a) (k : BQ n b) : BQ (m + n) (a * b) := by
  rw [mul_div]
  exact divInt_bd (Int.mul_ne_zero (den_ne a) (den_ne b)) (h.top.mul k.top) (h.bot.mul k.bot)
theorem num_ne {b : Rat} (h : b ≠ 0) : b.num ≠ 0 := fun z => h (Rat.num_eq_zero.mp z)
theorem BQ.div {m n : Nat} {a b : Rat} (h : BQ m a) (k : BQ n b) (hb : b ≠ 0) : BQ (m + n) (a / b) := by
  rw [div_div]
  exact divInt_bd (Int.mul_ne_zero (den_ne a) (num_ne hb)) (h.top.mul k.bot) (h.bot.mul k.top)
theorem BQ.neg {m : Nat} {a : Rat} (h : BQ m a) : BQ m (-a) := ⟨by rw [Rat.neg_num]; exact h.top.neg, by rw [Rat.neg_den]; exact h.bot⟩
theorem BQ.zero {n : Nat} (h : 0 < n := by omega) : BQ n 0 := ⟨by show (0 : Int).natAbs < 2 ^ n; exact Nat.two_pow_pos n, by show (1 : Int).natAbs < 2 ^ n; exact Nat.one_lt_two_pow (by omega)⟩
theorem BQ.sum {m : Nat} : ∀ {l : List Rat}, (∀ q ∈ l, BQ m q) → BQ (1 + l.length * (m + 1)) l.sum
  | [], _ => BQ.zero
  | x :: l, h => by
    rw [List.sum_cons]
    have := (h x (by simp)).add (BQ.sum (l := l) fun q hq => h q (by simp [hq]))
    exact this.mono (by rw [List.length_cons, Nat.succ_mul]; omega)
end PL
end

section
set_option Elab.async false
set_option linter.all false
set_option maxRecDepth 100000
set_option maxHeartbeats 4000000
set_option autoImplicit false
set_option exponentiation.threshold 2000
/-! evaluation: tuples or lists taken apart, slices, comprehensions, lists that are changed, sums -/
namespace PL
open PySem PySem.Spec PyProof.Rows L2
local macro_rules | `(tactic| simp! [$l:simpLemma,*]) => `(tactic| simp (config := { decide := false, zeta := false }) only [ev_ok, ev_exc, ev_bad, ev_okS, ev_excS, ev_badS, ev_var, ev_v, ev_c, ev_op, ev_un, ev_some, ev_ct, ev_cf, ev_chain, ev_nil, ev_cons, ev_tup, ev_lst, ev_tru, ev_tsome, ev_bl, ev_no, goB_t, goB_f, ev_an, ev_oo, goT_s, ev_and, ev_or, ev_not, ev_if, ev_call, ev_fmt, ev_asg, ev_asgO, ev_asgG, ev_gN, ev_gsN, ev_gsC, ev_gTp, ev_par, ev_drop, ev_ret, ev_retO, ev_pass, ev_seq, goS_nx, goS_rt, goS_ro, goS_exc, goS_bk, goS_ct, ev_sif, ev_raise, ev_xf, ev_for, ev_while, ev_iseq, ev_iarg, ev_lsome, ev_callF, ev_callD, ev_call0, ev_callO, ev_bnil, ev_bval, ev_bown, ev_callE, goA_s, ev_callOE, goAO_s, goP_s, goF_ret, goF_exc, goFO_reo, goFO_exc, co_nil, co_val, co_own, co_go, co_map, pu_nil, pu_val, pu_own, oa_nil, oa_val, oa_own, ix_nil, ix_val, ix_own, ev_run, goO_s, gr_nx, gr_rt, gr_ro, gr_exc, ow_nil, ow_f, ow_t, sl_nil, sl_f, sl_t, rp_s, rp_0,
  isi_int_int, isi_int_bool, isi_int_tup, isi_int_lst, isi_int_str, isi_bl_int, isi_bl_bool, isi_bl_tup, isi_bl_lst, isi_bl_str, isi_tup_int, isi_tup_bool, isi_tup_tup, isi_tup_lst, isi_tup_str, isi_lst_int, isi_lst_bool, isi_lst_tup, isi_lst_lst, isi_lst_str, isi_str_int, isi_str_bool, isi_str_tup, isi_str_lst, isi_str_str, isi_non_int, isi_non_bool, isi_non_tup, isi_non_lst, isi_non_str,
  pt_bl, pt_int, pt_non, pt_tup, pt_lst, pc_ii, pa_ii, psb_ii, pn_i, pab_i, pi_i, pg_ii, pl_l, pl_t, pl_s, at_0, at_1, at_2, at_3, atl_0, atl_1, atl_2, atl_3,
  List.cons_append, List.nil_append, List.append_nil, List.map_cons, List.map_nil, List.length_cons, List.length_nil, List.getElem?_cons_zero, List.getElem?_cons_succ, List.set_cons_zero, List.set_cons_succ, Nat.reduceAdd, Nat.reduceSub, Nat.reduceLeDiff, Nat.zero_add, Nat.reduceEqDiff, Nat.reduceLT, ↓reduceIte, Int.cast_ofNat_Int, Int.natCast_zero, Int.natCast_one, Int.reduceEq, Int.reduceLT, Int.reduceLE, Int.reduceGT, eq_self, goF_ret, goR_ret, decide_true, decide_false, if_true, Bool.not_true, Bool.not_false, Bool.true_and, Bool.and_true, List.contains_nil, List.zip_cons_cons, List.zip_nil_left, List.reverse_cons, List.reverse_nil, $l,*])
theorem ev_gTLt (n : Nat) (gs : GsF) (xs : List PV) (ρ : PEnv) : gTL n gs (.tup xs) ρ = goB (decide (xs.length = n)) (gs xs ρ) none := rfl
theorem ev_gTLl (n : Nat) (gs : GsF) (xs : List PV) (ρ : PEnv) : gTL n gs (.lst xs) ρ = goB (decide (xs.length = n)) (gs xs ρ) none := rfl
theorem ev_sl (f : EF) (l h : OF) (ρ : PEnv) : eSl f l h ρ = (f ρ).bind fun p ρ1 => (l ρ1).bind fun lo ρ2 => (h ρ2).bind fun hi ρ3 => oRes (pSl p lo hi) ρ3 := rfl
theorem ev_oN (ρ : PEnv) : oN ρ = .ok none ρ := rfl
theorem ev_oS (f : EF) (ρ : PEnv) : oS f ρ = (f ρ).bind oI := rfl
theorem ev_oI (i : Int) (ρ : PEnv) : oI (.int i) ρ = .ok (some i) ρ := rfl
theorem psl_to {xs : List PV} {n : Nat} (h : n ≤ xs.length) : pSl (.lst xs) none (some (n : Int)) = some (.lst (xs.take n)) := by
  show some (PV.lst (cutP xs none (some (n : Int)))) = _
  unfold cutP
  rw [HT.sIx_nat, HT.sIx_none, Nat.min_eq_left h]
  simp
theorem psl_from {xs : List PV} {n : Nat} (h : n ≤ xs.length) : pSl (.lst xs) (some (n : Int)) none = some (.lst (xs.drop n)) := by
  show some (PV.lst (cutP xs (some (n : Int)) none)) = _
  unfold cutP
  rw [HT.sIx_nat, HT.sIx_none, Nat.min_eq_left h]
  rw [List.take_of_length_le (by simp)]
theorem pad_ll {xs ys : List PV} (h : xs.length + ys.length ≤ 100000) : pAddA (.lst xs) (.lst ys) = some (.lst (xs ++ ys)) := by
  show (if decide (xs.length + ys.length ≤ 100000) = true then some (PV.lst (xs ++ ys)) else none) = _
  rw [if_pos (decide_eq_true h)]
theorem pad_tt {xs ys : List PV} (h : xs.length + ys.length ≤ 100000) : pAddA (.tup xs) (.tup ys) = some (.tup (xs ++ ys)) := by
  show (if decide (xs.length + ys.length ≤ 100000) = true then some (PV.tup (xs ++ ys)) else none) = _
  rw [if_pos (decide_eq_true h)]
theorem plist_t (xs : List PV) : pList [.tup xs] = some (.lst xs) := rfl
theorem plist_l (xs : List PV) : pList [.lst xs] = some (.lst xs) := rfl
theorem ptup_t (xs : List PV) : pTuple [.tup xs] = some (.tup xs) := rfl
theorem ptup_l (xs : List PV) : pTuple [.lst xs] = some (.tup xs) := rfl
theorem penum_l (xs : List PV) : pEnum [.lst xs] = some (enumP xs) := rfl
theorem penum_t (xs : List PV) : pEnum [.tup xs] = some (enumP xs) := rfl
theorem rng1_i {n : Nat} (h : n ≤ 100000) : rng1 [.int (n : Int)] = some (intsP 0 n) := by
  show (if _ then _ else _) = _
  rw [if_pos (by first | exact decide_eq_true ⟨by omega, by omega⟩ | (simp; omega))]
  simp
def goM (s : Option Slot) (k : SRes) : SRes := match s with
  | some (.own (.lst _)) => k
  | _ => .bad
theorem ev_lenO (i : Nat) (ρ : PEnv) : eLenO i ρ = match ρ[i]? with
  | some (.own (.lst xs)) => .ok (.int xs.length) ρ
  | some (.v p) => oRes (pLen [p]) ρ
  | _ => .bad := rfl
theorem ev_inO (neg : Bool) (fa : EF) (i : Nat) (ρ : PEnv) : eInO neg fa i ρ = (fa ρ).bind fun p ρ1 => match ρ1[i]? with
  | some (.own (.lst xs)) => oRes (if neg = true then pNotIn p (.lst xs) else pIn p (.lst xs)) ρ1
  | some (.v q) => oRes (if neg = true then pNotIn p q else pIn p q) ρ1
  | _ => .bad := rfl
theorem ev_meth (i : Nat) (g : List PV → List PV → Option (List PV)) (fa : AF) (ρ : PEnv) : sMeth i g fa ρ = match ρ[i]? with
  | some (.own (.lst _)) => (fa ρ).bindS fun ps ρ1 => match ρ1[i]? with
    | some (.own (.lst xs)) => match g xs ps with
      | some ys => .nx (ρ1.set i (.own (.lst ys)))
      | none => .bad
    | _ => .bad
  | _ => .bad := rfl
theorem pins_i {xs : List PV} {n : Nat} {p : PV} (h : xs.length < 100000) (hn : n ≤ 100000) : pInsert xs [.int (n : Int), p] = some (xs.take n ++ [p] ++ xs.drop n) := by
  show (if decide (xs.length < 100000 ∧ 0 ≤ (n : Int) ∧ (n : Int) < 2 ^ 63) = true then some (xs.take (n : Int).toNat ++ [p] ++ xs.drop (n : Int).toNat) else none) = _
  rw [if_pos (decide_eq_true ⟨h, by omega, by omega⟩), Int.toNat_natCast]
theorem isiT_eval (ns : List String) (fa : EF) (ρ : PEnv) : eIsiT ns fa ρ = (fa ρ).bind fun p ρ1 => match tyName p with
  | some a => if (ns.all fun n => decide (n ∈ tyIs)) = true then .ok (.bl (ns.any fun n => isaT a n)) ρ1 else .bad
  | none => .bad := by
  unfold eIsiT; rfl

/-! ### comprehensions -/
theorem ev_lc (vs : List Nat) (fi : IF) (g : GF) (t : TF) (e : EF) (ρ : PEnv) : eLc vs fi g t e ρ = (fi ρ).bind fun ps ρ1 =>
  goB (noOwn ρ1 vs && decide (ps.length ≤ 100000)) (match lcL vs g t e ps (wipeE ρ1 vs) with
    | .ok ys ρ2 => .ok (.lst ys) (backE ρ2 ρ1 vs)
    | _ => .bad) .bad := rfl
theorem lc_map {α : Type} {vs : List Nat} {g : GF} {t : TF} {e : EF} {ρ : PEnv} (r f : α → PV) : ∀ (l : List α), (∀ x ∈ l, ∃ ρ1 ρ3, g (r x) ρ = some ρ1 ∧ t ρ1 = .ok true ρ1 ∧ e ρ1 = .ok (f x) ρ3 ∧ wipeE ρ3 vs = ρ) →
    lcL vs g t e (l.map r) ρ = .ok (l.map f) ρ
  | [], _ => rfl
  | x :: l, h => by
    obtain ⟨ρ1, ρ3, h1, h2, h3, h4⟩ := h x (by simp)
    have ih := lc_map (vs := vs) (g := g) (t := t) (e := e) (ρ := ρ) r f l fun y hy => h y (by simp [hy])
    simp only [List.map_cons, lcL, h1, h2, h3, h4, ih]
theorem lc_drop {α : Type} {vs : List Nat} {g : GF} {t : TF} {e : EF} {ρ : PEnv} (r : α → PV) : ∀ (l : List α), (∀ x ∈ l, ∃ ρ1 ρ2, g (r x) ρ = some ρ1 ∧ t ρ1 = .ok false ρ2 ∧ wipeE ρ2 vs = ρ) →
    lcL vs g t e (l.map r) ρ = .ok [] ρ
  | [], _ => rfl
  | x :: l, h => by
    obtain ⟨ρ1, ρ2, h1, h2, h4⟩ := h x (by simp)
    have ih := lc_drop (vs := vs) (g := g) (t := t) (e := e) (ρ := ρ) r l fun y hy => h y (by simp [hy])
    simp only [List.map_cons, lcL, h1, h2, h4, ih]

/-! ### loops -/
theorem ev_fl0 (g : GF) (body : SF) (ρ : PEnv) : forL g body [] ρ = .nx ρ := rfl
def goL (r : SRes) (g : GF) (body : SF) (ps : List PV) : SRes := match r with
  | .nx ρ => forL g body ps ρ
  | .ct ρ => forL g body ps ρ
  | .bk ρ => .nx ρ
  | r => r
theorem goL_nx (ρ : PEnv) (g : GF) (body : SF) (ps : List PV) : goL (.nx ρ) g body ps = forL g body ps ρ := rfl
theorem goL_rt (p : PV) (ρ : PEnv) (g : GF) (body : SF) (ps : List PV) : goL (.rt p ρ) g body ps = .rt p ρ := rfl
theorem goL_exc (c : Str) (fs : List (Str × PV)) (ρ : PEnv) (g : GF) (body : SF) (ps : List PV) : goL (.exc c fs ρ) g body ps = .exc c fs ρ := rfl
def goG (o : Option PEnv) (body : SF) (g : GF) (ps : List PV) : SRes := match o with
  | some ρ => goL (body ρ) g body ps
  | none => .bad
theorem goG_s (ρ : PEnv) (body : SF) (g : GF) (ps : List PV) : goG (some ρ) body g ps = goL (body ρ) g body ps := rfl
theorem ev_flc (g : GF) (body : SF) (p : PV) (ps : List PV) (ρ : PEnv) : forL g body (p :: ps) ρ = goG (g p ρ) body g ps := by
  show (match g p ρ with | none => _ | some ρ1 => _) = _
  cases g p ρ with
  | none => rfl
  | some ρ1 =>
    show _ = goL (body ρ1) g body ps
    cases h : body ρ1 <;> simp only [h, goL]
theorem goL_cg {r r' : SRes} (g : GF) (body : SF) (ps : List PV) (h : r = r') : goL r g body ps = goL r' g body ps := by rw [h]
theorem sum_gen {F : FF} (hF : ∀ (a b : Rat) (m n : Nat), BQ m a → BQ n b → m + n ≤ 8999 → F [rq a, rq b] = .ret (rq (a + b)) []) {m : Nat} (X : Slot) : ∀ (l : List Rat) (k : Nat) (acc : Rat) (s : Slot), (∀ q ∈ l, BQ m q) → BQ k acc → k + l.length * (m + 1) ≤ 8000 →
    ∃ s', forL (gN 2) (sAsg 1 (eCallF [false, false] F (bVal (eVar 1) (bVal (eVar 2) (bNil))))) (l.map rq) [X, .v (rq acc), s] = .nx [X, .v (rq (acc + l.sum)), s']
  | [], k, acc, s, _, _, _ => ⟨s, by rw [List.map_nil, ev_fl0, List.sum_nil, Rat.add_zero]⟩
  | q :: l, k, acc, s, h, hk, hl => by
    rw [List.length_cons, Nat.succ_mul] at hl
    have hq := h q (by simp)
    have e := hF acc q k m hk hq (by omega)
    obtain ⟨s', hs⟩ := sum_gen hF X l (k + m + 1) (acc + q) (.v (rq q)) (fun x hx => h x (by simp [hx])) (hk.add hq) (by omega)
    refine ⟨s', ?_⟩
    rw [List.map_cons, ev_flc, List.sum_cons, ← Rat.add_assoc]
    simp! [goG_s]
    rw [show F [rq acc, rq q] = _ from e]
    simp! [goL_nx]
    exact hs
end PL
namespace PL
open PySem PySem.Spec PyProof.Rows L2
local macro_rules | `(tactic| simp! [$l:simpLemma,*]) => `(tactic| simp (config := { decide := false, zeta := false }) only [ev_ok, ev_exc, ev_bad, ev_okS, ev_excS, ev_badS, ev_var, ev_v, ev_c, ev_op, ev_un, ev_some, ev_ct, ev_cf, ev_chain, ev_nil, ev_cons, ev_tup, ev_lst, ev_tru, ev_tsome, ev_bl, ev_no, goB_t, goB_f, ev_an, ev_oo, goT_s, ev_and, ev_or, ev_not, ev_if, ev_call, ev_fmt, ev_asg, ev_asgO, ev_asgG, ev_gN, ev_gsN, ev_gsC, ev_gTp, ev_par, ev_drop, ev_ret, ev_retO, ev_pass, ev_seq, goS_nx, goS_rt, goS_ro, goS_exc, goS_bk, goS_ct, ev_sif, ev_raise, ev_xf, ev_for, ev_while, ev_iseq, ev_iarg, ev_lsome, ev_callF, ev_callD, ev_call0, ev_callO, ev_bnil, ev_bval, ev_bown, ev_callE, goA_s, ev_callOE, goAO_s, goP_s, goF_ret, goF_exc, goFO_reo, goFO_exc, co_nil, co_val, co_own, co_go, co_map, pu_nil, pu_val, pu_own, oa_nil, oa_val, oa_own, ix_nil, ix_val, ix_own, ev_run, goO_s, gr_nx, gr_rt, gr_ro, gr_exc, ow_nil, ow_f, ow_t, sl_nil, sl_f, sl_t, rp_s, rp_0,
  isi_int_int, isi_int_bool, isi_int_tup, isi_int_lst, isi_int_str, isi_bl_int, isi_bl_bool, isi_bl_tup, isi_bl_lst, isi_bl_str, isi_tup_int, isi_tup_bool, isi_tup_tup, isi_tup_lst, isi_tup_str, isi_lst_int, isi_lst_bool, isi_lst_tup, isi_lst_lst, isi_lst_str, isi_str_int, isi_str_bool, isi_str_tup, isi_str_lst, isi_str_str, isi_non_int, isi_non_bool, isi_non_tup, isi_non_lst, isi_non_str,
  pt_bl, pt_int, pt_non, pt_tup, pt_lst, pc_ii, pa_ii, psb_ii, pn_i, pab_i, pi_i, pg_ii, pl_l, pl_t, pl_s, at_0, at_1, at_2, at_3, atl_0, atl_1, atl_2, atl_3,
  List.cons_append, List.nil_append, List.append_nil, List.map_cons, List.map_nil, List.length_cons, List.length_nil, List.getElem?_cons_zero, List.getElem?_cons_succ, List.set_cons_zero, List.set_cons_succ, Nat.reduceAdd, Nat.reduceSub, Nat.reduceLeDiff, Nat.zero_add, Nat.reduceEqDiff, Nat.reduceLT, ↓reduceIte, Int.cast_ofNat_Int, Int.natCast_zero, Int.natCast_one, Int.reduceEq, Int.reduceLT, Int.reduceLE, Int.reduceGT, eq_self, goF_ret, goR_ret, decide_true, decide_false, if_true, Bool.not_true, Bool.not_false, Bool.true_and, Bool.and_true, List.contains_nil, List.zip_cons_cons, List.zip_nil_left, List.reverse_cons, List.reverse_nil, $l,*])
/-! small ratios -/
structure Small (r : Rat) : Prop where
  top : r.num.natAbs ≤ 1000000000000
  bot : (r.den : Int) ≤ 1000000000000
theorem Small.bq {r : Rat} (h : Small r) : BQ 40 r := by
  have h1 := h.top
  have h2 := h.bot
  have e : (2 : Nat) ^ 40 = 1099511627776 := by decide
  constructor
  · show r.num.natAbs < 2 ^ 40; omega
  · show ((r.den : Nat) : Int).natAbs < 2 ^ 40; omega
theorem small_div {t b : Int} (hb : 0 < b) (h1 : t.natAbs ≤ 1000000000000) (h2 : b ≤ 1000000000000) : Small (Rat.divInt t b) := by
  have hb' : b ≠ 0 := by omega
  have e := rd_rat (t := t) hb'
  unfold rd PL.rq at e
  simp only [PV.tup.injEq, List.cons.injEq, PV.int.injEq, and_true] at e
  have l1 := rt_le (t := t) hb'
  have l2 := rb_le (t := t) hb'
  constructor
  · rw [← e.1]; omega
  · have := rb_pos (t := t) hb'; rw [← e.2]; omega
theorem divInt_pos {t b : Int} (h : 0 < t) (hb : 0 < b) : 0 < Rat.divInt t b := by
  rw [Rat.lt_iff]
  have hb' : b ≠ 0 := by omega
  have e := rd_rat (t := t) hb'
  unfold rd PL.rq at e
  simp only [PV.tup.injEq, List.cons.injEq, PV.int.injEq, and_true] at e
  have h1 := rd_t t b
  have hs : 0 < sg t b := by
    unfold sg
    rw [if_neg (by omega)]
    have := Nat.gcd_pos_of_pos_left b.natAbs (m := t.natAbs) (by omega)
    omega
  show (0 : Int) * _ < (Rat.divInt t b).num * (1 : Int)
  rw [← e.1]
  have : 0 < rt t b := by
    rcases Int.lt_trichotomy (rt t b) 0 with z | z | z
    · have := Int.mul_neg_of_pos_of_neg hs z; omega
    · rw [z] at h1; omega
    · exact z
  omega
theorem rat_pos {r : Rat} (h : 0 < r) : 0 < r.num := by
  rw [Rat.lt_iff] at h
  have : (0 : Int) * _ < r.num * (1 : Int) := h
  omega
theorem rat_nn {r : Rat} (h : 0 ≤ r) : 0 ≤ r.num := by
  rw [Rat.le_iff] at h
  have : (0 : Int) * _ ≤ r.num * (1 : Int) := h
  omega
theorem R2_01 : R2 0 1 = rq 0 := rfl
theorem R2_i1 (i : Int) : R2 i 1 = rq (i : Rat) := rfl
theorem small_int {i : Int} (h : i.natAbs ≤ 1000000000000) : Small (i : Rat) := ⟨h, by show (1 : Int) ≤ _; omega⟩
end PL
namespace PL
open PySem PySem.Spec PyProof.Rows L2
local macro_rules | `(tactic| simp! [$l:simpLemma,*]) => `(tactic| simp (config := { decide := false, zeta := false }) only [ev_ok, ev_exc, ev_bad, ev_okS, ev_excS, ev_badS, ev_var, ev_v, ev_c, ev_op, ev_un, ev_some, ev_ct, ev_cf, ev_chain, ev_nil, ev_cons, ev_tup, ev_lst, ev_tru, ev_tsome, ev_bl, ev_no, goB_t, goB_f, ev_an, ev_oo, goT_s, ev_and, ev_or, ev_not, ev_if, ev_call, ev_fmt, ev_asg, ev_asgO, ev_asgG, ev_gN, ev_gsN, ev_gsC, ev_gTp, ev_par, ev_drop, ev_ret, ev_retO, ev_pass, ev_seq, goS_nx, goS_rt, goS_ro, goS_exc, goS_bk, goS_ct, ev_sif, ev_raise, ev_xf, ev_for, ev_while, ev_iseq, ev_iarg, ev_lsome, ev_callF, ev_callD, ev_call0, ev_callO, ev_bnil, ev_bval, ev_bown, ev_callE, goA_s, ev_callOE, goAO_s, goP_s, goF_ret, goF_exc, goFO_reo, goFO_exc, co_nil, co_val, co_own, co_go, co_map, pu_nil, pu_val, pu_own, oa_nil, oa_val, oa_own, ix_nil, ix_val, ix_own, ev_run, goO_s, gr_nx, gr_rt, gr_ro, gr_exc, ow_nil, ow_f, ow_t, sl_nil, sl_f, sl_t, rp_s, rp_0,
  isi_int_int, isi_int_bool, isi_int_tup, isi_int_lst, isi_int_str, isi_bl_int, isi_bl_bool, isi_bl_tup, isi_bl_lst, isi_bl_str, isi_tup_int, isi_tup_bool, isi_tup_tup, isi_tup_lst, isi_tup_str, isi_lst_int, isi_lst_bool, isi_lst_tup, isi_lst_lst, isi_lst_str, isi_str_int, isi_str_bool, isi_str_tup, isi_str_lst, isi_str_str, isi_non_int, isi_non_bool, isi_non_tup, isi_non_lst, isi_non_str,
  pt_bl, pt_int, pt_non, pt_tup, pt_lst, pc_ii, pa_ii, psb_ii, pn_i, pab_i, pi_i, pg_ii, pl_l, pl_t, pl_s, at_0, at_1, at_2, at_3, atl_0, atl_1, atl_2, atl_3,
  List.cons_append, List.nil_append, List.append_nil, List.map_cons, List.map_nil, List.length_cons, List.length_nil, List.getElem?_cons_zero, List.getElem?_cons_succ, List.set_cons_zero, List.set_cons_succ, Nat.reduceAdd, Nat.reduceSub, Nat.reduceLeDiff, Nat.zero_add, Nat.reduceEqDiff, Nat.reduceLT, ↓reduceIte, Int.cast_ofNat_Int, Int.natCast_zero, Int.natCast_one, Int.reduceEq, Int.reduceLT, Int.reduceLE, Int.reduceGT, eq_self, goF_ret, goR_ret, decide_true, decide_false, if_true, Bool.not_true, Bool.not_false, Bool.true_and, Bool.and_true, List.contains_nil, List.zip_cons_cons, List.zip_nil_left, List.reverse_cons, List.reverse_nil, $l,*])
/-! list or tuple -/
def goIs (p : PV) (ρ : PEnv) : ERes PV := match p with
  | .lst _ => .ok (.bl true) ρ
  | .tup _ => .ok (.bl true) ρ
  | .non => .ok (.bl false) ρ
  | .bl _ => .ok (.bl false) ρ
  | .int _ => .ok (.bl false) ρ
  | .str _ => .ok (.bl false) ρ
  | _ => .bad
theorem isi_all : (["list", "tuple"].all fun n => decide (n ∈ tyIs)) = true := by decide +kernel
theorem ev_isLT (fa : EF) (ρ : PEnv) : eIsiT ["list", "tuple"] fa ρ = (fa ρ).bind goIs := by
  rw [isiT_eval]
  congr 1
  funext p ρ1
  simp only [isi_all, if_true]
  cases p <;> rfl
theorem gi_l (xs : List PV) (ρ : PEnv) : goIs (.lst xs) ρ = .ok (.bl true) ρ := rfl
theorem gi_t (xs : List PV) (ρ : PEnv) : goIs (.tup xs) ρ = .ok (.bl true) ρ := rfl
theorem gi_n (ρ : PEnv) : goIs .non ρ = .ok (.bl false) ρ := rfl
theorem gi_b (b : Bool) (ρ : PEnv) : goIs (.bl b) ρ = .ok (.bl false) ρ := rfl
theorem gi_i (i : Int) (ρ : PEnv) : goIs (.int i) ρ = .ok (.bl false) ρ := rfl
theorem gi_s (s : Str) (ρ : PEnv) : goIs (.str s) ρ = .ok (.bl false) ρ := rfl
/-- a tuple or a list -/
def seqP : Bool → List PV → PV
  | true, xs => .tup xs
  | false, xs => .lst xs
/-- neither -/
def noSeq : PV → Bool
  | .non => true
  | .bl _ => true
  | .int _ => true
  | .str _ => true
  | _ => false
theorem gi_no {p : PV} (h : noSeq p = true) (ρ : PEnv) : goIs p ρ = .ok (.bl false) ρ := by cases p <;> first | rfl | cases h
theorem gi_sq (k : Bool) (xs : List PV) (ρ : PEnv) : goIs (seqP k xs) ρ = .ok (.bl true) ρ := by cases k <;> rfl
theorem len_sq (k : Bool) (xs : List PV) : pLen [seqP k xs] = some (.int xs.length) := by cases k <;> rfl
theorem tup_sq (k : Bool) (xs : List PV) : pTuple [seqP k xs] = some (.tup xs) := by cases k <;> rfl
theorem ix0_sq (k : Bool) (xs : List PV) : pIx (seqP k xs) (.int 0) = xs[0]? := by cases k <;> exact atI_nat xs 0
theorem ix1_sq (k : Bool) (xs : List PV) : pIx (seqP k xs) (.int 1) = xs[1]? := by cases k <;> exact atI_nat xs 1
theorem gTL_sq (n : Nat) (gs : GsF) (k : Bool) (xs : List PV) (ρ : PEnv) : gTL n gs (seqP k xs) ρ = goB (decide (xs.length = n)) (gs xs ρ) none := by cases k <;> rfl
theorem enum_sq (k : Bool) (xs : List PV) : pEnum [seqP k xs] = some (enumP xs) := by cases k <;> rfl
def goQ (p : PV) (ρ : PEnv) : ERes (List PV) := match p with
  | .lst xs => .ok xs ρ
  | .tup xs => .ok xs ρ
  | .scr xs => .ok xs ρ
  | _ => .bad
theorem ev_itq (f : EF) (ρ : PEnv) : iSeq f ρ = (f ρ).bind goQ := rfl
theorem gq_sq (k : Bool) (xs : List PV) (ρ : PEnv) : goQ (seqP k xs) ρ = .ok xs ρ := by cases k <;> rfl
theorem gq_l (xs : List PV) (ρ : PEnv) : goQ (.lst xs) ρ = .ok xs ρ := rfl
theorem gq_t (xs : List PV) (ρ : PEnv) : goQ (.tup xs) ρ = .ok xs ρ := rfl
/-! enumerate, from a number on -/
def enumFrom : Int → List PV → List PV
  | _, [] => []
  | i, p :: ps => .tup [.int i, p] :: enumFrom (i + 1) ps
theorem enumFrom_get : ∀ (ps : List PV) (i : Int) (n : Nat), (enumFrom i ps)[n]? = ps[n]?.map fun p => .tup [.int (i + (n : Int)), p]
  | [], _, n => by simp [enumFrom]
  | p :: ps, i, 0 => by simp [enumFrom]
  | p :: ps, i, n + 1 => by
    simp only [enumFrom, List.getElem?_cons_succ, enumFrom_get ps (i + 1) n]
    have e : i + 1 + (n : Int) = i + ((n + 1 : Nat) : Int) := by omega
    rw [e]
theorem enumP_from (ps : List PV) : enumP ps = enumFrom 0 ps := by
  apply List.ext_getElem?
  intro n
  rw [enumFrom_get]
  cases h : ps[n]? with
  | none =>
    have := List.getElem?_eq_none_iff.mp h
    rw [List.getElem?_eq_none (by rw [enumP_len]; exact this)]; rfl
  | some p =>
    rw [enumP_get h]
    simp
theorem ev_tryS (i : Nat) (m : Str → Option Bool) (body : SF) (suite : List (Str × PV) → SF) (ρ : PEnv) : sTry i m body suite ρ = match body ρ with
  | .exc c fs ρ1 => match m c with
    | some true => goB (decide (i < ρ1.length)) (noSlot i (suite fs (ρ1.set i .no))) .bad
    | some false => .exc c fs ρ1
    | none => .bad
  | r => r := rfl
end PL
namespace PL
open PySem PySem.Spec PyProof.Rows L2
local macro_rules | `(tactic| simp! [$l:simpLemma,*]) => `(tactic| simp (config := { decide := false, zeta := false }) only [ev_ok, ev_exc, ev_bad, ev_okS, ev_excS, ev_badS, ev_var, ev_v, ev_c, ev_op, ev_un, ev_some, ev_ct, ev_cf, ev_chain, ev_nil, ev_cons, ev_tup, ev_lst, ev_tru, ev_tsome, ev_bl, ev_no, goB_t, goB_f, ev_an, ev_oo, goT_s, ev_and, ev_or, ev_not, ev_if, ev_call, ev_fmt, ev_asg, ev_asgO, ev_asgG, ev_gN, ev_gsN, ev_gsC, ev_gTp, ev_par, ev_drop, ev_ret, ev_retO, ev_pass, ev_seq, goS_nx, goS_rt, goS_ro, goS_exc, goS_bk, goS_ct, ev_sif, ev_raise, ev_xf, ev_for, ev_while, ev_iseq, ev_iarg, ev_lsome, ev_callF, ev_callD, ev_call0, ev_callO, ev_bnil, ev_bval, ev_bown, ev_callE, goA_s, ev_callOE, goAO_s, goP_s, goF_ret, goF_exc, goFO_reo, goFO_exc, co_nil, co_val, co_own, co_go, co_map, pu_nil, pu_val, pu_own, oa_nil, oa_val, oa_own, ix_nil, ix_val, ix_own, ev_run, goO_s, gr_nx, gr_rt, gr_ro, gr_exc, ow_nil, ow_f, ow_t, sl_nil, sl_f, sl_t, rp_s, rp_0,
  isi_int_int, isi_int_bool, isi_int_tup, isi_int_lst, isi_int_str, isi_bl_int, isi_bl_bool, isi_bl_tup, isi_bl_lst, isi_bl_str, isi_tup_int, isi_tup_bool, isi_tup_tup, isi_tup_lst, isi_tup_str, isi_lst_int, isi_lst_bool, isi_lst_tup, isi_lst_lst, isi_lst_str, isi_str_int, isi_str_bool, isi_str_tup, isi_str_lst, isi_str_str, isi_non_int, isi_non_bool, isi_non_tup, isi_non_lst, isi_non_str,
  pt_bl, pt_int, pt_non, pt_tup, pt_lst, pc_ii, pa_ii, psb_ii, pn_i, pab_i, pi_i, pg_ii, pl_l, pl_t, pl_s, at_0, at_1, at_2, at_3, atl_0, atl_1, atl_2, atl_3,
  List.cons_append, List.nil_append, List.append_nil, List.map_cons, List.map_nil, List.length_cons, List.length_nil, List.getElem?_cons_zero, List.getElem?_cons_succ, List.set_cons_zero, List.set_cons_succ, Nat.reduceAdd, Nat.reduceSub, Nat.reduceLeDiff, Nat.zero_add, Nat.reduceEqDiff, Nat.reduceLT, ↓reduceIte, Int.cast_ofNat_Int, Int.natCast_zero, Int.natCast_one, Int.reduceEq, Int.reduceLT, Int.reduceLE, Int.reduceGT, eq_self, goF_ret, goR_ret, decide_true, decide_false, if_true, Bool.not_true, Bool.not_false, Bool.true_and, Bool.and_true, List.contains_nil, List.zip_cons_cons, List.zip_nil_left, List.reverse_cons, List.reverse_nil, $l,*])
theorem peq_rq (a b : Rat) : pEq (rq a) (rq b) = some (.bl (decide (a = b))) := by
  by_cases h : a = b
  · rw [h, peq_t (Pv.rq (n := 0) b), decide_eq_true rfl]
  · rw [peq_f (fun z => h (rq_inj z)) (Pv.rq (n := 0) a) (Pv.rq (n := 0) b), decide_eq_false h]
theorem pne_rq (a b : Rat) : pNe (rq a) (rq b) = some (.bl (!decide (a = b))) := by
  by_cases h : a = b
  · rw [h, pne_t (Pv.rq (n := 0) b), decide_eq_true rfl]; rfl
  · rw [pne_f (fun z => h (rq_inj z)) (Pv.rq (n := 0) a) (Pv.rq (n := 0) b), decide_eq_false h]; rfl
end PL
namespace PL
open PySem PySem.Spec PyProof.Rows L2
local macro_rules | `(tactic| simp! [$l:simpLemma,*]) => `(tactic| simp (config := { decide := false, zeta := false }) only [ev_ok, ev_exc, ev_bad, ev_okS, ev_excS, ev_badS, ev_var, ev_v, ev_c, ev_op, ev_un, ev_some, ev_ct, ev_cf, ev_chain, ev_nil, ev_cons, ev_tup, ev_lst, ev_tru, ev_tsome, ev_bl, ev_no, goB_t, goB_f, ev_an, ev_oo, goT_s, ev_and, ev_or, ev_not, ev_if, ev_call, ev_fmt, ev_asg, ev_asgO, ev_asgG, ev_gN, ev_gsN, ev_gsC, ev_gTp, ev_par, ev_drop, ev_ret, ev_retO, ev_pass, ev_seq, goS_nx, goS_rt, goS_ro, goS_exc, goS_bk, goS_ct, ev_sif, ev_raise, ev_xf, ev_for, ev_while, ev_iseq, ev_iarg, ev_lsome, ev_callF, ev_callD, ev_call0, ev_callO, ev_bnil, ev_bval, ev_bown, ev_callE, goA_s, ev_callOE, goAO_s, goP_s, goF_ret, goF_exc, goFO_reo, goFO_exc, co_nil, co_val, co_own, co_go, co_map, pu_nil, pu_val, pu_own, oa_nil, oa_val, oa_own, ix_nil, ix_val, ix_own, ev_run, goO_s, gr_nx, gr_rt, gr_ro, gr_exc, ow_nil, ow_f, ow_t, sl_nil, sl_f, sl_t, rp_s, rp_0,
  isi_int_int, isi_int_bool, isi_int_tup, isi_int_lst, isi_int_str, isi_bl_int, isi_bl_bool, isi_bl_tup, isi_bl_lst, isi_bl_str, isi_tup_int, isi_tup_bool, isi_tup_tup, isi_tup_lst, isi_tup_str, isi_lst_int, isi_lst_bool, isi_lst_tup, isi_lst_lst, isi_lst_str, isi_str_int, isi_str_bool, isi_str_tup, isi_str_lst, isi_str_str, isi_non_int, isi_non_bool, isi_non_tup, isi_non_lst, isi_non_str,
  pt_bl, pt_int, pt_non, pt_tup, pt_lst, pc_ii, pa_ii, psb_ii, pn_i, pab_i, pi_i, pg_ii, pl_l, pl_t, pl_s, at_0, at_1, at_2, at_3, atl_0, atl_1, atl_2, atl_3,
  List.cons_append, List.nil_append, List.append_nil, List.map_cons, List.map_nil, List.length_cons, List.length_nil, List.getElem?_cons_zero, List.getElem?_cons_succ, List.set_cons_zero, List.set_cons_succ, Nat.reduceAdd, Nat.reduceSub, Nat.reduceLeDiff, Nat.zero_add, Nat.reduceEqDiff, Nat.reduceLT, ↓reduceIte, Int.cast_ofNat_Int, Int.natCast_zero, Int.natCast_one, Int.reduceEq, Int.reduceLT, Int.reduceLE, Int.reduceGT, eq_self, goF_ret, goR_ret, decide_true, decide_false, if_true, Bool.not_true, Bool.not_false, Bool.true_and, Bool.and_true, List.contains_nil, List.zip_cons_cons, List.zip_nil_left, List.reverse_cons, List.reverse_nil, $l,*])
theorem intsP_cons (i : Int) (n : Nat) : intsP i (n + 1) = .int i :: intsP (i + 1) n := by
  unfold intsP
  rw [List.range_succ_eq_map, List.map_cons, List.map_map]
  congr 1
  · simp
  · apply List.map_congr_left
    intro k _
    show PV.int (i + ((k + 1 : Nat) : Int)) = PV.int (i + 1 + (k : Int))
    congr 1
    omega
end PL
end

section
set_option Elab.async false
set_option linter.all false
set_option maxRecDepth 100000
set_option maxHeartbeats 4000000
set_option autoImplicit false
set_option exponentiation.threshold 2000
/-! repr of lists and tuples of whole numbers -/
namespace PL
open PySem PySem.Spec PyProof.Rows L2
theorem sok_join (sep : Str) (hs : PyData.strOk sep = true) : ∀ ts : List Str, (∀ t ∈ ts, PyData.strOk t = true) → PyData.strOk (Str.join sep ts) = true
  | [], _ => by
    show PyData.strOk Str.empty = true
    decide +kernel
  | [x], h => h x (by simp)
  | x :: y :: r, h => by
    show PyData.strOk (x ++ sep ++ Str.join sep (y :: r)) = true
    exact sok_app (sok_app (h x (by simp)) hs) (sok_join sep hs (y :: r) fun t ht => h t (by simp at ht ⊢; exact .inr ht))
/-- data that can be shown: depth n, at most b parts -/
structure Shd (n b : Nat) (d : PyData) : Prop where
  sh : d.showable = true
  nd : d.hasDict = false
  dp : d.depth ≤ n
  lv : d.leavesShort 20 = true
  bk : d.bulk ≤ b
  ok : PyData.strOk d.shown = true
theorem Shd.int (i : Int) (h : i.natAbs ≤ 10 ^ 18) : Shd 0 0 (.int i) := by
  have hl : i.natAbs.log2 < 1920 := by
    by_cases z : i.natAbs = 0
    · rw [z]; decide
    · rw [Nat.log2_lt z]
      refine Nat.lt_of_le_of_lt h ?_
      decide
  refine ⟨by simpa [PyData.showable] using hl, by simp [PyData.hasDict], by simp [PyData.depth], ?_, by simp [PyData.bulk], ?_⟩
  · simp only [PyData.leavesShort, decide_eq_true_eq, PyData.shown_int]
    have := int_len (i := i) (k := 19) (by decide) (by have : (10 : Nat) ^ 18 < 10 ^ 19 := by decide
                                                       omega)
    exact this
  · rw [PyData.shown_int]; exact sok_of _
structure Shs (n b : Nat) (ds : List PyData) : Prop where
  sh : PyData.showableAll ds = true
  nd : PyData.hasDictAll ds = false
  dp : PyData.depthAll ds ≤ n
  lv : PyData.leavesShortAll 20 ds = true
  bk : PyData.bulkAll ds ≤ ds.length * (b + 1)
  ok : ∀ t ∈ PyData.shownAll ds, PyData.strOk t = true
theorem Shs.of {n b : Nat} : ∀ {ds : List PyData}, (∀ d ∈ ds, Shd n b d) → Shs n b ds
  | [], _ => ⟨by simp [PyData.showableAll], by simp [PyData.hasDictAll], by simp [PyData.depthAll], by simp [PyData.leavesShortAll], by simp [PyData.bulkAll], by simp [PyData.shownAll]⟩
  | d :: ds, h => by
    have hd := h d (by simp)
    have ih := Shs.of (ds := ds) fun x hx => h x (by simp [hx])
    refine ⟨by simp [PyData.showableAll, hd.sh, ih.sh], by simp [PyData.hasDictAll, hd.nd, ih.nd], ?_, by simp [PyData.leavesShortAll, hd.lv, ih.lv], ?_, fun t ht => ?_⟩
    · simp only [PyData.depthAll]; have := hd.dp; have := ih.dp; omega
    · simp only [PyData.bulkAll, List.length_cons, Nat.succ_mul]; have := hd.bk; have := ih.bk; omega
    · simp only [PyData.shownAll, List.mem_cons] at ht
      rcases ht with rfl | ht
      · exact hd.ok
      · exact ih.ok t ht
theorem sok_s (s : String) : PyData.strOk (Str.ofString s) = true := sok_of s
theorem Shd.lst {n b k : Nat} {ds : List PyData} (h : ∀ d ∈ ds, Shd n b d) (hk : ds.length * (b + 1) ≤ k) : Shd (n + 1) k (.list ds) := by
  have S := Shs.of h
  refine ⟨by simpa [PyData.showable] using S.sh, by simpa [PyData.hasDict] using S.nd, by simp only [PyData.depth]; have := S.dp; omega, by simpa [PyData.leavesShort] using S.lv, by simp only [PyData.bulk]; have := S.bk; omega, ?_⟩
  rw [PyData.shown_list]
  exact sok_app (sok_app (sok_s _) (sok_join _ (sok_s _) _ S.ok)) (sok_s _)
theorem Shd.tup {n b k : Nat} {ds : List PyData} (h : ∀ d ∈ ds, Shd n b d) (hk : ds.length * (b + 1) ≤ k) : Shd (n + 1) k (.tuple ds) := by
  have S := Shs.of h
  refine ⟨by simpa [PyData.showable] using S.sh, by simpa [PyData.hasDict] using S.nd, by simp only [PyData.depth]; have := S.dp; omega, by simpa [PyData.leavesShort] using S.lv, by simp only [PyData.bulk]; have := S.bk; omega, ?_⟩
  rw [PyData.shown_tuple]
  refine sok_app (sok_app (sok_s _) (sok_join _ (sok_s _) _ S.ok)) ?_
  split <;> exact sok_s _
/-- a value of such data -/
def Sh (n b : Nat) (p : PV) : Prop := ∃ d, toD p = some d ∧ Shd n b d
theorem Shd.mono {n b n' b' : Nat} {d : PyData} (h : Shd n b d) (l : n ≤ n') (l' : b ≤ b') : Shd n' b' d := ⟨h.sh, h.nd, Nat.le_trans h.dp l, h.lv, Nat.le_trans h.bk l', h.ok⟩
theorem Sh.mono {n b n' b' : Nat} {p : PV} (h : Sh n b p) (l : n ≤ n') (l' : b ≤ b') : Sh n' b' p := by
  obtain ⟨d, h1, h2⟩ := h
  exact ⟨d, h1, h2.mono l l'⟩
theorem Sh.int {i : Int} (h : i.natAbs ≤ 10 ^ 18) : Sh 0 0 (.int i) := ⟨.int i, by simp [toD], Shd.int i h⟩
theorem Sh.all {n b : Nat} : ∀ {xs : List PV}, (∀ x ∈ xs, Sh n b x) → ∃ ds, toDs xs = some ds ∧ (∀ d ∈ ds, Shd n b d) ∧ ds.length = xs.length
  | [], _ => ⟨[], by simp [toDs], by simp, rfl⟩
  | x :: xs, h => by
    obtain ⟨d, h1, h2⟩ := h x (by simp)
    obtain ⟨ds, k1, k2, k3⟩ := Sh.all (xs := xs) fun y hy => h y (by simp [hy])
    refine ⟨d :: ds, by simp only [toDs, h1, k1], fun e he => ?_, by simp [k3]⟩
    rcases List.mem_cons.mp he with rfl | he
    · exact h2
    · exact k2 e he
theorem Sh.lst {n b k : Nat} {xs : List PV} (h : ∀ x ∈ xs, Sh n b x) (hk : xs.length * (b + 1) ≤ k) : Sh (n + 1) k (.lst xs) := by
  obtain ⟨ds, k1, k2, k3⟩ := Sh.all h
  exact ⟨.list ds, by simp only [toD, k1], Shd.lst k2 (by rw [k3]; exact hk)⟩
theorem Sh.tup {n b k : Nat} {xs : List PV} (h : ∀ x ∈ xs, Sh n b x) (hk : xs.length * (b + 1) ≤ k) : Sh (n + 1) k (.tup xs) := by
  obtain ⟨ds, k1, k2, k3⟩ := Sh.all h
  exact ⟨.tuple ds, by simp only [toD, k1], Shd.tup k2 (by rw [k3]; exact hk)⟩
theorem Sh.rq {r : Rat} (h : Small r) : Sh 1 2 (rq r) := Sh.tup (b := 0) (fun x hx => by
  have h1 := h.top
  have h2 := h.bot
  have e : (10 : Nat) ^ 18 = 1000000000000000000 := by decide
  simp only [List.mem_cons, List.not_mem_nil, or_false] at hx
  rcases hx with rfl | rfl
  · exact Sh.int (by omega)
  · exact Sh.int (by omega)) (by simp)
theorem repr_ev {n b : Nat} {xs : List PV} (h : Sh n b (.lst xs)) (hn : n ≤ 60) (hb : b ≤ 4000) : ∃ S, pRepr [.lst xs] = some (.str S) ∧ PyData.strOk S = true := by
  obtain ⟨d, h1, h2⟩ := h
  refine ⟨d.shown, ?_, h2.ok⟩
  have hl := PyData.shown_le_bulk 20 (by decide) d h2.lv
  have hb2 := h2.bk
  have hd := h2.dp
  have e : showOk d = true := by
    unfold showOk
    rw [h2.sh, h2.nd, decide_eq_true (by omega : d.shown.length ≤ 100000), decide_eq_true (by omega : d.depth ≤ 60)]; rfl
  unfold pRepr
  simp only [h1, e, if_true]
end PL
end

section
set_option Elab.async false
set_option linter.all false
set_option maxRecDepth 100000
set_option maxHeartbeats 4000000
set_option autoImplicit false
set_option exponentiation.threshold 2000
namespace K07
open PySem PySem.Spec PyProof.Rows L2 PL
local macro_rules | `(tactic| simp! [$l:simpLemma,*]) => `(tactic| simp (config := { decide := false, zeta := false }) only [ev_ok, ev_exc, ev_bad, ev_okS, ev_excS, ev_badS, ev_var, ev_v, ev_c, ev_op, ev_un, ev_some, ev_ct, ev_cf, ev_chain, ev_nil, ev_cons, ev_tup, ev_lst, ev_tru, ev_tsome, ev_bl, ev_no, goB_t, goB_f, ev_an, ev_oo, goT_s, ev_and, ev_or, ev_not, ev_if, ev_call, ev_fmt, ev_asg, ev_asgO, ev_asgG, ev_gN, ev_gsN, ev_gsC, ev_gTp, ev_par, ev_drop, ev_ret, ev_retO, ev_pass, ev_seq, goS_nx, goS_rt, goS_ro, goS_exc, goS_bk, goS_ct, ev_sif, ev_raise, ev_xf, ev_for, ev_while, ev_iseq, ev_iarg, ev_lsome, ev_callF, ev_callD, ev_call0, ev_callO, ev_bnil, ev_bval, ev_bown, ev_callE, goA_s, ev_callOE, goAO_s, goP_s, goF_ret, goF_exc, goFO_reo, goFO_exc, co_nil, co_val, co_own, co_go, co_map, pu_nil, pu_val, pu_own, oa_nil, oa_val, oa_own, ix_nil, ix_val, ix_own, ev_run, goO_s, gr_nx, gr_rt, gr_ro, gr_exc, ow_nil, ow_f, ow_t, sl_nil, sl_f, sl_t, rp_s, rp_0,
  isi_int_int, isi_int_bool, isi_int_tup, isi_int_lst, isi_int_str, isi_bl_int, isi_bl_bool, isi_bl_tup, isi_bl_lst, isi_bl_str, isi_tup_int, isi_tup_bool, isi_tup_tup, isi_tup_lst, isi_tup_str, isi_lst_int, isi_lst_bool, isi_lst_tup, isi_lst_lst, isi_lst_str, isi_str_int, isi_str_bool, isi_str_tup, isi_str_lst, isi_str_str, isi_non_int, isi_non_bool, isi_non_tup, isi_non_lst, isi_non_str,
  pt_bl, pt_int, pt_non, pt_tup, pt_lst, pc_ii, pa_ii, psb_ii, pn_i, pab_i, pi_i, pg_ii, pl_l, pl_t, pl_s, at_0, at_1, at_2, at_3, atl_0, atl_1, atl_2, atl_3,
  List.cons_append, List.nil_append, List.append_nil, List.map_cons, List.map_nil, List.length_cons, List.length_nil, List.getElem?_cons_zero, List.getElem?_cons_succ, List.set_cons_zero, List.set_cons_succ, Nat.reduceAdd, Nat.reduceSub, Nat.reduceLeDiff, Nat.zero_add, Nat.reduceEqDiff, Nat.reduceLT, ↓reduceIte, Int.cast_ofNat_Int, Int.natCast_zero, Int.natCast_one, Int.reduceEq, Int.reduceLT, Int.reduceLE, Int.reduceGT, eq_self, goF_ret, goR_ret, decide_true, decide_false, if_true, Bool.not_true, Bool.not_false, Bool.true_and, Bool.and_true, List.contains_nil, List.zip_cons_cons, List.zip_nil_left, List.reverse_cons, List.reverse_nil, $l,*])
theorem whole_0 (i : Int) : F_is_whole [.int i, .non, .non] = .ret (.bl true) [] := by
  unfold F_is_whole B_is_whole
  simp! [pIs, PL.isNon]
theorem whole_lo (i j : Int) : F_is_whole [.int i, .int j, .non] = .ret (.bl (decide (j ≤ i))) [] := by
  unfold F_is_whole B_is_whole
  by_cases h : j ≤ i
  · simp! [pIs, PL.isNon, h]
  · simp! [pIs, PL.isNon, h]
theorem whole_lh (i j k : Int) : F_is_whole [.int i, .int j, .int k] = .ret (.bl (decide (j ≤ i) && decide (i ≤ k))) [] := by
  unfold F_is_whole B_is_whole
  by_cases h : j ≤ i
  · simp! [pIs, PL.isNon, h]
  · simp! [pIs, PL.isNon, h, Bool.false_and]
theorem whole_bl (b : Bool) (x y : PV) : F_is_whole [.bl b, x, y] = .ret (.bl false) [] := by
  unfold F_is_whole B_is_whole
  simp! []
theorem whole_tup (b : List PV) (x y : PV) : F_is_whole [.tup b, x, y] = .ret (.bl false) [] := by
  unfold F_is_whole B_is_whole
  simp! []
theorem whole_lst (b : List PV) (x y : PV) : F_is_whole [.lst b, x, y] = .ret (.bl false) [] := by
  unfold F_is_whole B_is_whole
  simp! []
theorem whole_str (b : Str) (x y : PV) : F_is_whole [.str b, x, y] = .ret (.bl false) [] := by
  unfold F_is_whole B_is_whole
  simp! []
theorem whole_non (x y : PV) : F_is_whole [.non, x, y] = .ret (.bl false) [] := by
  unfold F_is_whole B_is_whole
  simp! []
def isr (t b : Int) : Bool := decide (1 ≤ b) && decide (Nat.gcd t.natAbs b.natAbs = 1)
theorem isr_pair (t b : Int) : F_is_ratio [.tup [.int t, .int b]] = .ret (.bl (isr t b)) [] := by
  unfold F_is_ratio B_is_ratio isr
  by_cases h : 1 ≤ b
  · simp! [pne_ii, pe_ii, whole_0, whole_lo, h, goR_ret, ev_gTLt]
    congr 2
    exact decide_eq_decide.mpr (by omega)
  · simp! [pne_ii, pe_ii, whole_0, whole_lo, h, goR_ret, ev_gTLt, Bool.false_and]
theorem isr_rat (r : Rat) : isr r.num r.den = true := by
  unfold isr
  have h1 := den_pos r
  have h2 := rq_num r
  rw [Bool.and_eq_true]
  refine ⟨decide_eq_true (by omega), decide_eq_true ?_⟩
  rw [Int.natAbs_natCast]; exact h2
theorem isr_rq (r : Rat) : F_is_ratio [rq r] = .ret (.bl true) [] := by
  show F_is_ratio [.tup [.int r.num, .int r.den]] = _
  rw [isr_pair, isr_rat]
theorem isr_len (l : List PV) (h : l.length ≠ 2) : F_is_ratio [.tup l] = .ret (.bl false) [] := by
  unfold F_is_ratio B_is_ratio
  have : decide ((l.length : Int) = 2) = false := decide_eq_false (by omega)
  simp! [pne_ii, this]
theorem isr_lst (l : List PV) : F_is_ratio [.lst l] = .ret (.bl false) [] := by
  unfold F_is_ratio B_is_ratio
  simp! []
theorem isr_int (i : Int) : F_is_ratio [.int i] = .ret (.bl false) [] := by
  unfold F_is_ratio B_is_ratio
  simp! []
theorem isr_bl (i : Bool) : F_is_ratio [.bl i] = .ret (.bl false) [] := by
  unfold F_is_ratio B_is_ratio
  simp! []
theorem isr_str (i : Str) : F_is_ratio [.str i] = .ret (.bl false) [] := by
  unfold F_is_ratio B_is_ratio
  simp! []
theorem isr_non : F_is_ratio [.non] = .ret (.bl false) [] := by
  unfold F_is_ratio B_is_ratio
  simp! []
theorem within_ev (t b m : Int) : F_is_within_bound [R2 t b, .int m] = .ret (.bl (isr t b && (decide ((t.natAbs : Int) ≤ m) && decide (b ≤ m)))) [] := by
  unfold F_is_within_bound B_is_within_bound
  by_cases h : isr t b = true
  · by_cases h2 : (t.natAbs : Int) ≤ m
    · simp! [isr_pair, h, h2]
    · simp! [isr_pair, h, h2, Bool.false_and]
  · simp only [Bool.not_eq_true] at h
    simp! [isr_pair, h, Bool.false_and]
theorem within_no {p : PV} (m : Int) (h : F_is_ratio [p] = .ret (.bl false) []) : F_is_within_bound [p, .int m] = .ret (.bl false) [] := by
  unfold F_is_within_bound B_is_within_bound
  simp! [h]
theorem coord_ev (t b : Int) : F_is_coordinate [R2 t b] = .ret (.bl (isr t b && (decide ((t.natAbs : Int) ≤ 1000000000000) && decide (b ≤ 1000000000000)))) [] := by
  unfold F_is_coordinate B_is_coordinate
  simp! [within_ev]
theorem coord_no {p : PV} (h : F_is_ratio [p] = .ret (.bl false) []) : F_is_coordinate [p] = .ret (.bl false) [] := by
  unfold F_is_coordinate B_is_coordinate
  simp! [within_no _ h]
theorem coord_rq {r : Rat} (h : Small r) : F_is_coordinate [rq r] = .ret (.bl true) [] := by
  have h1 := h.top
  have h2 := h.bot
  show F_is_coordinate [R2 r.num r.den] = _
  rw [coord_ev, isr_rat, decide_eq_true (by omega : ((r.num.natAbs : Nat) : Int) ≤ 1000000000000), decide_eq_true h2]; rfl
theorem weight_ev (t b : Int) : F_is_weight [R2 t b] = .ret (.bl (isr t b && (decide ((t.natAbs : Int) ≤ 1000000000000) && decide (b ≤ 1000000000000)) && decide (0 ≤ t))) [] := by
  unfold F_is_weight B_is_weight
  cases h : (isr t b && (decide ((t.natAbs : Int) ≤ 1000000000000) && decide (b ≤ 1000000000000)))
  · simp! [coord_ev, h, Bool.false_and]
  · simp! [coord_ev, h]
theorem weight_no {p : PV} (h : F_is_ratio [p] = .ret (.bl false) []) : F_is_weight [p] = .ret (.bl false) [] := by
  unfold F_is_weight B_is_weight
  simp! [coord_no h]
theorem weight_rq {r : Rat} (h : Small r) (h0 : 0 ≤ r) : F_is_weight [rq r] = .ret (.bl true) [] := by
  have h1 := h.top
  have h2 := h.bot
  have h3 := rat_nn h0
  show F_is_weight [R2 r.num r.den] = _
  rw [weight_ev, isr_rat, decide_eq_true (by omega : ((r.num.natAbs : Nat) : Int) ≤ 1000000000000), decide_eq_true h2, decide_eq_true h3]; rfl
theorem low_ev {t b : Int} (h : b ≠ 0) (hb : Bd 8999 b) : F__in_lowest_terms [.int t, .int b] = .ret (rq (Rat.divInt t b)) [] := by
  rw [← rd_rat h]
  unfold F__in_lowest_terms B__in_lowest_terms
  have hs := sg_ne (t := t) h
  have hd := pd_bd hs (sg_bd (t := t) h hb) (i := t)
  have hd2 := pd_bd hs (sg_bd (t := t) h hb) (i := b)
  by_cases c : b < 0
  · have e : sg t b = -((Nat.gcd t.natAbs b.natAbs : Nat) : Int) := if_pos c
    rw [e] at hd hd2
    simp! [c, hd, hd2]
    unfold rd rt rb
    rw [e]
  · have e : sg t b = ((Nat.gcd t.natAbs b.natAbs : Nat) : Int) := if_neg c
    rw [e] at hd hd2
    simp! [c, hd, hd2]
    unfold rd rt rb
    rw [e]
theorem ev_wl (t : TF) (body : SF) (n : Nat) (ρ : PEnv) : whileL t body (n + 1) ρ = (t ρ).bindS fun b ρ1 => goB b (match body ρ1 with
      | .nx ρ2 => whileL t body n ρ2
      | .ct ρ2 => whileL t body n ρ2
      | .bk ρ2 => .nx ρ2
      | r => r) (.nx ρ1) := rfl
theorem gcd_loop : ∀ (n : Nat) (a b : Nat), b < n → whileL (tTru (eVar 1)) (sPar 0 1 (aCons (eVar 1) (aCons (eOp pMod (eCall pInt (aCons (eVar 0) (aNil))) (eVar 1)) (aNil)))) n [.v (.int a), .v (.int b)] = .nx [.v (.int (Nat.gcd a b : Nat)), .v (.int 0)]
  | 0, a, b, h => by omega
  | n + 1, a, b, h => by
    rw [ev_wl]
    by_cases hb : b = 0
    · subst hb
      simp! [Nat.gcd_zero_right]
      rfl
    · have hm : pMod (.int (a : Int)) (.int (b : Int)) = some (.int ((a % b : Nat) : Int)) := by
        rw [pmo_ii (by omega), Int.fmod_eq_emod_of_nonneg _ (by omega)]
        rfl
      have ht : ((b : Int) != 0) = true := by simp [hb]
      simp! [ht, hm]
      rw [gcd_loop n b (a % b) (by have := Nat.mod_lt a (Nat.pos_of_ne_zero hb); omega)]
      congr 5
      rw [Nat.gcd_comm b, ← Nat.gcd_rec, Nat.gcd_comm]
theorem gcd_ev (a b : Int) : F__law_gcd [.int a, .int b] = .ret (.int ((Nat.gcd a.natAbs b.natAbs : Nat) : Int)) [] := by
  unfold F__law_gcd B__law_gcd
  simp! []
  rw [gcd_loop _ _ _ (by simp)]
  simp! []
theorem lrat_ev {t b : Int} (h : b ≠ 0) (hb : Bd 8999 b) : F__law_ratio [.int t, .int b] = .ret (rq (Rat.divInt t b)) [] := by
  rw [← rd_rat h]
  unfold F__law_ratio B__law_ratio
  have hs := sg_ne (t := t) h
  have hd := pd_bd hs (sg_bd (t := t) h hb) (i := t)
  have hd2 := pd_bd hs (sg_bd (t := t) h hb) (i := b)
  by_cases c : b < 0
  · have e : sg t b = -((Nat.gcd t.natAbs b.natAbs : Nat) : Int) := if_pos c
    rw [e] at hd hd2
    simp! [c, hd, hd2, gcd_ev]
    unfold rd rt rb
    rw [e]
  · have e : sg t b = ((Nat.gcd t.natAbs b.natAbs : Nat) : Int) := if_neg c
    rw [e] at hd hd2
    simp! [c, hd, hd2, gcd_ev]
    unfold rd rt rb
    rw [e]
theorem plus_ev {a b c d : Int} {m n : Nat} (hb : b ≠ 0) (hd : d ≠ 0) (h1 : Bd m a) (h2 : Bd m b) (h3 : Bd n c) (h4 : Bd n d) (l : m + n ≤ 8999) : F_plus [R2 a b, R2 c d] = .ret (rq (Rat.divInt (a * d + c * b) (b * d))) [] := by
  unfold F_plus B_plus
  have e1 := pm_bd h1 h4
  have e2 := pm_bd h3 h2
  have e3 := pm_bd h2 h4
  have e4 := low_ev (t := a * d + c * b) (b := b * d) (Int.mul_ne_zero hb hd) ((h2.mul h4).mono (by omega))
  generalize rq (Rat.divInt (a * d + c * b) (b * d)) = z at e4 ⊢
  simp! [e1, e2, e3, e4]
theorem plus_rq {a b : Rat} {m n : Nat} (h : BQ m a) (k : BQ n b) (l : m + n ≤ 8999) : F_plus [rq a, rq b] = .ret (rq (a + b)) [] := by
  have e := plus_ev (den_ne a) (den_ne b) h.top h.bot k.top k.bot l
  rw [← add_div] at e
  exact e
theorem times_ev {a b c d : Int} {m n : Nat} (hb : b ≠ 0) (hd : d ≠ 0) (h1 : Bd m a) (h2 : Bd m b) (h3 : Bd n c) (h4 : Bd n d) (l : m + n ≤ 8999) : F_times [R2 a b, R2 c d] = .ret (rq (Rat.divInt (a * c) (b * d))) [] := by
  unfold F_times B_times
  have e1 := pm_bd h1 h3
  have e3 := pm_bd h2 h4
  have e4 := low_ev (t := a * c) (b := b * d) (Int.mul_ne_zero hb hd) ((h2.mul h4).mono (by omega))
  generalize rq (Rat.divInt (a * c) (b * d)) = z at e4 ⊢
  simp! [e1, e3, e4]
theorem times_rq {a b : Rat} {m n : Nat} (h : BQ m a) (k : BQ n b) (l : m + n ≤ 8999) : F_times [rq a, rq b] = .ret (rq (a * b)) [] := by
  have e := times_ev (den_ne a) (den_ne b) h.top h.bot k.top k.bot l
  rw [← mul_div] at e
  exact e
theorem over_ev {a b c d : Int} {m n : Nat} (hb : b ≠ 0) (hd : c ≠ 0) (h1 : Bd m a) (h2 : Bd m b) (h3 : Bd n c) (h4 : Bd n d) (l : m + n ≤ 8999) : F_over [R2 a b, R2 c d] = .ret (rq (Rat.divInt (a * d) (b * c))) [] := by
  unfold F_over B_over
  have e1 := pm_bd h1 h4
  have e3 := pm_bd h2 h3
  have e4 := low_ev (t := a * d) (b := b * c) (Int.mul_ne_zero hb hd) ((h2.mul h3).mono (by omega))
  generalize rq (Rat.divInt (a * d) (b * c)) = z at e4 ⊢
  simp! [e1, e3, e4, pe_ii, hd]
theorem over_rq {a b : Rat} {m n : Nat} (h : BQ m a) (k : BQ n b) (hb : b ≠ 0) (l : m + n ≤ 8999) : F_over [rq a, rq b] = .ret (rq (a / b)) [] := by
  have e := over_ev (den_ne a) (num_ne hb) h.top h.bot k.top k.bot l
  rw [← div_div] at e
  exact e
theorem lplus_ev {a b c d : Int} {m n : Nat} (hb : b ≠ 0) (hd : d ≠ 0) (h1 : Bd m a) (h2 : Bd m b) (h3 : Bd n c) (h4 : Bd n d) (l : m + n ≤ 8999) : F__law_plus [R2 a b, R2 c d] = .ret (rq (Rat.divInt (a * d + c * b) (b * d))) [] := by
  unfold F__law_plus B__law_plus
  have e1 := pm_bd h1 h4
  have e2 := pm_bd h3 h2
  have e3 := pm_bd h2 h4
  have e4 := lrat_ev (t := a * d + c * b) (b := b * d) (Int.mul_ne_zero hb hd) ((h2.mul h4).mono (by omega))
  generalize rq (Rat.divInt (a * d + c * b) (b * d)) = z at e4 ⊢
  simp! [e1, e2, e3, e4]
theorem lplus_rq {a b : Rat} {m n : Nat} (h : BQ m a) (k : BQ n b) (l : m + n ≤ 8999) : F__law_plus [rq a, rq b] = .ret (rq (a + b)) [] := by
  have e := lplus_ev (den_ne a) (den_ne b) h.top h.bot k.top k.bot l
  rw [← add_div] at e
  exact e
theorem ltimes_ev {a b c d : Int} {m n : Nat} (hb : b ≠ 0) (hd : d ≠ 0) (h1 : Bd m a) (h2 : Bd m b) (h3 : Bd n c) (h4 : Bd n d) (l : m + n ≤ 8999) : F__law_times [R2 a b, R2 c d] = .ret (rq (Rat.divInt (a * c) (b * d))) [] := by
  unfold F__law_times B__law_times
  have e1 := pm_bd h1 h3
  have e3 := pm_bd h2 h4
  have e4 := lrat_ev (t := a * c) (b := b * d) (Int.mul_ne_zero hb hd) ((h2.mul h4).mono (by omega))
  generalize rq (Rat.divInt (a * c) (b * d)) = z at e4 ⊢
  simp! [e1, e3, e4]
theorem ltimes_rq {a b : Rat} {m n : Nat} (h : BQ m a) (k : BQ n b) (l : m + n ≤ 8999) : F__law_times [rq a, rq b] = .ret (rq (a * b)) [] := by
  have e := ltimes_ev (den_ne a) (den_ne b) h.top h.bot k.top k.bot l
  rw [← mul_div] at e
  exact e
theorem lover_ev {a b c d : Int} {m n : Nat} (hb : b ≠ 0) (hd : c ≠ 0) (h1 : Bd m a) (h2 : Bd m b) (h3 : Bd n c) (h4 : Bd n d) (l : m + n ≤ 8999) : F__law_over [R2 a b, R2 c d] = .ret (rq (Rat.divInt (a * d) (b * c))) [] := by
  unfold F__law_over B__law_over
  have e1 := pm_bd h1 h4
  have e3 := pm_bd h2 h3
  have e4 := lrat_ev (t := a * d) (b := b * c) (Int.mul_ne_zero hb hd) ((h2.mul h3).mono (by omega))
  generalize rq (Rat.divInt (a * d) (b * c)) = z at e4 ⊢
  simp! [e1, e3, e4]
theorem lover_rq {a b : Rat} {m n : Nat} (h : BQ m a) (k : BQ n b) (hb : b ≠ 0) (l : m + n ≤ 8999) : F__law_over [rq a, rq b] = .ret (rq (a / b)) [] := by
  have e := lover_ev (den_ne a) (num_ne hb) h.top h.bot k.top k.bot l
  rw [← div_div] at e
  exact e
theorem over_z (a b d : Int) : F_over [R2 a b, R2 0 d] = .exc "BadRatio" [("what", .str "zero")] [] := by
  unfold F_over B_over
  simp! [pe_ii]
  rfl
theorem over_zero (a : Rat) : F_over [rq a, rq 0] = .exc "BadRatio" [("what", .str "zero")] [] := over_z _ _ _
theorem sum_l {m : Nat} {l : List Rat} (h : ∀ q ∈ l, BQ m q) (hk : 1 + l.length * (m + 1) ≤ 8000) : F_sum_of [.lst (l.map rq)] = .ret (rq l.sum) [] := by
  unfold F_sum_of B_sum_of
  obtain ⟨s', e⟩ := sum_gen (F := F_plus) (fun a b m n h k l => plus_rq h k l) (.v (.lst (l.map rq))) l 1 0 .no h BQ.zero hk
  rw [Rat.zero_add] at e
  simp! []
  rw [show PV.tup [.int 0, .int 1] = rq 0 from rfl, e]
  simp! []
theorem sum_t {m : Nat} {l : List Rat} (h : ∀ q ∈ l, BQ m q) (hk : 1 + l.length * (m + 1) ≤ 8000) : F_sum_of [.tup (l.map rq)] = .ret (rq l.sum) [] := by
  unfold F_sum_of B_sum_of
  obtain ⟨s', e⟩ := sum_gen (F := F_plus) (fun a b m n h k l => plus_rq h k l) (.v (.tup (l.map rq))) l 1 0 .no h BQ.zero hk
  rw [Rat.zero_add] at e
  simp! []
  rw [show PV.tup [.int 0, .int 1] = rq 0 from rfl, e]
  simp! []
theorem lsum_l {m : Nat} {l : List Rat} (h : ∀ q ∈ l, BQ m q) (hk : 1 + l.length * (m + 1) ≤ 8000) : F__law_sum [.lst (l.map rq)] = .ret (rq l.sum) [] := by
  unfold F__law_sum B__law_sum
  obtain ⟨s', e⟩ := sum_gen (F := F__law_plus) (fun a b m n h k l => lplus_rq h k l) (.v (.lst (l.map rq))) l 1 0 .no h BQ.zero hk
  rw [Rat.zero_add] at e
  simp! []
  rw [show PV.tup [.int 0, .int 1] = rq 0 from rfl, e]
  simp! []
theorem lsum_t {m : Nat} {l : List Rat} (h : ∀ q ∈ l, BQ m q) (hk : 1 + l.length * (m + 1) ≤ 8000) : F__law_sum [.tup (l.map rq)] = .ret (rq l.sum) [] := by
  unfold F__law_sum B__law_sum
  obtain ⟨s', e⟩ := sum_gen (F := F__law_plus) (fun a b m n h k l => lplus_rq h k l) (.v (.tup (l.map rq))) l 1 0 .no h BQ.zero hk
  rw [Rat.zero_add] at e
  simp! []
  rw [show PV.tup [.int 0, .int 1] = rq 0 from rfl, e]
  simp! []
def HandP (cs : List Int) (p r t : Int) : PV := .lst [.lst (cs.map PV.int), .int p, .int r, .int t]
def Hand (o : PV) : Prop := ∃ cs p r t, 0 ≤ p ∧ o = HandP cs p r t
theorem pm_r {i j : Int} (h : -(2 ^ 64) < j ∧ j < 2 ^ 64) : pMul (.int i) (.int j) = some (.int (i * j)) := by
  show (if (decide ((-(2 ^ 64) < i ∧ i < 2 ^ 64) ∨ (-(2 ^ 64) < j ∧ j < 2 ^ 64)) || decide (i.natAbs.log2 + j.natAbs.log2 < 1000000)) = true then some (PV.int (i * j)) else none) = _
  rw [if_pos (by rw [Bool.or_eq_true]; exact .inl (decide_eq_true (.inr h)))]
theorem pm_l {i j : Int} (h : -(2 ^ 64) < i ∧ i < 2 ^ 64) : pMul (.int i) (.int j) = some (.int (i * j)) := by
  show (if (decide ((-(2 ^ 64) < i ∧ i < 2 ^ 64) ∨ (-(2 ^ 64) < j ∧ j < 2 ^ 64)) || decide (i.natAbs.log2 + j.natAbs.log2 < 1000000)) = true then some (PV.int (i * j)) else none) = _
  rw [if_pos (by rw [Bool.or_eq_true]; exact .inl (decide_eq_true (.inl h)))]
theorem mixed_ev (a b : Int) : ∃ r, F__law_mixed [.int a, .int b] = .ret (.int r) [] := by
  unfold F__law_mixed B__law_mixed
  have m1 := pm_r (i := a) (j := 69621) (by decide)
  have m2 := pm_r (i := b) (j := 7907) (by decide)
  have d1 : pMod (.int (a * 69621 + b * 7907 + 40503)) (.int 2147483647) = _ := pmo_ii (by decide)
  generalize ho : (a * 69621 + b * 7907 + 40503).fmod 2147483647 = o at d1
  have o1 : -(2 ^ 64) < o ∧ o < 2 ^ 64 := by
    have h1 := Int.fmod_nonneg_of_pos (a * 69621 + b * 7907 + 40503) (show (0 : Int) < 2147483647 by decide)
    have h2 := Int.fmod_lt_of_pos (a * 69621 + b * 7907 + 40503) (show (0 : Int) < 2147483647 by decide)
    omega
  have m3 := pm_r (i := o) (j := o) o1
  have m4 := pm_r (i := b) (j := 104723) (by decide)
  have v1 : pDiv (.int o) (.int 131) = _ := pd_bd (m := 10) (by decide) (by unfold Bd; decide)
  have d2 : pMod (.int (o * o + b * 104723 + o.fdiv 131)) (.int 2147483629) = _ := pmo_ii (by decide)
  generalize (o * o + b * 104723 + o.fdiv 131).fmod 2147483629 = u at d2
  have m5 := pm_r (i := u) (j := 48271) (by decide)
  have v2 : pDiv (.int o) (.int 7) = _ := pd_bd (m := 10) (by decide) (by unfold Bd; decide)
  have d3 : pMod (.int (u * 48271 + o.fdiv 7)) (.int 2147483579) = _ := pmo_ii (by decide)
  generalize (u * 48271 + o.fdiv 7).fmod 2147483579 = x at d3
  have v3 : pDiv (.int x) (.int 32) = _ := pd_bd (m := 10) (by decide) (by unfold Bd; decide)
  refine ⟨x.fdiv 32, ?_⟩
  simp! [m1, m2, m3, m4, m5, d1, d2, d3, v1, v2, v3]
theorem ev_ixS (i : Nat) (fb : EF) (ρ : PEnv) : eIxS i fb ρ = match ρ[i]? with
  | some (.own _) => (fb ρ).bind fun q ρ1 => match ρ1[i]? with
    | some (.own (.lst xs)) => oRes (pIx (.lst xs) q) ρ1
    | _ => .bad
  | some (.v p) => (fb ρ).bind fun q ρ1 => oRes (pIx p q) ρ1
  | _ => .bad := by
  unfold eIxS eIxO
  cases ρ[i]? with
  | none => rfl
  | some s => cases s <;> rfl
theorem ev_setI (i : Nat) (fe fi : EF) (ρ : PEnv) : sSetI i fe fi ρ = (fe ρ).bindS fun p ρ1 => match ρ1[i]? with
  | some (.own _) => (fi ρ1).bindS fun q ρ2 => match ρ2[i]?, q with
    | some (.own (.lst xs)), .int k => match ixN xs.length k with
      | some j => .nx (ρ2.set i (.own (.lst (xs.set j p))))
      | none => .bad
    | _, _ => .bad
  | _ => .bad := rfl
theorem ix4_1 : ixN 4 1 = some 1 := by decide
theorem ix4_2 : ixN 4 2 = some 2 := by decide
theorem ix4_3 : ixN 4 3 = some 3 := by decide
theorem p1018 : pPow (.int 10) (.int 18) = some (.int 1000000000000000000) := by kernel_rfl
theorem at_cell {cs : List Int} {p : Int} (h0 : 0 ≤ p) (h : p < cs.length) : ∃ c, pIx (.lst (cs.map PV.int)) (.int p) = some (.int c) := by
  obtain ⟨n, rfl⟩ := Int.eq_ofNat_of_zero_le h0
  refine ⟨cs[n]'(by omega), ?_⟩
  show atI (cs.map PV.int) (n : Int) = _
  rw [PL.atI_nat]
  simp [List.getElem?_eq_getElem (show n < cs.length by omega)]
abbrev P2 : SF := (sSeq (sIf (tBl (eOp (pCmp fun i j => decide (j < i)) (eIxS 0 (eC (.int 2))) (eC (.int 0)))) (sSeq (sAsg 3 (eIxS 0 (eC (.int 2)))) (sSeq (sSetI 0 (eOp pDiv (eCall pInt (aCons (eVar 3) (aNil))) (eVar 1)) (eC (.int 2))) (sRet (eOp pMod (eCall pInt (aCons (eVar 3) (aNil))) (eVar 1))))) (sPass)) (sSeq (sSetI 0 (eOp pMod (eCall pInt (aCons (eOp pAddA (eIxS 0 (eC (.int 3))) (eC (.int 1))) (aNil))) (eC (.int 2147483587))) (eC (.int 3))) (sRet (eOp pMod (eCall pInt (aCons (eCallF [false, false] F__law_mixed (bVal (eIxS 0 (eC (.int 3))) (bVal (eIxS 0 (eC (.int 1))) (bNil)))) (aNil))) (eVar 1)))))
theorem part2 {cs : List Int} {p r t m : Int} (s : Slot) (h0 : 0 ≤ p) (hm : 0 < m) (hb : Bd 40 m) : ∃ x o', goRun [true, false] (P2 [.own (HandP cs p r t), .v (.int m), s, .no]) = .ret (.int x) [o'] ∧ 0 ≤ x ∧ x < m ∧ Hand o' := by
  have M : ∀ x : Int, pMod (.int x) (.int m) = some (.int (x.fmod m)) := fun x => pmo_ii (by omega)
  have N : ∀ x : Int, 0 ≤ x.fmod m ∧ x.fmod m < m := fun x => ⟨Int.fmod_nonneg_of_pos x hm, Int.fmod_lt_of_pos x hm⟩
  by_cases hr : 0 < r
  · have D : pDiv (.int r) (.int m) = _ := pd_bd (by omega) hb
    refine ⟨r.fmod m, HandP cs p (r.fdiv m) t, ?_, (N r).1, (N r).2, cs, p, r.fdiv m, t, h0, rfl⟩
    unfold P2 HandP
    simp! [ev_ixS, ev_setI, ix4_1, ix4_2, ix4_3, hr, M, D]
  · have d1 : pMod (.int (t + 1)) (.int 2147483587) = _ := pmo_ii (by decide)
    generalize (t + 1).fmod 2147483587 = t2 at d1
    obtain ⟨x, hx⟩ := mixed_ev t2 p
    refine ⟨x.fmod m, HandP cs p r t2, ?_, (N x).1, (N x).2, cs, p, r, t2, h0, rfl⟩
    unfold P2 HandP
    simp! [ev_ixS, ev_setI, ix4_1, ix4_2, ix4_3, hr, d1, hx, M]
theorem take_ev {o : PV} (h : Hand o) {m : Int} (hm : 0 < m) (hb : Bd 40 m) : ∃ r o', F__law_take [o, .int m] = .ret (.int r) [o'] ∧ 0 ≤ r ∧ r < m ∧ Hand o' := by
  obtain ⟨cs, p, r, t, hp, rfl⟩ := h
  have M : ∀ x : Int, pMod (.int x) (.int m) = some (.int (x.fmod m)) := fun x => pmo_ii (by omega)
  have N : ∀ x : Int, 0 ≤ x.fmod m ∧ x.fmod m < m := fun x => ⟨Int.fmod_nonneg_of_pos x hm, Int.fmod_lt_of_pos x hm⟩
  have E : F__law_take [HandP cs p r t, .int m] = goRun [true, false] (B__law_take [.own (HandP cs p r t), .v (.int m), .no, .no]) := rfl
  rw [E]
  by_cases h1 : r = 0
  · by_cases h2 : p < cs.length
    · obtain ⟨c, hc⟩ := at_cell hp h2
      by_cases h3 : c < 1000000000000000000
      · have d1 : pMod (.int c) (.int 2147483647) = _ := pmo_ii (by decide)
        generalize c.fmod 2147483647 = u at d1
        obtain ⟨x, hx⟩ := mixed_ev u (p + 1)
        refine ⟨x.fmod m, HandP cs (p + 1) r t, ?_, (N x).1, (N x).2, cs, p + 1, r, t, by omega, rfl⟩
        unfold B__law_take HandP
        simp! [ev_ixS, ev_setI, ix4_1, ix4_2, ix4_3, h1, h2, hc, h3, pe_ii, p1018, d1, hx, M, List.length_map]
      · have := part2 (cs := cs) (p := p + 1) (r := c) (t := t) (.v (.int c)) (by omega) hm hb
        obtain ⟨x, o', hx, z⟩ := this
        refine ⟨x, o', ?_, z⟩
        rw [← hx]
        unfold B__law_take HandP
        simp! [ev_ixS, ev_setI, ix4_1, ix4_2, ix4_3, h1, h2, hc, h3, pe_ii, p1018, M, List.length_map]
    · obtain ⟨x, o', hx, z⟩ := part2 (cs := cs) (p := p) (r := r) (t := t) .no hp hm hb
      refine ⟨x, o', ?_, z⟩
      rw [← hx]
      unfold B__law_take HandP
      simp! [ev_ixS, ev_setI, ix4_1, ix4_2, ix4_3, h1, h2, pe_ii, M, List.length_map]
  · obtain ⟨x, o', hx, z⟩ := part2 (cs := cs) (p := p) (r := r) (t := t) .no hp hm hb
    refine ⟨x, o', ?_, z⟩
    rw [← hx]
    unfold B__law_take HandP
    simp! [ev_ixS, ev_setI, ix4_1, ix4_2, ix4_3, h1, pe_ii, M, List.length_map]
theorem ev_app (i : Nat) (f : EF) (ρ : PEnv) : sApp i f ρ = match ρ[i]? with
  | some (.own (.lst _)) => (f ρ).bindS fun p ρ1 => match ρ1[i]? with
    | some (.own (.lst xs)) => goB (decide (xs.length < 100000)) (.nx (ρ1.set i (.own (.lst (xs ++ [p]))))) .bad
    | _ => .bad
  | _ => .bad := rfl
theorem ev_own (p : PV) (i : Nat) (ρ : PEnv) : goV (some (.own p)) i ρ = .ok p (ρ.set i (.v p)) := rfl
theorem hand_loop (S : PV) : ∀ (l cs : List Int) (t : Int) (s : Slot), cs.length + l.length ≤ 1000 → ∃ cs' t' s', forL (gN 3) (sSeq (sAsg 1 (eOp pMod (eCall pInt (aCons (eOp pAddA (eOp pMul (eVar 1) (eC (.int 1021))) (eCall pInt (aCons (eVar 3) (aNil)))) (aNil))) (eC (.int 2147483587)))) (sApp 2 (eCall pAbs (aCons (eCall pInt (aCons (eVar 3) (aNil))) (aNil))))) (l.map PV.int) [.v S, .v (.int t), .own (.lst (cs.map PV.int)), s] = .nx [.v S, .v (.int t'), .own (.lst (List.map PV.int cs')), s']
  | [], cs, t, s, _ => ⟨cs, t, s, rfl⟩
  | i :: l, cs, t, s, h => by
    have m1 := pm_r (i := t) (j := 1021) (by decide)
    have d1 : pMod (.int (t * 1021 + i)) (.int 2147483587) = _ := pmo_ii (by decide)
    generalize (t * 1021 + i).fmod 2147483587 = u at d1
    have g : decide (cs.length < 100000) = true := by simp only [List.length_cons] at h; simp only [decide_eq_true_eq]; omega
    obtain ⟨cs', t', s', e⟩ := hand_loop S l (cs ++ [(i.natAbs : Int)]) u (.v (.int i)) (by simp only [List.length_append, List.length_cons, List.length_nil] at h ⊢; omega)
    refine ⟨cs', t', s', ?_⟩
    rw [List.map_cons, ev_flc]
    simp! [goG_s, m1, d1, ev_app, g, List.length_map, goL_nx]
    rw [List.map_append] at e
    exact e
theorem hand_ev (ns : List Int) (h : ns.length ≤ 63) : ∃ o, F__law_hand [.scr (ns.map PV.int)] = .reo o [] ∧ Hand o := by
  unfold F__law_hand B__law_hand
  obtain ⟨cs', t', s', e⟩ := hand_loop (.scr (ns.map PV.int)) ns [] (ns.length + 53) .no (by simp; omega)
  refine ⟨HandP cs' 0 0 t', ?_, cs', 0, 0, t', Int.le_refl _, rfl⟩
  simp! [List.length_map]
  rw [List.map_nil] at e
  rw [e]
  simp! [ev_own]
  rfl
theorem p106 : pPow (.int 10) (.int 6) = some (.int 1000000) := by kernel_rfl
theorem p1012 : pPow (.int 10) (.int 12) = some (.int 1000000000000) := by kernel_rfl
theorem bounded_ev {o : PV} (h : Hand o) : ∃ i o', F__law_bounded [o] = .ret (.int i) [o'] ∧ 1 ≤ i ∧ i ≤ 1000000000000 ∧ Hand o' := by
  unfold F__law_bounded B__law_bounded
  obtain ⟨k, o1, e1, k0, k1, h1⟩ := take_ev h (m := 8) (by decide) (by unfold Bd; decide)
  by_cases c : k < 6
  · obtain ⟨i, o2, e2, i0, i1, h2⟩ := take_ev h1 (m := 4) (by decide) (by unfold Bd; decide)
    refine ⟨1 + i, o2, ?_, by omega, by omega, h2⟩
    simp! [e1, c, e2]
  · by_cases c6 : k = 6
    · refine ⟨1000000000000, o1, ?_, by decide, by decide, h1⟩
      simp! [e1, c, c6, pe_ii, p1012]
    · obtain ⟨i, o2, e2, i0, i1, h2⟩ := take_ev h1 (m := 1000000) (by decide) (by unfold Bd; decide)
      obtain ⟨j, o3, e3, j0, j1, h3⟩ := take_ev h2 (m := 1000000) (by decide) (by unfold Bd; decide)
      have m1 := pm_r (i := i) (j := 1000000) (by decide)
      refine ⟨1 + i * 1000000 + j, o3, ?_, by omega, by omega, h3⟩
      simp! [e1, c, c6, pe_ii, p106, e2, e3, m1]
theorem arm_d {o : PV} (h : Hand o) : ∃ r o', F__law_arm [o] = .ret (rq r) [o'] ∧ 0 < r ∧ Small r ∧ Hand o' := by
  unfold F__law_arm B__law_arm
  obtain ⟨k, o1, e1, k0, k1, h1⟩ := take_ev h (m := 4) (by decide) (by unfold Bd; decide)
  by_cases c : k = 0
  · obtain ⟨i, o2, e2, i0, i1, h2⟩ := bounded_ev h1
    obtain ⟨j, o3, e3, j0, j1, h3⟩ := bounded_ev h2
    have hj : Bd 8999 j := Bd.mono (m := 40) (by show j.natAbs < 2 ^ 40; have : (2 : Nat) ^ 40 = 1099511627776 := by decide
                                                 omega) (by decide)
    have e4 := lrat_ev (t := i) (b := j) (by omega) hj
    refine ⟨Rat.divInt i j, o3, ?_, divInt_pos (by omega) (by omega), small_div (by omega) (by omega) (by omega), h3⟩
    subst c
    simp! [e1, e2, e3, e4, bne_self_eq_false]
  · have c' : (k != 0) = true := by simp [c]
    obtain ⟨i, o2, e2, i0, i1, h2⟩ := take_ev h1 (m := 4) (by decide) (by unfold Bd; decide)
    obtain ⟨j, o3, e3, j0, j1, h3⟩ := take_ev h2 (m := 3) (by decide) (by unfold Bd; decide)
    have hj : Bd 8999 (1 + j) := Bd.mono (m := 40) (by show (1 + j).natAbs < 2 ^ 40; have : (2 : Nat) ^ 40 = 1099511627776 := by decide
                                                       omega) (by decide)
    have e4 := lrat_ev (t := 1 + i) (b := 1 + j) (by omega) hj
    refine ⟨Rat.divInt (1 + i) (1 + j), o3, ?_, divInt_pos (by omega) (by omega), small_div (by omega) (by omega) (by omega), h3⟩
    simp! [e1, c', e2, e3, e4]
theorem coord_d {o : PV} (h : Hand o) : ∃ r o', F__law_coordinate [o] = .ret (rq r) [o'] ∧ Small r ∧ Hand o' := by
  unfold F__law_coordinate B__law_coordinate
  obtain ⟨k, o1, e1, k0, k1, h1⟩ := take_ev h (m := 5) (by decide) (by unfold Bd; decide)
  by_cases c : k = 0
  · obtain ⟨i, o2, e2, i0, i1, h2⟩ := bounded_ev h1
    obtain ⟨u, o3, e3, u0, u1, h3⟩ := take_ev h2 (m := 2) (by decide) (by unfold Bd; decide)
    obtain ⟨j, o4, e4, j0, j1, h4⟩ := bounded_ev h3
    have hj : Bd 8999 j := Bd.mono (m := 40) (by show j.natAbs < 2 ^ 40; have : (2 : Nat) ^ 40 = 1099511627776 := by decide
                                                 omega) (by decide)
    have e5 := lrat_ev (t := i * (1 - 2 * u)) (b := j) (by omega) hj
    have m1 := pm_l (i := 2) (j := u) (by decide)
    have m2 := pm_r (i := i) (j := 1 - 2 * u) (by omega)
    have hu : u = 0 ∨ u = 1 := by omega
    refine ⟨Rat.divInt (i * (1 - 2 * u)) j, o4, ?_, small_div (by omega) (by rcases hu with rfl | rfl <;> omega) (by omega), h4⟩
    subst c
    simp! [e1, e2, e3, e4, m1, m2, e5, bne_self_eq_false]
  · have c' : (k != 0) = true := by simp [c]
    obtain ⟨i, o2, e2, i0, i1, h2⟩ := take_ev h1 (m := 9) (by decide) (by unfold Bd; decide)
    refine ⟨((i - 4 : Int) : Rat), o2, ?_, small_int (by omega), h2⟩
    rw [← R2_i1]
    simp! [e1, c', e2]
theorem near_d {o : PV} (h : Hand o) : ∃ r o', F__law_near [o] = .ret (rq r) [o'] ∧ Small r ∧ Hand o' := by
  unfold F__law_near B__law_near
  obtain ⟨i, o1, e1, i0, i1, h1⟩ := take_ev h (m := 9) (by decide) (by unfold Bd; decide)
  obtain ⟨k, o2, e2, k0, k1, h2⟩ := take_ev h1 (m := 4) (by decide) (by unfold Bd; decide)
  by_cases c : k = 0
  · have e3 := lrat_ev (t := i - 4) (b := 2) (by decide) (by unfold Bd; decide)
    refine ⟨Rat.divInt (i - 4) 2, o2, ?_, small_div (by decide) (by omega) (by decide), h2⟩
    subst c
    simp! [e1, e2, e3, bne_self_eq_false]
  · have c' : (k != 0) = true := by simp [c]
    have e3 := lrat_ev (t := i - 4) (b := 1) (by decide) (by unfold Bd; decide)
    refine ⟨Rat.divInt (i - 4) 1, o2, ?_, small_div (by decide) (by omega) (by decide), h2⟩
    simp! [e1, e2, c', e3]
end K07
end

section
set_option Elab.async false
set_option linter.all false
set_option maxRecDepth 100000
set_option autoImplicit false
namespace K07
open PySem PySem.Spec PyProof.Rows L2 PL
def law_1 : SF := sAsgO 1 (eCallO [false] F__law_hand (bVal (eVar 0) (bNil)))
def law_2 : SF := sAsg 2 (eCallF [true, false] F__law_take (bOwn 1 (bVal (eC (.int 9)) (bNil))))
def law_3 : SF := sAsg 3 (eOp pEq (eCallF [true, false] F__law_take (bOwn 1 (bVal (eC (.int 3)) (bNil)))) (eC (.int 0)))
def law_4 : SF := sAsg 4 (eOp pEq (eCallF [true, false] F__law_take (bOwn 1 (bVal (eC (.int 6)) (bNil)))) (eC (.int 0)))
def law_5 : SF := sAsgO 5 (eLst (aNil))
abbrev law_6_b : SF := sSeq (sAsg 7 (eIf (tOo (tTru (eVar 4)) (tBl (eOp pEq (eCallF [true, false] F__law_take (bOwn 1 (bVal (eC (.int 5)) (bNil)))) (eC (.int 0))))) (eTup (aCons (eC (.int 0)) (aCons (eC (.int 1)) (aNil)))) (eCallF [true] F__law_arm (bOwn 1 (bNil))))) (sSeq (sAsg 8 (eIf (tTru (eVar 3)) (eTup (aCons (eCallF [true] F__law_coordinate (bOwn 1 (bNil))) (aCons (eCallF [true] F__law_coordinate (bOwn 1 (bNil))) (aNil)))) (eTup (aCons (eCallF [true] F__law_near (bOwn 1 (bNil))) (aCons (eCallF [true] F__law_near (bOwn 1 (bNil))) (aNil)))))) (sApp 5 (eTup (aCons (eVar 7) (aCons (eVar 8) (aNil))))))
def law_6 : SF := sFor (iArg rng1 (aCons (eVar 2) (aNil))) (gN 6) (law_6_b)
def law_7 : SF := sAsg 9 (eLc [20] (iSeq (eVar 5)) (gN 20) (tYs) (eLst (aCons (eOp pIx (eVar 20) (eC (.int 0))) (aCons (eCall pList (aCons (eOp pIx (eVar 20) (eC (.int 1))) (aNil))) (aNil)))))
def law_8 : SF := sAsg 10 (eCall pRepr (aCons (eVar 9) (aNil)))
def law_9 : SF := sAsg 11 (eCallF [false] F__law_try (bVal (eVar 9) (bNil)))
def law_10 : SF := sIf (tOo (tBl (eOp pNe (eVar 11) (eCall pTuple (aCons (eVar 5) (aNil))))) (tOo (tNo (tTru (eCallF [false] F__law_tuples (bVal (eVar 11) (bNil))))) (tOo (tBl (eOp pNe (eCall pRepr (aCons (eVar 9) (aNil))) (eVar 10))) (tBl (eOp pNe (eCallF [false] F__law_try (bVal (eCall pTuple (aCons (eVar 5) (aNil))) (bNil))) (eCall pTuple (aCons (eVar 5) (aNil)))))))) (sRet (eC (.bl false))) (sPass)
def law_11 : SF := sAsgG (gTL 3 (gsC (gN 12) (gsC (gN 13) (gsC (gN 14) (gsN))))) (eCallF [false] F__law_centre (bVal (eVar 5) (bNil)))
def law_12 : SF := sIf (tOo (tBl (eOp pNe (eCallF [false] F_total_of (bVal (eVar 9) (bNil))) (eVar 12))) (tOo (tBl (eOp pNe (eCallF [false] F_moment_of (bVal (eVar 9) (bNil))) (eTup (aCons (eVar 13) (aCons (eVar 14) (aNil)))))) (tBl (eOp pNe (eCall pRepr (aCons (eVar 9) (aNil))) (eVar 10))))) (sRet (eC (.bl false))) (sPass)
def law_13 : SF := sAsg 15 (eCallF [false] F__law_middle (bVal (eVar 9) (bNil)))
def law_14 : SF := sIf (tBl (eOp pEq (eVar 12) (eTup (aCons (eC (.int 0)) (aCons (eC (.int 1)) (aNil)))))) (sIf (tOo (tBl (eOp pNe (eVar 15) (eLst (aCons (eC (.str "none")) (aCons (eVar 2) (aNil)))))) (tBl (eOp pNe (eCallF [false] F__law_together (bVal (eVar 5) (bNil))) (eLst (aCons (eC (.str "none")) (aCons (eVar 2) (aNil))))))) (sRet (eC (.bl false))) (sPass)) (sSeq (sIf (tOo (tBl (eOp pNe (eVar 15) (eTup (aCons (eCallF [false, false] F__law_over (bVal (eVar 13) (bVal (eVar 12) (bNil)))) (aCons (eCallF [false, false] F__law_over (bVal (eVar 14) (bVal (eVar 12) (bNil)))) (aNil)))))) (tBl (eOp pNe (eCallF [false] F__law_together (bVal (eVar 9) (bNil))) (eTup (aCons (eTup (aCons (eVar 12) (aCons (eVar 15) (aNil)))) (aNil)))))) (sRet (eC (.bl false))) (sPass)) (sIf (tOo (tBl (eOp pNe (eCallF [false] F_total_of (bVal (eCallF [false] F_one_load (bVal (eVar 5) (bNil))) (bNil))) (eVar 12))) (tOo (tBl (eOp pNe (eCallF [false] F_moment_of (bVal (eCallF [false] F_one_load (bVal (eVar 5) (bNil))) (bNil))) (eTup (aCons (eVar 13) (aCons (eVar 14) (aNil)))))) (tNo (tTru (eCallF [false] F__law_tuples (bVal (eCallF [false] F_one_load (bVal (eVar 9) (bNil))) (bNil))))))) (sRet (eC (.bl false))) (sPass)))
def law_15 : SF := sAsg 16 (eLc [17] (iArg rng1 (aCons (eVar 2) (aNil))) (gN 17) (tYs) (eIxS 5 (eOp pSub (eOp pSub (eVar 2) (eC (.int 1))) (eVar 17))))
def law_16 : SF := sIf (tOo (tBl (eOp pNe (eCallF [false] F_total_of (bVal (eVar 16) (bNil))) (eVar 12))) (tOo (tBl (eOp pNe (eCallF [false] F_moment_of (bVal (eVar 16) (bNil))) (eTup (aCons (eVar 13) (aCons (eVar 14) (aNil)))))) (tBl (eOp pNe (eCallF [false] F__law_middle (bVal (eVar 16) (bNil))) (eVar 15))))) (sRet (eC (.bl false))) (sPass)
abbrev law_17_b : SF := sSeq (sAsg 18 (eOp pAddA (eSl (eVar 5) (oN) (oS (eVar 17))) (eSl (eVar 5) (oS (eOp pAddA (eVar 17) (eC (.int 1)))) (oN)))) (sSeq (sAsgG (gTL 2 (gsC (gN 7) (gsC (gN 8) (gsN)))) (eIxS 5 (eVar 17))) (sSeq (sIf (tBl (eOp pNe (eCallF [false, false] F__law_plus (bVal (eCallF [false] F_total_of (bVal (eVar 18) (bNil))) (bVal (eVar 7) (bNil)))) (eVar 12))) (sRet (eC (.bl false))) (sPass)) (sIf (tBl (eOp pNe (eCallF [false, false] F__law_plus (bVal (eOp pIx (eCallF [false] F_moment_of (bVal (eVar 18) (bNil))) (eC (.int 1))) (bVal (eCallF [false, false] F__law_times (bVal (eVar 7) (bVal (eOp pIx (eVar 8) (eC (.int 1))) (bNil)))) (bNil)))) (eVar 14))) (sRet (eC (.bl false))) (sPass))))
def law_17 : SF := sFor (iArg rng1 (aCons (eVar 2) (aNil))) (gN 17) (law_17_b)
def law_18 : SF := sIf (tNo (tTru (eCallF [true, false] F__law_refused (bOwn 1 (bVal (eVar 5) (bNil)))))) (sRet (eC (.bl false))) (sPass)
def law_19 : SF := sAsg 19 (eLc [6] (iArg rng1 (aCons (eC (.int 9)) (aNil))) (gN 6) (tYs) (eTup (aCons (eTup (aCons (eC (.int 1)) (aCons (eC (.int 1)) (aNil)))) (aCons (eTup (aCons (eTup (aCons (eVar 6) (aCons (eC (.int 1)) (aNil)))) (aCons (eTup (aCons (eC (.int 0)) (aCons (eC (.int 1)) (aNil)))) (aNil)))) (aNil)))))
def law_20 : SF := sIf (tOo (tBl (eOp pNe (eCallF [false] F__law_try (bVal (eVar 19) (bNil))) (eLst (aCons (eC (.int 0)) (aCons (eC (.str "many")) (aNil)))))) (tOo (tBl (eOp pNe (eCallF [false] F__law_try (bVal (eSl (eVar 19) (oS (eC (.int 1))) (oN)) (bNil))) (eCall pTuple (aCons (eSl (eVar 19) (oS (eC (.int 1))) (oN)) (aNil))))) (tBl (eOp pNe (eCallF [false] F__law_try (bVal (eC (.str "")) (bNil))) (eLst (aCons (eC (.int 0)) (aCons (eC (.str "many")) (aNil)))))))) (sRet (eC (.bl false))) (sPass)
def law_21 : SF := sRet (eAnd (eOp pEq (eCallF [false] F__law_try (bVal (eC .non) (bNil))) (eLst (aCons (eC (.int 0)) (aCons (eC (.str "many")) (aNil))))) (eAnd (eOp pEq (eCallF [false] F__law_try (bVal (eLst (aNil)) (bNil))) (eTup (aNil))) (eAnd (eOp pEq (eCallF [false] F_total_of (bVal (eTup (aNil)) (bNil))) (eTup (aCons (eC (.int 0)) (aCons (eC (.int 1)) (aNil))))) (eOp pEq (eCallF [false] F_moment_of (bVal (eLst (aNil)) (bNil))) (eTup (aCons (eTup (aCons (eC (.int 0)) (aCons (eC (.int 1)) (aNil)))) (aCons (eTup (aCons (eC (.int 0)) (aCons (eC (.int 1)) (aNil)))) (aNil))))))))
theorem law_cut : B_law = sSeq law_1 (sSeq law_2 (sSeq law_3 (sSeq law_4 (sSeq law_5 (sSeq law_6 (sSeq law_7 (sSeq law_8 (sSeq law_9 (sSeq law_10 (sSeq law_11 (sSeq law_12 (sSeq law_13 (sSeq law_14 (sSeq law_15 (sSeq law_16 (sSeq law_17 (sSeq law_18 (sSeq law_19 (sSeq law_20 law_21))))))))))))))))))) := rfl
end K07
end

section
set_option Elab.async false
set_option linter.all false
set_option maxRecDepth 100000
set_option maxHeartbeats 4000000
set_option autoImplicit false
set_option exponentiation.threshold 2000
namespace K07
open PySem PySem.Spec PyProof.Rows L2 PL
local macro_rules | `(tactic| simp! [$l:simpLemma,*]) => `(tactic| simp (config := { decide := false, zeta := false }) only [ev_ok, ev_exc, ev_bad, ev_okS, ev_excS, ev_badS, ev_var, ev_v, ev_c, ev_op, ev_un, ev_some, ev_ct, ev_cf, ev_chain, ev_nil, ev_cons, ev_tup, ev_lst, ev_tru, ev_tsome, ev_bl, ev_no, goB_t, goB_f, ev_an, ev_oo, goT_s, ev_and, ev_or, ev_not, ev_if, ev_call, ev_fmt, ev_asg, ev_asgO, ev_asgG, ev_gN, ev_gsN, ev_gsC, ev_gTp, ev_par, ev_drop, ev_ret, ev_retO, ev_pass, ev_seq, goS_nx, goS_rt, goS_ro, goS_exc, goS_bk, goS_ct, ev_sif, ev_raise, ev_xf, ev_for, ev_while, ev_iseq, ev_iarg, ev_lsome, ev_callF, ev_callD, ev_call0, ev_callO, ev_bnil, ev_bval, ev_bown, ev_callE, goA_s, ev_callOE, goAO_s, goP_s, goF_ret, goF_exc, goFO_reo, goFO_exc, co_nil, co_val, co_own, co_go, co_map, pu_nil, pu_val, pu_own, oa_nil, oa_val, oa_own, ix_nil, ix_val, ix_own, ev_run, goO_s, gr_nx, gr_rt, gr_ro, gr_exc, ow_nil, ow_f, ow_t, sl_nil, sl_f, sl_t, rp_s, rp_0,
  isi_int_int, isi_int_bool, isi_int_tup, isi_int_lst, isi_int_str, isi_bl_int, isi_bl_bool, isi_bl_tup, isi_bl_lst, isi_bl_str, isi_tup_int, isi_tup_bool, isi_tup_tup, isi_tup_lst, isi_tup_str, isi_lst_int, isi_lst_bool, isi_lst_tup, isi_lst_lst, isi_lst_str, isi_str_int, isi_str_bool, isi_str_tup, isi_str_lst, isi_str_str, isi_non_int, isi_non_bool, isi_non_tup, isi_non_lst, isi_non_str,
  pt_bl, pt_int, pt_non, pt_tup, pt_lst, pc_ii, pa_ii, psb_ii, pn_i, pab_i, pi_i, pg_ii, pl_l, pl_t, pl_s, at_0, at_1, at_2, at_3, atl_0, atl_1, atl_2, atl_3,
  List.cons_append, List.nil_append, List.append_nil, List.map_cons, List.map_nil, List.length_cons, List.length_nil, List.getElem?_cons_zero, List.getElem?_cons_succ, List.set_cons_zero, List.set_cons_succ, Nat.reduceAdd, Nat.reduceSub, Nat.reduceLeDiff, Nat.zero_add, Nat.reduceEqDiff, Nat.reduceLT, ↓reduceIte, Int.cast_ofNat_Int, Int.natCast_zero, Int.natCast_one, Int.reduceEq, Int.reduceLT, Int.reduceLE, Int.reduceGT, eq_self, goF_ret, goR_ret, decide_true, decide_false, if_true, Bool.not_true, Bool.not_false, Bool.true_and, Bool.and_true, List.contains_nil, List.zip_cons_cons, List.zip_nil_left, List.reverse_cons, List.reverse_nil, $l,*])
/-! sequences, places -/
theorem seq_sq (k : Bool) (xs : List PV) (lo hi : Int) : F_is_sequence [seqP k xs, .int lo, .int hi] = .ret (.bl (decide (lo ≤ xs.length) && decide ((xs.length : Int) ≤ hi))) [] := by
  unfold F_is_sequence B_is_sequence
  have e := len_sq k xs
  generalize (xs.length : Int) = n at e ⊢
  by_cases h : lo ≤ n
  · simp! [ev_isLT, gi_sq, e, h, pIs, PL.isNon]
  · simp! [ev_isLT, gi_sq, e, h, pIs, PL.isNon, Bool.false_and]
theorem seq_no {p : PV} (h : noSeq p = true) (lo hi : PV) : F_is_sequence [p, lo, hi] = .ret (.bl false) [] := by
  unfold F_is_sequence B_is_sequence
  simp! [ev_isLT, gi_no h]
theorem couple_sq (k : Bool) (xs : List PV) : F_is_couple [seqP k xs] = .ret (.bl (decide (xs.length = 2))) [] := by
  unfold F_is_couple B_is_couple
  have e := seq_sq k xs 2 2
  have e2 : (decide ((2 : Int) ≤ xs.length) && decide ((xs.length : Int) ≤ 2)) = decide (xs.length = 2) := by
    by_cases h : xs.length = 2
    · rw [h]; rfl
    · rw [decide_eq_false h]
      by_cases c : xs.length < 2
      · rw [decide_eq_false (by omega : ¬ (2 : Int) ≤ xs.length)]; rfl
      · rw [decide_eq_false (by omega : ¬ (xs.length : Int) ≤ 2), Bool.and_false]
  rw [e2] at e
  simp! [e]
theorem couple_2 (k : Bool) (a b : PV) : F_is_couple [seqP k [a, b]] = .ret (.bl true) [] := couple_sq k [a, b]
theorem couple_no {p : PV} (h : noSeq p = true) : F_is_couple [p] = .ret (.bl false) [] := by
  unfold F_is_couple B_is_couple
  simp! [seq_no h]
theorem place_ev (k : Bool) {x y : Rat} (hx : Small x) (hy : Small y) : F_is_place [seqP k [rq x, rq y]] = .ret (.bl true) [] := by
  unfold F_is_place B_is_place
  have h0 := ix0_sq k [rq x, rq y]
  have h1 := ix1_sq k [rq x, rq y]
  simp! [couple_2, h0, h1, coord_rq hx, coord_rq hy]
theorem place_n {p : PV} (h : F_is_couple [p] = .ret (.bl false) []) : F_is_place [p] = .ret (.bl false) [] := by
  unfold F_is_place B_is_place
  simp! [h]
theorem place_y (k : Bool) {x : Rat} {q : PV} (hx : Small x) (hq : F_is_coordinate [q] = .ret (.bl false) []) : F_is_place [seqP k [rq x, q]] = .ret (.bl false) [] := by
  unfold F_is_place B_is_place
  have h0 := ix0_sq k [rq x, q]
  have h1 := ix1_sq k [rq x, q]
  simp! [couple_2, h0, h1, coord_rq hx, hq]
/-! loads -/
abbrev LD : Type := Rat × Rat × Rat
structure Good (d : LD) : Prop where
  w0 : 0 ≤ d.1
  w : Small d.1
  x : Small d.2.1
  y : Small d.2.2
def ldP (k1 k2 : Bool) (d : LD) : PV := seqP k1 [rq d.1, seqP k2 [rq d.2.1, rq d.2.2]]
inductive Row : PV → Option String → PV → Prop where
  | good (k1 k2 : Bool) {d : LD} : Good d → Row (ldP k1 k2 d) none (ldP true true d)
  | load {p : PV} (n : PV) : F_is_couple [p] = .ret (.bl false) [] → Row p (some "load") n
  | weight (k : Bool) {a b : PV} (n : PV) : F_is_weight [a] = .ret (.bl false) [] → Row (seqP k [a, b]) (some "weight") n
  | place (k : Bool) {a b : PV} (n : PV) : F_is_weight [a] = .ret (.bl true) [] → F_is_place [b] = .ret (.bl false) [] → Row (seqP k [a, b]) (some "place") n
def firstBad : Int → List (PV × Option String × PV) → Option (Int × String)
  | _, [] => none
  | i, (_, some w, _) :: _ => some (i, w)
  | i, (_, none, _) :: rs => firstBad (i + 1) rs
def wLd : Option String → PV
  | none => .non
  | some w => .str (Str.ofString w)
theorem wrong_row {p : PV} {w : Option String} {n : PV} (hr : Row p w n) : F_wrong_load [p] = .ret (wLd w) [] := by
  unfold F_wrong_load B_wrong_load
  cases hr with
  | good k1 k2 hg =>
    rename_i d
    have c : F_is_couple [ldP k1 k2 d] = .ret (.bl true) [] := couple_2 _ _ _
    have i0 : pIx (ldP k1 k2 d) (.int 0) = some (rq d.1) := ix0_sq _ _
    have i1 : pIx (ldP k1 k2 d) (.int 1) = some (seqP k2 [rq d.2.1, rq d.2.2]) := ix1_sq _ _
    simp! [c, i0, i1, weight_rq hg.w hg.w0, place_ev k2 hg.x hg.y]
    rfl
  | load n hc =>
    simp! [hc]
    rfl
  | weight k n hw =>
    rename_i a b
    have i0 : pIx (seqP k [a, b]) (.int 0) = some a := ix0_sq _ _
    simp! [couple_2, i0, hw]
    rfl
  | place k n hw hp =>
    rename_i a b
    have i0 : pIx (seqP k [a, b]) (.int 0) = some a := ix0_sq _ _
    have i1 : pIx (seqP k [a, b]) (.int 1) = some b := ix1_sq _ _
    simp! [couple_2, i0, i1, hw, hp]
    rfl
abbrev CB : SF := sSeq (sAsg 3 (eCallF [false] F_wrong_load (bVal (eVar 2) (bNil)))) (sIf (tBl (eOp pNot (eVar 3) (eC .non))) (sRaise "BadLoads" ["index", "what"] (aCons (eVar 1) (aCons (eVar 3) (aNil)))) (sPass))
def badL (i : Int) (w : String) : List (Str × PV) := [("what", .str (Str.ofString w)), ("index", .int i)]
theorem chk_loop (X : Slot) : ∀ (rs : List (PV × Option String × PV)) (i : Int) (s1 s2 s3 : Slot), (∀ r ∈ rs, Row r.1 r.2.1 r.2.2) → (s2 = .no ∨ ∃ p, s2 = .v p) →
    ∃ s1' s2' s3', (s2' = .no ∨ ∃ p, s2' = .v p) ∧ forL (gTL 2 (gsC (gN 1) (gsC (gN 2) (gsN)))) CB (enumFrom i (rs.map (·.1))) [X, s1, s2, s3] = match firstBad i rs with
      | none => .nx [X, s1', s2', s3']
      | some (j, w) => .exc "BadLoads" (badL j w) [X, s1', s2', s3']
  | [], i, s1, s2, s3, _, x => ⟨s1, s2, s3, x, rfl⟩
  | (p, w, n) :: rs, i, s1, s2, s3, h, _ => by
    have hr : Row p w n := h (p, w, n) (by simp)
    have e0 := wrong_row hr
    simp only [List.map_cons, enumFrom]
    rw [ev_flc]
    cases w with
    | none =>
      obtain ⟨t1, t2, t3, x, e⟩ := chk_loop X rs (i + 1) (.v (.int i)) (.v p) (.v .non) (fun r hr => h r (by simp [hr])) (.inr ⟨_, rfl⟩)
      refine ⟨t1, t2, t3, x, ?_⟩
      have pn : pNot .non .non = some (.bl false) := rfl
      have e0 : F_wrong_load [p] = .ret .non [] := e0
      simp! [ev_gTLt, goG_s, e0, pn, goL_nx]
      exact e
    | some w =>
      refine ⟨.v (.int i), .v p, .v (.str (Str.ofString w)), .inr ⟨_, rfl⟩, ?_⟩
      have pn : pNot (.str (Str.ofString w)) .non = some (.bl true) := rfl
      have e0 : F_wrong_load [p] = .ret (.str (Str.ofString w)) [] := e0
      simp! [ev_gTLt, goG_s, e0, pn, goL_exc]
      rfl
theorem firstBad_none : ∀ {rs : List (PV × Option String × PV)} {i : Int}, firstBad i rs = none → ∀ r ∈ rs, r.2.1 = none
  | [], _, _, r, hr => by cases hr
  | (p, some w, n) :: rs, i, h, r, hr => by cases h
  | (p, none, n) :: rs, i, h, r, hr => by
    rcases List.mem_cons.mp hr with rfl | hr
    · rfl
    · exact firstBad_none (i := i + 1) h r hr
theorem chk_norm {rs : List (PV × Option String × PV)} (h : ∀ r ∈ rs, Row r.1 r.2.1 r.2.2) (hn : ∀ r ∈ rs, r.2.1 = none) (a b d : Slot) :
    lcL [2] (gN 2) (tYs) (eCallF [false] F_load_row (bVal (eVar 2) (bNil))) (rs.map (·.1)) [a, b, .no, d] = .ok (rs.map (·.2.2)) [a, b, .no, d] := by
  refine lc_map _ _ rs fun r hr => ?_
  have hw := hn r hr
  have hR := h r hr
  obtain ⟨p, w, n⟩ := r
  simp only at hw hR
  subst hw
  cases hR with
  | good k1 k2 hg =>
    rename_i q
    refine ⟨[a, b, .v (ldP k1 k2 q), d], [a, b, .v (ldP k1 k2 q), d], rfl, rfl, ?_, rfl⟩
    have i0 : pIx (ldP k1 k2 q) (.int 0) = some (rq q.1) := ix0_sq _ _
    have i1 : pIx (ldP k1 k2 q) (.int 1) = some (seqP k2 [rq q.2.1, rq q.2.2]) := ix1_sq _ _
    have e : F_load_row [ldP k1 k2 q] = .ret (.tup [rq q.1, .tup [rq q.2.1, rq q.2.2]]) [] := by
      unfold F_load_row B_load_row
      generalize ldP k1 k2 q = L at i0 i1 ⊢
      simp! [i0, i1, tup_sq]
    generalize ldP k1 k2 q = L at e ⊢
    simp! [e]
    rfl
theorem check_ev (k : Bool) {rs : List (PV × Option String × PV)} (h : ∀ r ∈ rs, Row r.1 r.2.1 r.2.2) (hl : rs.length ≤ 8) : F_check_loads [seqP k (rs.map (·.1))] = match firstBad 0 rs with
    | none => .ret (.tup (rs.map (·.2.2))) []
    | some (j, w) => .exc "BadLoads" (badL j w) [] := by
  unfold F_check_loads B_check_loads
  have e := seq_sq k (rs.map (·.1)) 0 8
  rw [List.length_map, decide_eq_true (by omega : (0 : Int) ≤ (rs.length : Int)), decide_eq_true (by omega : (rs.length : Int) ≤ 8)] at e
  obtain ⟨s1, s2, s3, x, e1⟩ := chk_loop (.v (seqP k (rs.map (·.1)))) rs 0 .no .no .no h (.inl rfl)
  cases hf : firstBad 0 rs with
  | none =>
    rw [hf] at e1
    simp only at e1 ⊢
    have e2 := chk_norm h (firstBad_none hf) (.v (seqP k (rs.map (·.1)))) s1 s3
    have ln : decide ((rs.map (·.1)).length ≤ 100000) = true := decide_eq_true (by rw [List.length_map]; omega)
    rcases x with rfl | ⟨p2, rfl⟩
    · cases k <;> simp only [seqP] at e e1 e2 ⊢ <;> simp! [e, penum_l, penum_t, enumP_from, e1, ev_lc, noOwn, List.all_cons, List.all_nil, ln, wipeE, e2, backE, ptup_l]
    · cases k <;> simp only [seqP] at e e1 e2 ⊢ <;> simp! [e, penum_l, penum_t, enumP_from, e1, ev_lc, noOwn, List.all_cons, List.all_nil, ln, wipeE, e2, backE, ptup_l]
  | some jw =>
    obtain ⟨j, w⟩ := jw
    rw [hf] at e1
    simp only at e1 ⊢
    simp! [e, enum_sq, enumP_from, e1]
theorem check_many (k : Bool) {xs : List PV} (hl : 8 < xs.length) : F_check_loads [seqP k xs] = .exc "BadLoads" (badL 0 "many") [] := by
  unfold F_check_loads B_check_loads
  have e := seq_sq k xs 0 8
  rw [decide_eq_false (by omega : ¬ (xs.length : Int) ≤ 8), Bool.and_false] at e
  simp! [e]
  rfl
theorem check_no {p : PV} (h : noSeq p = true) : F_check_loads [p] = .exc "BadLoads" (badL 0 "many") [] := by
  unfold F_check_loads B_check_loads
  simp! [seq_no h]
  rfl
end K07
end

section
set_option Elab.async false
set_option linter.all false
set_option maxRecDepth 100000
set_option maxHeartbeats 4000000
set_option autoImplicit false
set_option exponentiation.threshold 2000
namespace K07
open PySem PySem.Spec PyProof.Rows L2 PL
local macro_rules | `(tactic| simp! [$l:simpLemma,*]) => `(tactic| simp (config := { decide := false, zeta := false }) only [ev_ok, ev_exc, ev_bad, ev_okS, ev_excS, ev_badS, ev_var, ev_v, ev_c, ev_op, ev_un, ev_some, ev_ct, ev_cf, ev_chain, ev_nil, ev_cons, ev_tup, ev_lst, ev_tru, ev_tsome, ev_bl, ev_no, goB_t, goB_f, ev_an, ev_oo, goT_s, ev_and, ev_or, ev_not, ev_if, ev_call, ev_fmt, ev_asg, ev_asgO, ev_asgG, ev_gN, ev_gsN, ev_gsC, ev_gTp, ev_par, ev_drop, ev_ret, ev_retO, ev_pass, ev_seq, goS_nx, goS_rt, goS_ro, goS_exc, goS_bk, goS_ct, ev_sif, ev_raise, ev_xf, ev_for, ev_while, ev_iseq, ev_iarg, ev_lsome, ev_callF, ev_callD, ev_call0, ev_callO, ev_bnil, ev_bval, ev_bown, ev_callE, goA_s, ev_callOE, goAO_s, goP_s, goF_ret, goF_exc, goFO_reo, goFO_exc, co_nil, co_val, co_own, co_go, co_map, pu_nil, pu_val, pu_own, oa_nil, oa_val, oa_own, ix_nil, ix_val, ix_own, ev_run, goO_s, gr_nx, gr_rt, gr_ro, gr_exc, ow_nil, ow_f, ow_t, sl_nil, sl_f, sl_t, rp_s, rp_0,
  isi_int_int, isi_int_bool, isi_int_tup, isi_int_lst, isi_int_str, isi_bl_int, isi_bl_bool, isi_bl_tup, isi_bl_lst, isi_bl_str, isi_tup_int, isi_tup_bool, isi_tup_tup, isi_tup_lst, isi_tup_str, isi_lst_int, isi_lst_bool, isi_lst_tup, isi_lst_lst, isi_lst_str, isi_str_int, isi_str_bool, isi_str_tup, isi_str_lst, isi_str_str, isi_non_int, isi_non_bool, isi_non_tup, isi_non_lst, isi_non_str,
  pt_bl, pt_int, pt_non, pt_tup, pt_lst, pc_ii, pa_ii, psb_ii, pn_i, pab_i, pi_i, pg_ii, pl_l, pl_t, pl_s, at_0, at_1, at_2, at_3, atl_0, atl_1, atl_2, atl_3,
  List.cons_append, List.nil_append, List.append_nil, List.map_cons, List.map_nil, List.length_cons, List.length_nil, List.getElem?_cons_zero, List.getElem?_cons_succ, List.set_cons_zero, List.set_cons_succ, Nat.reduceAdd, Nat.reduceSub, Nat.reduceLeDiff, Nat.zero_add, Nat.reduceEqDiff, Nat.reduceLT, ↓reduceIte, Int.cast_ofNat_Int, Int.natCast_zero, Int.natCast_one, Int.reduceEq, Int.reduceLT, Int.reduceLE, Int.reduceGT, eq_self, goF_ret, goR_ret, decide_true, decide_false, if_true, Bool.not_true, Bool.not_false, Bool.true_and, Bool.and_true, List.contains_nil, List.zip_cons_cons, List.zip_nil_left, List.reverse_cons, List.reverse_nil, $l,*])
/-! totals and moments -/
abbrev wS (L : List LD) : Rat := (L.map (·.1)).sum
abbrev xS (L : List LD) : Rat := (L.map fun d => d.1 * d.2.1).sum
abbrev yS (L : List LD) : Rat := (L.map fun d => d.1 * d.2.2).sum
structure Bs (m n : Nat) (L : List LD) : Prop where
  w : ∀ d ∈ L, BQ m d.1
  x : ∀ d ∈ L, BQ n d.2.1
  y : ∀ d ∈ L, BQ n d.2.2
  h : 1 + L.length * (m + n + 1) ≤ 8000
  l : L.length ≤ 100
  mn : m + n ≤ 8000
theorem ld_g (k1 k2 : Bool) (d : LD) (i j : Nat) (ρ : PEnv) : gTL 2 (gsC (gN i) (gsC (gN j) (gsN))) (ldP k1 k2 d) ρ = some ((ρ.set i (.v (rq d.1))).set j (.v (seqP k2 [rq d.2.1, rq d.2.2]))) := by
  show gTL 2 _ (seqP k1 [rq d.1, seqP k2 [rq d.2.1, rq d.2.2]]) _ = _
  simp! [gTL_sq]
theorem total_ev {m n : Nat} (k k1 k2 : Bool) {L : List LD} (B : Bs m n L) : F_total_of [seqP k (L.map (ldP k1 k2))] = .ret (rq (wS L)) [] := by
  unfold F_total_of B_total_of
  have e1 : lcL [1, 2] (gTL 2 (gsC (gN 1) (gsC (gN 2) (gsN)))) (tYs) (eVar 1) (L.map (ldP k1 k2)) [.v (seqP k (L.map (ldP k1 k2))), .no, .no] = .ok (L.map fun d => rq d.1) [.v (seqP k (L.map (ldP k1 k2))), .no, .no] := by
    refine lc_map _ _ L fun d hd => ⟨_, [.v (seqP k (L.map (ldP k1 k2))), .v (rq d.1), .v (seqP k2 [rq d.2.1, rq d.2.2])], ld_g k1 k2 d 1 2 _, rfl, ?_, ?_⟩
    · simp! []
    · rfl
  have e2 := sum_l (m := m) (l := L.map (·.1)) (fun q hq => by
    obtain ⟨d, hd, rfl⟩ := List.mem_map.mp hq
    exact B.w d hd) (by rw [List.length_map]; have := B.h; have := Nat.mul_le_mul_left L.length (show m + 1 ≤ m + n + 1 by omega); omega)
  rw [List.map_map] at e2
  have e2' : F_sum_of [PV.lst (L.map fun d => rq d.1)] = .ret (rq (wS L)) [] := e2
  have ln : decide ((L.map (ldP k1 k2)).length ≤ 100000) = true := decide_eq_true (by rw [List.length_map]; have := B.l; omega)
  cases k <;> simp only [seqP] at e1 ⊢ <;> simp! [ev_lc, noOwn, List.all_cons, List.all_nil, ln, wipeE, e1, backE, e2']
theorem times_comp {m n : Nat} (k1 k2 : Bool) {L : List LD} (B : Bs m n L) (a b c : Slot) (f : LD → Rat) (i : Int) (hi : ∀ d ∈ L, pIx (seqP k2 [rq d.2.1, rq d.2.2]) (.int i) = some (rq (f d)) ∧ BQ n (f d)) :
    lcL [3, 4] (gTL 2 (gsC (gN 3) (gsC (gN 4) (gsN)))) (tYs) (eCallF [false, false] F_times (bVal (eVar 3) (bVal (eOp pIx (eVar 4) (eC (.int i))) (bNil)))) (L.map (ldP k1 k2)) [a, b, c, .no, .no] = .ok (L.map fun d => rq (d.1 * f d)) [a, b, c, .no, .no] := by
  refine lc_map _ _ L fun d hd => ⟨_, [a, b, c, .v (rq d.1), .v (seqP k2 [rq d.2.1, rq d.2.2])], ld_g k1 k2 d 3 4 _, rfl, ?_, ?_⟩
  · obtain ⟨h1, h2⟩ := hi d hd
    have e := times_rq (B.w d hd) h2 (by have := B.mn; omega)
    simp! [h1, e]
  · rfl
theorem moment_ev {m n : Nat} (k k1 k2 : Bool) {L : List LD} (B : Bs m n L) : F_moment_of [seqP k (L.map (ldP k1 k2))] = .ret (.tup [rq (xS L), rq (yS L)]) [] := by
  unfold F_moment_of B_moment_of
  have e1 := fun b c => times_comp k1 k2 B (.v (seqP k (L.map (ldP k1 k2)))) b c (fun d => d.2.1) 0 fun d hd => ⟨ix0_sq _ _, B.x d hd⟩
  have e2 := fun b c => times_comp k1 k2 B (.v (seqP k (L.map (ldP k1 k2)))) b c (fun d => d.2.2) 1 fun d hd => ⟨ix1_sq _ _, B.y d hd⟩
  have sx := sum_l (m := m + n) (l := L.map fun d => d.1 * d.2.1) (fun q hq => by
    obtain ⟨d, hd, rfl⟩ := List.mem_map.mp hq
    exact (B.w d hd).mul (B.x d hd)) (by rw [List.length_map]; exact B.h)
  have sy := sum_l (m := m + n) (l := L.map fun d => d.1 * d.2.2) (fun q hq => by
    obtain ⟨d, hd, rfl⟩ := List.mem_map.mp hq
    exact (B.w d hd).mul (B.y d hd)) (by rw [List.length_map]; exact B.h)
  rw [List.map_map] at sx sy
  have sx' : F_sum_of [PV.lst (L.map fun d => rq (d.1 * d.2.1))] = .ret (rq (xS L)) [] := sx
  have sy' : F_sum_of [PV.lst (L.map fun d => rq (d.1 * d.2.2))] = .ret (rq (yS L)) [] := sy
  have ln : decide ((L.map (ldP k1 k2)).length ≤ 100000) = true := decide_eq_true (by rw [List.length_map]; have := B.l; omega)
  cases k <;> simp only [seqP] at e1 e2 ⊢ <;> simp! [ev_lc, noOwn, List.all_cons, List.all_nil, ln, wipeE, e1, e2, backE, sx', sy']
theorem Bs.wB {m n : Nat} {L : List LD} (B : Bs m n L) : BQ (1 + L.length * (m + 1)) (wS L) := by
  have := BQ.sum (m := m) (l := L.map (·.1)) fun q hq => by
    obtain ⟨d, hd, rfl⟩ := List.mem_map.mp hq
    exact B.w d hd
  rwa [List.length_map] at this
theorem Bs.xB {m n : Nat} {L : List LD} (B : Bs m n L) : BQ (1 + L.length * (m + n + 1)) (xS L) := by
  have := BQ.sum (m := m + n) (l := L.map fun d => d.1 * d.2.1) fun q hq => by
    obtain ⟨d, hd, rfl⟩ := List.mem_map.mp hq
    exact (B.w d hd).mul (B.x d hd)
  rwa [List.length_map] at this
theorem Bs.yB {m n : Nat} {L : List LD} (B : Bs m n L) : BQ (1 + L.length * (m + n + 1)) (yS L) := by
  have := BQ.sum (m := m + n) (l := L.map fun d => d.1 * d.2.2) fun q hq => by
    obtain ⟨d, hd, rfl⟩ := List.mem_map.mp hq
    exact (B.w d hd).mul (B.y d hd)
  rwa [List.length_map] at this
def noC (L : List LD) : FRes := .exc "NoCentre" [("many", .int L.length)] []
theorem centre_ev {m n : Nat} (k k1 k2 : Bool) {L : List LD} (B : Bs m n L) (hb : 2 + L.length * (m + n + 1) + L.length * (m + 1) ≤ 8999) : F_centre_of [seqP k (L.map (ldP k1 k2))] =
    if wS L = 0 then noC L else .ret (.tup [rq (xS L / wS L), rq (yS L / wS L)]) [] := by
  unfold F_centre_of B_centre_of
  have e1 := total_ev k k1 k2 B
  have e2 := moment_ev k k1 k2 B
  have e3 : pLen [seqP k (L.map (ldP k1 k2))] = some (.int L.length) := by rw [len_sq, List.length_map]
  have q := peq_rq (wS L) 0
  rw [← R2_01] at q
  by_cases h : wS L = 0
  · rw [if_pos h]
    rw [decide_eq_true h] at q
    unfold noC
    generalize (L.length : Int) = ll at e3 ⊢
    simp! [e1, q, e3]
    rfl
  · rw [if_neg h]
    rw [decide_eq_false h] at q
    have o1 := over_rq B.xB B.wB h (by omega)
    have o2 := over_rq B.yB B.wB h (by omega)
    simp! [e1, q, e2, ev_gTLt, o1, o2]
theorem one_ev {m n : Nat} (k k1 k2 : Bool) {L : List LD} (B : Bs m n L) (hb : 2 + L.length * (m + n + 1) + L.length * (m + 1) ≤ 8999) : F_one_load [seqP k (L.map (ldP k1 k2))] =
    if wS L = 0 then noC L else .ret (.tup [ldP true true (wS L, xS L / wS L, yS L / wS L)]) [] := by
  unfold F_one_load B_one_load
  have e1 := total_ev k k1 k2 B
  have e2 := centre_ev k k1 k2 B hb
  by_cases h : wS L = 0
  · rw [if_pos h] at e2 ⊢
    unfold noC at e2 ⊢
    generalize (L.length : Int) = l2 at e2 ⊢
    simp! [e1, e2]
  · rw [if_neg h] at e2 ⊢
    simp! [e1, e2]
    rfl
/-! the law's own -/
theorem lcomp {L : List LD} (a b c d : Slot) (e : EF) (f : LD → Rat) (hi : ∀ x ∈ L, e [a, b, c, d, .v (ldP true true x)] = .ok (rq (f x)) [a, b, c, d, .v (ldP true true x)]) :
    lcL [4] (gN 4) (tYs) e (L.map (ldP true true)) [a, b, c, d, .no] = .ok (L.map fun x => rq (f x)) [a, b, c, d, .no] :=
  lc_map _ _ L fun x hx => ⟨[a, b, c, d, .v (ldP true true x)], [a, b, c, d, .v (ldP true true x)], rfl, rfl, hi x hx, rfl⟩
theorem lcentre_ev {m n : Nat} {L : List LD} (B : Bs m n L) : F__law_centre [.lst (L.map (ldP true true))] = .ret (.tup [rq (wS L), rq (xS L), rq (yS L)]) [] := by
  unfold F__law_centre B__law_centre
  have i0 : ∀ x : LD, pIx (ldP true true x) (.int 0) = some (rq x.1) := fun x => ix0_sq _ _
  have i1 : ∀ x : LD, pIx (ldP true true x) (.int 1) = some (seqP true [rq x.2.1, rq x.2.2]) := fun x => ix1_sq _ _
  have j0 : ∀ x : LD, pIx (seqP true [rq x.2.1, rq x.2.2]) (.int 0) = some (rq x.2.1) := fun x => ix0_sq _ _
  have j1 : ∀ x : LD, pIx (seqP true [rq x.2.1, rq x.2.2]) (.int 1) = some (rq x.2.2) := fun x => ix1_sq _ _
  have c1 := fun a b c d => lcomp (L := L) a b c d (eOp pIx (eVar 4) (eC (.int 0))) (fun x => x.1) fun x hx => by
    simp! [i0]
  have c2 := fun a b c d => lcomp (L := L) a b c d (eCallF [false, false] F__law_times (bVal (eOp pIx (eVar 4) (eC (.int 0))) (bVal (eOp pIx (eOp pIx (eVar 4) (eC (.int 1))) (eC (.int 0))) (bNil)))) (fun x => x.1 * x.2.1) fun x hx => by
    have t := ltimes_rq (B.w x hx) (B.x x hx) (by have := B.mn; omega)
    simp! [i0, i1, j0, t]
  have c3 := fun a b c d => lcomp (L := L) a b c d (eCallF [false, false] F__law_times (bVal (eOp pIx (eVar 4) (eC (.int 0))) (bVal (eOp pIx (eOp pIx (eVar 4) (eC (.int 1))) (eC (.int 1))) (bNil)))) (fun x => x.1 * x.2.2) fun x hx => by
    have t := ltimes_rq (B.w x hx) (B.y x hx) (by have := B.mn; omega)
    simp! [i0, i1, j1, t]
  have s1 := lsum_l (m := m) (l := L.map (·.1)) (fun q hq => by
    obtain ⟨d, hd, rfl⟩ := List.mem_map.mp hq
    exact B.w d hd) (by rw [List.length_map]; have := B.h; have := Nat.mul_le_mul_left L.length (show m + 1 ≤ m + n + 1 by omega); omega)
  have s2 := lsum_l (m := m + n) (l := L.map fun d => d.1 * d.2.1) (fun q hq => by
    obtain ⟨d, hd, rfl⟩ := List.mem_map.mp hq
    exact (B.w d hd).mul (B.x d hd)) (by rw [List.length_map]; exact B.h)
  have s3 := lsum_l (m := m + n) (l := L.map fun d => d.1 * d.2.2) (fun q hq => by
    obtain ⟨d, hd, rfl⟩ := List.mem_map.mp hq
    exact (B.w d hd).mul (B.y d hd)) (by rw [List.length_map]; exact B.h)
  rw [List.map_map] at s1 s2 s3
  have s1' : F__law_sum [PV.lst (L.map fun d => rq d.1)] = .ret (rq (wS L)) [] := s1
  have s2' : F__law_sum [PV.lst (L.map fun d => rq (d.1 * d.2.1))] = .ret (rq (xS L)) [] := s2
  have s3' : F__law_sum [PV.lst (L.map fun d => rq (d.1 * d.2.2))] = .ret (rq (yS L)) [] := s3
  have ln : decide ((L.map (ldP true true)).length ≤ 100000) = true := decide_eq_true (by rw [List.length_map]; have := B.l; omega)
  simp! [ev_lc, noOwn, List.all_cons, List.all_nil, ln, wipeE, c1, c2, c3, backE, s1', s2', s3']
/-! tried -/
theorem only_n : onlyC "NoCentre" "NoCentre" = some true := rfl
theorem only_b : onlyC "BadLoads" "BadLoads" = some true := rfl
def midP (L : List LD) : PV := if wS L = 0 then .lst [.str "none", .int L.length] else .tup [rq (xS L / wS L), rq (yS L / wS L)]
def togP (L : List LD) : PV := if wS L = 0 then .lst [.str "none", .int L.length] else .tup [ldP true true (wS L, xS L / wS L, yS L / wS L)]
theorem middle_ev {m n : Nat} (k k1 k2 : Bool) {L : List LD} (B : Bs m n L) (hb : 2 + L.length * (m + n + 1) + L.length * (m + 1) ≤ 8999) : F__law_middle [seqP k (L.map (ldP k1 k2))] = .ret (midP L) [] := by
  unfold F__law_middle B__law_middle midP
  have e2 := centre_ev k k1 k2 B hb
  by_cases h : wS L = 0
  · rw [if_pos h] at e2 ⊢
    unfold noC at e2
    generalize (L.length : Int) = l2 at e2 ⊢
    have lk : List.lookup ("many" : Str) [(("many" : Str), PV.int l2)] = some (.int l2) := rfl
    simp! [ev_tryS, e2, only_n, lk, noSlot]
  · rw [if_neg h] at e2 ⊢
    simp! [ev_tryS, e2]
theorem together_ev {m n : Nat} (k k1 k2 : Bool) {L : List LD} (B : Bs m n L) (hb : 2 + L.length * (m + n + 1) + L.length * (m + 1) ≤ 8999) : F__law_together [seqP k (L.map (ldP k1 k2))] = .ret (togP L) [] := by
  unfold F__law_together B__law_together togP
  have e2 := one_ev k k1 k2 B hb
  by_cases h : wS L = 0
  · rw [if_pos h] at e2 ⊢
    unfold noC at e2
    generalize (L.length : Int) = l2 at e2 ⊢
    have lk : List.lookup ("many" : Str) [(("many" : Str), PV.int l2)] = some (.int l2) := rfl
    simp! [ev_tryS, e2, only_n, lk, noSlot]
  · rw [if_neg h] at e2 ⊢
    simp! [ev_tryS, e2]
def tryP (rs : List (PV × Option String × PV)) : PV := match firstBad 0 rs with
  | none => .tup (rs.map (·.2.2))
  | some (j, w) => .lst [.int j, .str (Str.ofString w)]
theorem look_i (j : Int) (w : String) : List.lookup ("index" : Str) (badL j w) = some (.int j) := rfl
theorem look_w (j : Int) (w : String) : List.lookup ("what" : Str) (badL j w) = some (.str (Str.ofString w)) := rfl
theorem try_bad {p : PV} {j : Int} {w : String} (h : F_check_loads [p] = .exc "BadLoads" (badL j w) []) : F__law_try [p] = .ret (.lst [.int j, .str (Str.ofString w)]) [] := by
  unfold F__law_try B__law_try
  simp! [ev_tryS, h, only_b, look_i, look_w, noSlot]
theorem try_ev (k : Bool) {rs : List (PV × Option String × PV)} (h : ∀ r ∈ rs, Row r.1 r.2.1 r.2.2) (hl : rs.length ≤ 8) : F__law_try [seqP k (rs.map (·.1))] = .ret (tryP rs) [] := by
  have e := check_ev k h hl
  unfold tryP
  cases hf : firstBad 0 rs with
  | none =>
    rw [hf] at e
    simp only at e ⊢
    unfold F__law_try B__law_try
    simp! [ev_tryS, e]
  | some jw =>
    obtain ⟨j, w⟩ := jw
    rw [hf] at e
    simp only at e ⊢
    exact try_bad e
theorem try_good (k k1 k2 : Bool) {L : List LD} (h : ∀ d ∈ L, Good d) (hl : L.length ≤ 8) : F__law_try [seqP k (L.map (ldP k1 k2))] = .ret (.tup (L.map (ldP true true))) [] := by
  have e := try_ev k (rs := L.map fun d => (ldP k1 k2 d, none, ldP true true d)) (fun r hr => by
    obtain ⟨d, hd, rfl⟩ := List.mem_map.mp hr
    exact .good k1 k2 (h d hd)) (by rw [List.length_map]; exact hl)
  have f : ∀ (L : List LD) (i : Int), firstBad i (L.map fun d => (ldP k1 k2 d, none, ldP true true d)) = none := fun L => by
    induction L with
    | nil => intro i; rfl
    | cons d L ih => intro i; exact ih (i + 1)
  unfold tryP at e
  rw [f] at e
  simp only [List.map_map] at e
  exact e
/-! nothing but tuples of whole numbers -/
inductive TI : Nat → PV → Prop where
  | int (n : Nat) (i : Int) : TI (n + 1) (.int i)
  | tup {n : Nat} {xs : List PV} : (∀ x ∈ xs, TI n x) → xs.length ≤ 1000 → TI (n + 1) (.tup xs)
theorem tuples_ev : ∀ (n : Nat) {p : PV}, TI n p → R__law_tuples n [p] = .ret (.bl true) []
  | 0, p, h => by cases h
  | n + 1, p, h => by
    show runF [false] 2 (B__law_tuples (R__law_tuples n)) _ = _
    unfold B__law_tuples
    cases h with
    | int n i => simp! []
    | tup hx hl =>
      rename_i xs
      have e := lc_drop (vs := [1]) (g := gN 1) (t := tNo (tTru (eCallF [false] (R__law_tuples n) (bVal (eVar 1) (bNil))))) (e := eC (.int 1)) (ρ := [.v (.tup xs), .no]) id xs fun x hx' =>
        ⟨[.v (.tup xs), .v x], [.v (.tup xs), .v x], rfl, by
          have := tuples_ev n (hx x hx')
          simp! [this], rfl⟩
      rw [List.map_id] at e
      have ln : decide (xs.length ≤ 100000) = true := decide_eq_true (by omega)
      simp! [ev_lc, noOwn, List.all_cons, List.all_nil, ln, wipeE, e, backE, List.isEmpty_nil]
theorem TI.mono {n : Nat} {p : PV} (h : TI n p) : TI (n + 1) p := by
  induction h with
  | int n i => exact .int _ i
  | tup h hl ih => exact .tup ih hl
theorem TI.rq (r : Rat) : TI 2 (rq r) := .tup (fun x hx => by
  simp only [List.mem_cons, List.not_mem_nil, or_false] at hx
  rcases hx with rfl | rfl <;> exact .int _ _) (by simp)
theorem TI.ld (d : LD) : TI 4 (ldP true true d) := .tup (fun x hx => by
  simp only [List.mem_cons, List.not_mem_nil, or_false] at hx
  rcases hx with rfl | rfl
  · exact (TI.rq _).mono
  · exact .tup (fun x hx => by
      simp only [List.mem_cons, List.not_mem_nil, or_false] at hx
      rcases hx with rfl | rfl <;> exact TI.rq _) (by simp)) (by simp)
theorem tuples_lds {L : List LD} (hl : L.length ≤ 1000) : F__law_tuples [.tup (L.map (ldP true true))] = .ret (.bl true) [] :=
  tuples_ev 6 (TI.mono (.tup (fun x hx => by
    obtain ⟨d, _, rfl⟩ := List.mem_map.mp hx
    exact TI.ld d) (by rw [List.length_map]; exact hl)))
end K07
end

section
set_option Elab.async false
set_option linter.all false
set_option maxRecDepth 100000
set_option maxHeartbeats 4000000
set_option autoImplicit false
set_option exponentiation.threshold 2000
namespace K07
open PySem PySem.Spec PyProof.Rows L2 PL
local macro_rules | `(tactic| simp! [$l:simpLemma,*]) => `(tactic| simp (config := { decide := false, zeta := false }) only [ev_ok, ev_exc, ev_bad, ev_okS, ev_excS, ev_badS, ev_var, ev_v, ev_c, ev_op, ev_un, ev_some, ev_ct, ev_cf, ev_chain, ev_nil, ev_cons, ev_tup, ev_lst, ev_tru, ev_tsome, ev_bl, ev_no, goB_t, goB_f, ev_an, ev_oo, goT_s, ev_and, ev_or, ev_not, ev_if, ev_call, ev_fmt, ev_asg, ev_asgO, ev_asgG, ev_gN, ev_gsN, ev_gsC, ev_gTp, ev_par, ev_drop, ev_ret, ev_retO, ev_pass, ev_seq, goS_nx, goS_rt, goS_ro, goS_exc, goS_bk, goS_ct, ev_sif, ev_raise, ev_xf, ev_for, ev_while, ev_iseq, ev_iarg, ev_lsome, ev_callF, ev_callD, ev_call0, ev_callO, ev_bnil, ev_bval, ev_bown, ev_callE, goA_s, ev_callOE, goAO_s, goP_s, goF_ret, goF_exc, goFO_reo, goFO_exc, co_nil, co_val, co_own, co_go, co_map, pu_nil, pu_val, pu_own, oa_nil, oa_val, oa_own, ix_nil, ix_val, ix_own, ev_run, goO_s, gr_nx, gr_rt, gr_ro, gr_exc, ow_nil, ow_f, ow_t, sl_nil, sl_f, sl_t, rp_s, rp_0,
  isi_int_int, isi_int_bool, isi_int_tup, isi_int_lst, isi_int_str, isi_bl_int, isi_bl_bool, isi_bl_tup, isi_bl_lst, isi_bl_str, isi_tup_int, isi_tup_bool, isi_tup_tup, isi_tup_lst, isi_tup_str, isi_lst_int, isi_lst_bool, isi_lst_tup, isi_lst_lst, isi_lst_str, isi_str_int, isi_str_bool, isi_str_tup, isi_str_lst, isi_str_str, isi_non_int, isi_non_bool, isi_non_tup, isi_non_lst, isi_non_str,
  pt_bl, pt_int, pt_non, pt_tup, pt_lst, pc_ii, pa_ii, psb_ii, pn_i, pab_i, pi_i, pg_ii, pl_l, pl_t, pl_s, at_0, at_1, at_2, at_3, atl_0, atl_1, atl_2, atl_3,
  List.cons_append, List.nil_append, List.append_nil, List.map_cons, List.map_nil, List.length_cons, List.length_nil, List.getElem?_cons_zero, List.getElem?_cons_succ, List.set_cons_zero, List.set_cons_succ, Nat.reduceAdd, Nat.reduceSub, Nat.reduceLeDiff, Nat.zero_add, Nat.reduceEqDiff, Nat.reduceLT, ↓reduceIte, Int.cast_ofNat_Int, Int.natCast_zero, Int.natCast_one, Int.reduceEq, Int.reduceLT, Int.reduceLE, Int.reduceGT, eq_self, goF_ret, goR_ret, decide_true, decide_false, if_true, Bool.not_true, Bool.not_false, Bool.true_and, Bool.and_true, List.contains_nil, List.zip_cons_cons, List.zip_nil_left, List.reverse_cons, List.reverse_nil, $l,*])
/-! spoilt loads -/
def D0 : LD := (Rat.divInt 1 2, ((3 : Int) : Rat), ((-4 : Int) : Rat))
theorem d0w : rq D0.1 = R2 1 2 := (rat_of (by decide) (by decide)).symm
theorem d0_good : Good D0 := ⟨Rat.le_of_lt (show 0 < Rat.divInt 1 2 from divInt_pos (by decide) (by decide)), (show Small (Rat.divInt 1 2) from small_div (by decide) (by decide) (by decide)), (show Small ((3 : Int) : Rat) from small_int (by decide)), (show Small ((-4 : Int) : Rat) from small_int (by decide))⟩
abbrev q3 : PV := R2 3 1
abbrev q4 : PV := R2 (-4) 1
theorem d0_p : ldP true true D0 = .tup [R2 1 2, .tup [q3, q4]] := by
  show PV.tup [rq D0.1, .tup [rq D0.2.1, rq D0.2.2]] = _
  rw [d0w]; rfl
theorem atl_4 (xs : List PV) : pIx (.lst xs) (.int 4) = xs[4]? := atI_nat xs 4
theorem atl_5 (xs : List PV) : pIx (.lst xs) (.int 5) = xs[5]? := atI_nat xs 5
theorem fb {b : Bool} (h : b = false) : FRes.ret (.bl b) [] = FRes.ret (.bl false) [] := by rw [h]
theorem w1 : F_is_weight [R2 (-1) 1] = .ret (.bl false) [] := (weight_ev _ _).trans (fb (by decide))
theorem w2 : F_is_weight [R2 1000000000001 1] = .ret (.bl false) [] := (weight_ev _ _).trans (fb (by decide))
theorem w3 : F_is_weight [R2 2 4] = .ret (.bl false) [] := (weight_ev _ _).trans (fb (by decide))
theorem c1 : F_is_coordinate [R2 1 1000000000001] = .ret (.bl false) [] := (coord_ev _ _).trans (fb (by decide))
theorem wD : F_is_weight [R2 1 2] = .ret (.bl true) [] := by
  have := weight_rq d0_good.w d0_good.w0
  rwa [d0w] at this
abbrev D0P : PV := .tup [R2 1 2, .tup [q3, q4]]
theorem cpl (xs : List PV) (h : xs.length ≠ 2) : F_is_couple [.tup xs] = .ret (.bl false) [] := by
  have := couple_sq true xs
  rw [decide_eq_false h] at this
  exact this
theorem pl3 {q : PV} (hq : F_is_coordinate [q] = .ret (.bl false) []) : F_is_place [.tup [q3, q]] = .ret (.bl false) [] := place_y true (x := ((3 : Int) : Rat)) (small_int (by decide)) hq
theorem spoilt_ev {o : PV} (h : Hand o) : ∃ w p o', F__law_spoilt [o, D0P] = .ret (.lst [.str (Str.ofString w), p]) [o'] ∧ (∀ n, Row p (some w) n) ∧ Hand o' := by
  unfold F__law_spoilt B__law_spoilt
  obtain ⟨k, o1, e1, k0, k1, h1⟩ := take_ev h (m := 3) (by decide) (by unfold Bd; decide)
  have hk : k = 0 ∨ k = 1 ∨ k = 2 := by omega
  rcases hk with rfl | rfl | rfl
  · obtain ⟨r, o2, e2, r0, r1, h2⟩ := take_ev h1 (m := 4) (by decide) (by unfold Bd; decide)
    have hr : r = 0 ∨ r = 1 ∨ r = 2 ∨ r = 3 := by omega
    rcases hr with rfl | rfl | rfl | rfl
    · refine ⟨"load", .non, o2, ?_, fun n => .load n (couple_no rfl), h2⟩
      simp! [e1, pe_ii, e2]
    · refine ⟨"load", .tup [R2 1 2], o2, ?_, fun n => .load n (cpl _ (by decide)), h2⟩
      simp! [e1, pe_ii, e2]
    · refine ⟨"load", .tup [R2 1 2, .tup [q3, q4], .int 1], o2, ?_, fun n => .load n (cpl _ (by decide)), h2⟩
      simp! [e1, pe_ii, e2]
    · refine ⟨"load", .int 7, o2, ?_, fun n => .load n (couple_no rfl), h2⟩
      simp! [e1, pe_ii, e2]
  · obtain ⟨r, o2, e2, r0, r1, h2⟩ := take_ev h1 (m := 6) (by decide) (by unfold Bd; decide)
    obtain ⟨u, o3, e3, u0, u1, h3⟩ := take_ev h2 (m := 2) (by decide) (by unfold Bd; decide)
    have hu : ∃ z, pIx (.lst [.tup [q3, q4], .non]) (.int u) = some z := by
      have hu : u = 0 ∨ u = 1 := by omega
      rcases hu with rfl | rfl
      · exact ⟨_, rfl⟩
      · exact ⟨_, rfl⟩
    obtain ⟨z, ez⟩ := hu
    have hr : r = 0 ∨ r = 1 ∨ r = 2 ∨ r = 3 ∨ r = 4 ∨ r = 5 := by omega
    rcases hr with rfl | rfl | rfl | rfl | rfl | rfl
    · refine ⟨"weight", .tup [R2 (-1) 1, z], o3, ?_, fun n => .weight true n w1, h3⟩
      simp! [e1, pe_ii, e2, e3, p1012, ez]
    · refine ⟨"weight", .tup [R2 1000000000001 1, z], o3, ?_, fun n => .weight true n w2, h3⟩
      simp! [e1, pe_ii, e2, e3, p1012, ez, Int.reduceAdd]
    · refine ⟨"weight", .tup [R2 2 4, z], o3, ?_, fun n => .weight true n w3, h3⟩
      simp! [e1, pe_ii, e2, e3, p1012, ez]
    · refine ⟨"weight", .tup [.int 1, z], o3, ?_, fun n => .weight true n (weight_no (isr_int 1)), h3⟩
      simp! [e1, pe_ii, e2, e3, p1012, ez]
    · refine ⟨"weight", .tup [.non, z], o3, ?_, fun n => .weight true n (weight_no isr_non), h3⟩
      simp! [e1, pe_ii, e2, e3, p1012, ez, atl_4]
    · refine ⟨"weight", .tup [.lst [.int 1, .int 1], z], o3, ?_, fun n => .weight true n (weight_no (isr_lst _)), h3⟩
      simp! [e1, pe_ii, e2, e3, p1012, ez, atl_5]
  · obtain ⟨r, o2, e2, r0, r1, h2⟩ := take_ev h1 (m := 4) (by decide) (by unfold Bd; decide)
    have hr : r = 0 ∨ r = 1 ∨ r = 2 ∨ r = 3 := by omega
    rcases hr with rfl | rfl | rfl | rfl
    · refine ⟨"place", .lst [R2 1 2, .non], o2, ?_, fun n => .place false n wD (place_n (couple_no rfl)), h2⟩
      simp! [e1, pe_ii, e2, p1012]
    · refine ⟨"place", .lst [R2 1 2, .tup [R2 1 1]], o2, ?_, fun n => .place false n wD (place_n (cpl _ (by decide))), h2⟩
      simp! [e1, pe_ii, e2, p1012]
    · refine ⟨"place", .lst [R2 1 2, .tup [q3, .int 2]], o2, ?_, fun n => .place false n wD (pl3 (coord_no (isr_int 2))), h2⟩
      simp! [e1, pe_ii, e2, p1012]
    · refine ⟨"place", .lst [R2 1 2, .tup [q3, R2 1 1000000000001]], o2, ?_, fun n => .place false n wD (pl3 c1), h2⟩
      simp! [e1, pe_ii, e2, p1012, Int.reduceAdd]
/-! a refusal, told ahead -/
abbrev RW : Type := PV × Option String × PV
def wd (w : Option String) : Str := match w with
  | none => Str.ofString ""
  | some s => Str.ofString s
def mkP (r : RW) : PV := .lst [.str (wd r.2.1), r.1]
def AllR (M : List RW) : Prop := ∀ r ∈ M, Row r.1 r.2.1 r.2.2
theorem d0_row : Row D0P none (ldP true true D0) := by
  have := Row.good true true d0_good
  rwa [d0_p] at this ⊢
abbrev IB : SF := (sSeq (sAsg 4 (eCallF [true, false] F__law_take (bOwn 0 (bVal (eOp pAddA (eLenO 2) (eC (.int 1))) (bNil))))) (sSeq (sAsg 5 (eTup (aCons (eTup (aCons (eC (.int 1)) (aCons (eC (.int 2)) (aNil)))) (aCons (eTup (aCons (eTup (aCons (eC (.int 3)) (aCons (eC (.int 1)) (aNil)))) (aCons (eTup (aCons (eUn pNeg (eC (.int 4))) (aCons (eC (.int 1)) (aNil)))) (aNil)))) (aNil))))) (sMeth 2 pInsert (aCons (eVar 4) (aCons (eIf (tTru (eCallF [true, false] F__law_take (bOwn 0 (bVal (eC (.int 3)) (bNil))))) (eCallF [true, false] F__law_spoilt (bOwn 0 (bVal (eVar 5) (bNil)))) (eLst (aCons (eC (.str "")) (aCons (eVar 5) (aNil))))) (aNil))))))
theorem bd40 {i : Int} (h : i.natAbs ≤ 1000000000000) : Bd 40 i := by
  have e : (2 : Nat) ^ 40 = 1099511627776 := by decide
  show i.natAbs < 2 ^ 40; omega
theorem ins_loop (X : Slot) : ∀ (js : List PV) (M : List RW) (o : PV) (s3 s4 s5 : Slot), Hand o → AllR M → M.length + js.length ≤ 1000 →
    ∃ M' o' s3' s4' s5', forL (gN 3) IB js [.own o, X, .own (.lst (M.map mkP)), s3, s4, s5, .no, .no, .no] = .nx [.own o', X, .own (.lst (M'.map mkP)), s3', s4', s5', .no, .no, .no] ∧ Hand o' ∧ AllR M' ∧ M'.length = M.length + js.length
  | [], M, o, s3, s4, s5, h, hM, _ => ⟨M, o, s3, s4, s5, rfl, h, hM, by simp⟩
  | j :: js, M, o, s3, s4, s5, h, hM, hl => by
    simp only [List.length_cons] at hl
    obtain ⟨a, o1, e1, a0, a1, h1⟩ := take_ev h (m := (M.length : Int) + 1) (by omega) (bd40 (by omega))
    obtain ⟨b, o2, e2, b0, b1, h2⟩ := take_ev h1 (m := 3) (by decide) (by unfold Bd; decide)
    obtain ⟨n, rfl⟩ := Int.eq_ofNat_of_zero_le a0
    have hn : n ≤ M.length := by omega
    have em : ∀ r : RW, (M.take n ++ [r] ++ M.drop n).map mkP = (M.map mkP).take n ++ [mkP r] ++ (M.map mkP).drop n := fun r => by
      rw [List.map_append, List.map_append, List.map_take, List.map_drop]; rfl
    have ins : ∀ p, pInsert (M.map mkP) [.int (n : Int), p] = some ((M.map mkP).take n ++ [p] ++ (M.map mkP).drop n) := fun p => pins_i (by rw [List.length_map]; omega) (by omega)
    have el : ∀ o a b c, eLenO 2 [.own o, X, .own (.lst (M.map mkP)), a, b, c, .no, .no, .no] = .ok (.int (M.length : Int)) [.own o, X, .own (.lst (M.map mkP)), a, b, c, .no, .no, .no] := fun o a b c => by
      rw [ev_lenO]
      show ERes.ok (PV.int ((M.map mkP).length : Int)) _ = _
      rw [List.length_map]
    have next : ∀ (r : RW) (o3 : PV) (t4 t5 : Slot), Row r.1 r.2.1 r.2.2 → Hand o3 → ∃ M' o' s3' s4' s5', forL (gN 3) IB js [.own o3, X, .own (.lst ((M.map mkP).take n ++ [mkP r] ++ (M.map mkP).drop n)), .v j, t4, t5, .no, .no, .no] = .nx [.own o', X, .own (.lst (M'.map mkP)), s3', s4', s5', .no, .no, .no] ∧ Hand o' ∧ AllR M' ∧ M'.length = M.length + (js.length + 1) := by
      intro r o3 t4 t5 hr h3
      have ln : (M.take n ++ [r] ++ M.drop n).length = M.length + 1 := by
        simp only [List.length_append, List.length_take, List.length_drop, List.length_singleton]; omega
      obtain ⟨M', o', s3', s4', s5', e, hh, hm, hl'⟩ := ins_loop X js (M.take n ++ [r] ++ M.drop n) o3 (.v j) t4 t5 h3 (fun x hx => by
        simp only [List.mem_append, List.mem_singleton] at hx
        rcases hx with (hx | rfl) | hx
        · exact hM x (List.mem_of_mem_take hx)
        · exact hr
        · exact hM x (List.mem_of_mem_drop hx)) (by rw [ln]; omega)
      rw [em] at e
      exact ⟨M', o', s3', s4', s5', e, hh, hm, by rw [hl', ln]; omega⟩
    generalize (n : Int) = ni at e1 ins a1
    generalize (M.length : Int) = ml at e1 el
    rw [ev_flc]
    by_cases hb : b = 0
    · subst hb
      obtain ⟨M', o', s3', s4', s5', e, z⟩ := next (D0P, none, ldP true true D0) o2 (.v (.int ni)) (.v D0P) d0_row h2
      refine ⟨M', o', s3', s4', s5', ?_, z⟩
      rw [← e]
      simp! [goG_s, el, e1, ev_meth, e2, bne_self_eq_false, ins, goL_nx]
      rfl
    · have hb' : (b != 0) = true := by simp [hb]
      obtain ⟨w, p, o3, e3, hr, h3⟩ := spoilt_ev h2
      obtain ⟨M', o', s3', s4', s5', e, z⟩ := next (p, some w, p) o3 (.v (.int ni)) (.v D0P) (hr p) h3
      refine ⟨M', o', s3', s4', s5', ?_, z⟩
      rw [← e]
      simp! [goG_s, el, e1, ev_meth, e2, hb', e3, ins, goL_nx]
      rfl
abbrev DB : SF := (sIf (tAn (tBl (eOp pIs (eVar 6) (eC .non))) (tTru (eOp pIx (eIxS 2 (eVar 4)) (eC (.int 0))))) (sAsg 6 (eLst (aCons (eVar 4) (aCons (eOp pIx (eIxS 2 (eVar 4)) (eC (.int 0))) (aNil))))) (sPass))
theorem word_t {p n : PV} {w : String} (h : Row p (some w) n) : pTru (.str (Str.ofString w)) = some true := by
  cases h <;> kernel_rfl
theorem word_e : pTru (.str (Str.ofString "")) = some false := by kernel_rfl
theorem due_done (X : Slot) (M : List RW) : ∀ (n : Nat) (i : Int) (o : PV) (s3 s4 s5 : Slot) (D : List PV), ∃ s4', forL (gN 4) DB (intsP i n) [.own o, X, .own (.lst (M.map mkP)), s3, s4, s5, .v (.lst D), .no, .no] = .nx [.own o, X, .own (.lst (M.map mkP)), s3, s4', s5, .v (.lst D), .no, .no]
  | 0, i, o, s3, s4, s5, D => ⟨s4, rfl⟩
  | n + 1, i, o, s3, s4, s5, D => by
    obtain ⟨s4', e⟩ := due_done X M n (i + 1) o s3 (.v (.int i)) s5 D
    refine ⟨s4', ?_⟩
    rw [intsP_cons, ev_flc]
    simp! [goG_s, pIs, PL.isNon, goL_nx]
    exact e
def dueP : Option (Int × String) → PV
  | none => .non
  | some (j, w) => .lst [.int j, .str (Str.ofString w)]
theorem due_loop (X : Slot) {M : List RW} (hM : AllR M) : ∀ (n lo : Nat) (o : PV) (s3 s4 s5 : Slot), lo + n = M.length → ∃ s4', forL (gN 4) DB (intsP lo n) [.own o, X, .own (.lst (M.map mkP)), s3, s4, s5, .v .non, .no, .no] = .nx [.own o, X, .own (.lst (M.map mkP)), s3, s4', s5, .v (dueP (firstBad lo (M.drop lo))), .no, .no]
  | 0, lo, o, s3, s4, s5, h => ⟨s4, by rw [List.drop_of_length_le (by omega)]; rfl⟩
  | n + 1, lo, o, s3, s4, s5, h => by
    have hlo : lo < M.length := by omega
    have hd : M.drop lo = M[lo] :: M.drop (lo + 1) := List.drop_eq_getElem_cons hlo
    have hr := hM M[lo] (List.getElem_mem hlo)
    have hi : pIx (.lst (M.map mkP)) (.int (lo : Int)) = some (mkP M[lo]) := by
      show atI (M.map mkP) (lo : Int) = _
      rw [PL.atI_nat, List.getElem?_map, List.getElem?_eq_getElem hlo]; rfl
    rw [hd, intsP_cons]
    generalize M[lo] = r at hr hi hd ⊢
    obtain ⟨p, w, m⟩ := r
    cases w with
    | none =>
      obtain ⟨s4', e⟩ := due_loop X hM n (lo + 1) o s3 (.v (.int (lo : Int))) s5 (by omega)
      refine ⟨s4', ?_⟩
      have e' : firstBad (lo : Int) ((p, none, m) :: M.drop (lo + 1)) = firstBad ((lo + 1 : Nat) : Int) (M.drop (lo + 1)) := rfl
      rw [e', ← e]
      have h0 : pIx (mkP (p, none, m)) (.int 0) = some (.str (Str.ofString "")) := rfl
      have c : ((lo : Nat) : Int) + 1 = ((lo + 1 : Nat) : Int) := rfl
      rw [c]
      generalize intsP ((lo + 1 : Nat) : Int) n = js
      generalize (lo : Int) = i at hi
      rw [ev_flc]
      simp! [goG_s, pIs, PL.isNon, ev_ixS, hi, h0, word_e, goL_nx]
    | some w =>
      have h0 : pIx (mkP (p, some w, m)) (.int 0) = some (.str (Str.ofString w)) := rfl
      have ht := word_t hr
      obtain ⟨s4', e⟩ := due_done X M n (lo + 1) o s3 (.v (.int (lo : Int))) s5 [.int (lo : Int), .str (Str.ofString w)]
      refine ⟨s4', ?_⟩
      show _ = SRes.nx [.own o, X, .own (.lst (M.map mkP)), s3, s4', s5, .v (.lst [.int (lo : Int), .str (Str.ofString w)]), .no, .no]
      rw [← e]
      generalize intsP ((lo : Int) + 1) n = js
      generalize (lo : Int) = i at hi
      rw [ev_flc]
      simp! [goG_s, pIs, PL.isNon, ev_ixS, hi, h0, ht, goL_nx]
theorem refused_ev {o : PV} (h : Hand o) {L : List LD} (hg : ∀ d ∈ L, Good d) (hl : L.length ≤ 8) : ∃ o', F__law_refused [o, .lst (L.map (ldP true true))] = .ret (.bl true) [o'] ∧ Hand o' := by
  unfold F__law_refused B__law_refused
  obtain ⟨t, o1, e1, t0, t1, h1⟩ := take_ev h (m := 3) (by decide) (by unfold Bd; decide)
  obtain ⟨tn, rfl⟩ := Int.eq_ofNat_of_zero_le t0
  have c1 : lcL [5] (gN 5) (tYs) (eLst (aCons (eC (.str "")) (aCons (eVar 5) (aNil)))) (L.map (ldP true true)) [.own o, .v (.lst (L.map (ldP true true))), .no, .no, .no, .no, .no, .no, .no] = .ok (L.map fun d => mkP (ldP true true d, none, ldP true true d)) [.own o, .v (.lst (L.map (ldP true true))), .no, .no, .no, .no, .no, .no, .no] := by
    refine lc_map _ _ L fun d hd => ⟨_, [.own o, .v (.lst (L.map (ldP true true))), .no, .no, .no, .v (ldP true true d), .no, .no, .no], rfl, rfl, ?_, rfl⟩
    simp! []
    rfl
  have ln : decide ((L.map (ldP true true)).length ≤ 100000) = true := decide_eq_true (by rw [List.length_map]; omega)
  obtain ⟨M, o2, s3, s4, s5, e2, h2, hM, lM⟩ := ins_loop (.v (.lst (L.map (ldP true true)))) (intsP 0 tn) (L.map fun d => (ldP true true d, none, ldP true true d)) o1 .no .no .no h1 (fun r hr => by
    obtain ⟨d, hd, rfl⟩ := List.mem_map.mp hr
    exact .good true true (hg d hd)) (by rw [List.length_map, intsP_len]; omega)
  rw [List.map_map] at e2
  have e2' : forL (gN 3) IB (intsP 0 tn) [.own o1, .v (.lst (L.map (ldP true true))), .own (.lst (L.map fun d => mkP (ldP true true d, none, ldP true true d))), .no, .no, .no, .no, .no, .no] = _ := e2
  rw [List.length_map, intsP_len] at lM
  have rg := rng1_i (n := tn) (by omega)
  refine ⟨o2, ?_, h2⟩
  have c2 : ∀ (a b : Slot), lcL [8] (gN 8) (tYs) (eOp pIx (eVar 8) (eC (.int 1))) (M.map mkP) [.own o2, .v (.lst (L.map (ldP true true))), .v (.lst (M.map mkP)), s3, a, s5, b, .no, .no] = .ok (M.map (·.1)) [.own o2, .v (.lst (L.map (ldP true true))), .v (.lst (M.map mkP)), s3, a, s5, b, .no, .no] := fun a b => by
    refine lc_map _ _ M fun r hr => ⟨_, [.own o2, .v (.lst (L.map (ldP true true))), .v (.lst (M.map mkP)), s3, a, s5, b, .no, .v (mkP r)], rfl, rfl, ?_, rfl⟩
    have : pIx (mkP r) (.int 1) = some r.1 := rfl
    simp! [this]
  have ln2 : decide ((M.map mkP).length ≤ 100000) = true := decide_eq_true (by rw [List.length_map]; omega)
  have el : ∀ a b c d, eLenO 2 [.own o2, .v (.lst (L.map (ldP true true))), .own (.lst (M.map mkP)), a, b, c, d, .no, .no] = .ok (.int (M.length : Int)) [.own o2, .v (.lst (L.map (ldP true true))), .own (.lst (M.map mkP)), a, b, c, d, .no, .no] := fun a b c d => by
    rw [ev_lenO]
    show ERes.ok (PV.int ((M.map mkP).length : Int)) _ = _
    rw [List.length_map]
  have rg2 := rng1_i (n := M.length) (by omega)
  have Pj : ∀ (j : Int) (w : String), Pv 1 (.lst [.int j, .str (Str.ofString w)]) := fun j w => Pv.lst fun x hx => by
    simp only [List.mem_cons, List.not_mem_nil, or_false] at hx
    rcases hx with rfl | rfl
    · exact Pv.int _ _
    · exact Pv.str _ _
  generalize ht : (tn : Int) = ti at e1 rg
  by_cases h8 : M.length ≤ 8
  · have d8 : decide ((8 : Int) < (M.length : Int)) = false := decide_eq_false (by omega)
    obtain ⟨s4', e3⟩ := due_loop (.v (.lst (L.map (ldP true true)))) hM M.length 0 o2 s3 s4 s5 (by omega)
    have e4 := try_ev false hM h8
    unfold tryP at e4
    rw [List.drop_zero] at e3
    have z0 : ((0 : Nat) : Int) = 0 := rfl
    rw [z0] at e3
    generalize (M.length : Int) = ml at d8 el rg2
    cases hf : firstBad 0 M with
    | none =>
      rw [hf] at e3 e4
      simp only [dueP, seqP] at e3 e4
      simp! [ev_lc, noOwn, List.all_cons, List.all_nil, ln, wipeE, c1, backE, e1, rg, e2', el, d8, rg2, e3, ev_own, ln2, c2, e4]
    | some jw =>
      obtain ⟨j, w⟩ := jw
      rw [hf] at e3 e4
      simp only [dueP, seqP] at e3 e4
      have q := peq_t (Pj j w)
      simp! [ev_lc, noOwn, List.all_cons, List.all_nil, ln, wipeE, c1, backE, e1, rg, e2', el, d8, rg2, e3, ev_own, ln2, c2, e4, q, List.isEmpty_cons]
  · have d8 : decide ((8 : Int) < (M.length : Int)) = true := decide_eq_true (by omega)
    obtain ⟨s4', e3⟩ := due_done (.v (.lst (L.map (ldP true true)))) M M.length 0 o2 s3 s4 s5 [.int 0, .str (Str.ofString "many")]
    have e4 := try_bad (check_many false (xs := M.map (·.1)) (by rw [List.length_map]; omega))
    simp only [seqP] at e4
    generalize (M.length : Int) = ml at d8 el rg2
    have q := peq_t (Pj 0 "many")
    simp! [ev_lc, noOwn, List.all_cons, List.all_nil, ln, wipeE, c1, backE, e1, rg, e2', el, d8, rg2, e3, ev_own, ln2, c2, e4, q, List.isEmpty_cons]
end K07
end

section
set_option Elab.async false
set_option linter.all false
set_option maxRecDepth 100000
set_option maxHeartbeats 4000000
set_option autoImplicit false
set_option exponentiation.threshold 2000
namespace K07
open PySem PySem.Spec PyProof.Rows L2 PL
local macro_rules | `(tactic| simp! [$l:simpLemma,*]) => `(tactic| simp (config := { decide := false, zeta := false }) only [ev_ok, ev_exc, ev_bad, ev_okS, ev_excS, ev_badS, ev_var, ev_v, ev_c, ev_op, ev_un, ev_some, ev_ct, ev_cf, ev_chain, ev_nil, ev_cons, ev_tup, ev_lst, ev_tru, ev_tsome, ev_bl, ev_no, goB_t, goB_f, ev_an, ev_oo, goT_s, ev_and, ev_or, ev_not, ev_if, ev_call, ev_fmt, ev_asg, ev_asgO, ev_asgG, ev_gN, ev_gsN, ev_gsC, ev_gTp, ev_par, ev_drop, ev_ret, ev_retO, ev_pass, ev_seq, goS_nx, goS_rt, goS_ro, goS_exc, goS_bk, goS_ct, ev_sif, ev_raise, ev_xf, ev_for, ev_while, ev_iseq, ev_iarg, ev_lsome, ev_callF, ev_callD, ev_call0, ev_callO, ev_bnil, ev_bval, ev_bown, ev_callE, goA_s, ev_callOE, goAO_s, goP_s, goF_ret, goF_exc, goFO_reo, goFO_exc, co_nil, co_val, co_own, co_go, co_map, pu_nil, pu_val, pu_own, oa_nil, oa_val, oa_own, ix_nil, ix_val, ix_own, ev_run, goO_s, gr_nx, gr_rt, gr_ro, gr_exc, ow_nil, ow_f, ow_t, sl_nil, sl_f, sl_t, rp_s, rp_0,
  isi_int_int, isi_int_bool, isi_int_tup, isi_int_lst, isi_int_str, isi_bl_int, isi_bl_bool, isi_bl_tup, isi_bl_lst, isi_bl_str, isi_tup_int, isi_tup_bool, isi_tup_tup, isi_tup_lst, isi_tup_str, isi_lst_int, isi_lst_bool, isi_lst_tup, isi_lst_lst, isi_lst_str, isi_str_int, isi_str_bool, isi_str_tup, isi_str_lst, isi_str_str, isi_non_int, isi_non_bool, isi_non_tup, isi_non_lst, isi_non_str,
  pt_bl, pt_int, pt_non, pt_tup, pt_lst, pc_ii, pa_ii, psb_ii, pn_i, pab_i, pi_i, pg_ii, pl_l, pl_t, pl_s, at_0, at_1, at_2, at_3, atl_0, atl_1, atl_2, atl_3,
  List.cons_append, List.nil_append, List.append_nil, List.map_cons, List.map_nil, List.length_cons, List.length_nil, List.getElem?_cons_zero, List.getElem?_cons_succ, List.set_cons_zero, List.set_cons_succ, Nat.reduceAdd, Nat.reduceSub, Nat.reduceLeDiff, Nat.zero_add, Nat.reduceEqDiff, Nat.reduceLT, ↓reduceIte, Int.cast_ofNat_Int, Int.natCast_zero, Int.natCast_one, Int.reduceEq, Int.reduceLT, Int.reduceLE, Int.reduceGT, eq_self, goF_ret, goR_ret, decide_true, decide_false, if_true, Bool.not_true, Bool.not_false, Bool.true_and, Bool.and_true, List.contains_nil, List.zip_cons_cons, List.zip_nil_left, List.reverse_cons, List.reverse_nil, $l,*])
/-! the loads drawn -/
theorem em (L : List LD) (d : LD) : (L ++ [d]).map (ldP true true) = L.map (ldP true true) ++ [ldP true true d] := by rw [List.map_append]; rfl
theorem place_d (gr : Bool) {o : PV} (h : Hand o) : ∃ x y o', (∀ (S m no l s6 s7 s8 : PL.Slot) (T : PEnv), eIf (tTru (eVar 3)) (eTup (aCons (eCallF [true] F__law_coordinate (bOwn 1 (bNil))) (aCons (eCallF [true] F__law_coordinate (bOwn 1 (bNil))) (aNil)))) (eTup (aCons (eCallF [true] F__law_near (bOwn 1 (bNil))) (aCons (eCallF [true] F__law_near (bOwn 1 (bNil))) (aNil)))) (S :: .own o :: m :: .v (.bl gr) :: no :: l :: s6 :: s7 :: s8 :: T) = .ok (.tup [rq x, rq y]) (S :: .own o' :: m :: .v (.bl gr) :: no :: l :: s6 :: s7 :: s8 :: T)) ∧ Small x ∧ Small y ∧ Hand o' := by
  cases gr with
  | true =>
    obtain ⟨x, o1, e1, hx, h1⟩ := coord_d h
    obtain ⟨y, o2, e2, hy, h2⟩ := coord_d h1
    refine ⟨x, y, o2, fun S m no l s6 s7 s8 T => ?_, hx, hy, h2⟩
    simp! [e1, e2]
  | false =>
    obtain ⟨x, o1, e1, hx, h1⟩ := near_d h
    obtain ⟨y, o2, e2, hy, h2⟩ := near_d h1
    refine ⟨x, y, o2, fun S m no l s6 s7 s8 T => ?_, hx, hy, h2⟩
    simp! [e1, e2]
theorem weight_d (no : Bool) {o : PV} (h : Hand o) : ∃ w o', (∀ (S m gr l s6 s7 s8 : PL.Slot) (T : PEnv), eIf (tOo (tTru (eVar 4)) (tBl (eOp pEq (eCallF [true, false] F__law_take (bOwn 1 (bVal (eC (.int 5)) (bNil)))) (eC (.int 0))))) (eTup (aCons (eC (.int 0)) (aCons (eC (.int 1)) (aNil)))) (eCallF [true] F__law_arm (bOwn 1 (bNil))) (S :: .own o :: m :: gr :: .v (.bl no) :: l :: s6 :: s7 :: s8 :: T) = .ok (rq w) (S :: .own o' :: m :: gr :: .v (.bl no) :: l :: s6 :: s7 :: s8 :: T)) ∧ 0 ≤ w ∧ Small w ∧ Hand o' := by
  have s0 : Small (0 : Rat) := ⟨by decide, by decide⟩
  cases no with
  | true =>
    refine ⟨0, o, fun S m gr l s6 s7 s8 T => ?_, Rat.le_refl, s0, h⟩
    simp! []
    rfl
  | false =>
    obtain ⟨k, o1, e1, k0, k1, h1⟩ := take_ev h (m := 5) (by decide) (by unfold Bd; decide)
    by_cases c : k = 0
    · refine ⟨0, o1, fun S m gr l s6 s7 s8 T => ?_, Rat.le_refl, s0, h1⟩
      subst c
      simp! [e1, pe_ii]
      rfl
    · obtain ⟨w, o2, e2, w0, hw, h2⟩ := arm_d h1
      refine ⟨w, o2, fun S m gr l s6 s7 s8 T => ?_, Rat.le_of_lt w0, hw, h2⟩
      simp! [e1, pe_ii, c, e2]
theorem build_loop (S m : PL.Slot) (gr no : Bool) (T : PEnv) : ∀ (js : List PV) (L : List LD) (o : PV) (s6 s7 s8 : PL.Slot), (∀ p, s6 ≠ .own p) → Hand o → (∀ d ∈ L, Good d) → L.length + js.length ≤ 1000 →
    ∃ (L' : List LD) (o' : PV) (s6' s7' s8' : PL.Slot), forL (gN 6) law_6_b js (S :: .own o :: m :: .v (.bl gr) :: .v (.bl no) :: .own (.lst (L.map (ldP true true))) :: s6 :: s7 :: s8 :: T) = .nx (S :: .own o' :: m :: .v (.bl gr) :: .v (.bl no) :: .own (.lst (L'.map (ldP true true))) :: s6' :: s7' :: s8' :: T) ∧ Hand o' ∧ (∀ d ∈ L', Good d) ∧ L'.length = L.length + js.length ∧ (∀ p, s6' ≠ .own p)
  | [], L, o, s6, s7, s8, h6, h, hL, _ => ⟨L, o, s6, s7, s8, rfl, h, hL, by simp, h6⟩
  | j :: js, L, o, s6, s7, s8, h6, h, hL, hl => by
    simp only [List.length_cons] at hl
    obtain ⟨w, o1, e1, w0, hw, h1⟩ := weight_d no h
    obtain ⟨x, y, o2, e2, hx, hy, h2⟩ := place_d gr h1
    obtain ⟨L', o3, t6, t7, t8, e3, h3, hL', lL, g6⟩ := build_loop S m gr no T js (L ++ [(w, x, y)]) o2 (.v j) (.v (rq w)) (.v (.tup [rq x, rq y])) (fun p => nofun) h2 (fun d hd => by
      simp only [List.mem_append, List.mem_singleton] at hd
      rcases hd with hd | rfl
      · exact hL d hd
      · exact ⟨w0, hw, hx, hy⟩) (by simp only [List.length_append, List.length_singleton]; omega)
    refine ⟨L', o3, t6, t7, t8, ?_, h3, hL', by rw [lL]; simp only [List.length_append, List.length_singleton, List.length_cons, List.length_nil]; omega, g6⟩
    rw [← e3, em, ev_flc]
    have g : decide ((L.map (ldP true true)).length < 100000) = true := decide_eq_true (by rw [List.length_map]; omega)
    have e1' := e1 S m (.v (.bl gr)) (.own (.lst (L.map (ldP true true)))) (.v j) s7 s8 T
    have e2' := e2 S m (.v (.bl no)) (.own (.lst (L.map (ldP true true)))) (.v j) (.v (rq w)) s8 T
    show goG (gN 6 j _) law_6_b _ _ = _
    rw [ev_gN, goG_s]
    show goL (goS (sAsg 7 _ _) _) _ _ _ = _
    rw [ev_asg]
    rw [show (S :: .own o :: m :: .v (.bl gr) :: .v (.bl no) :: .own (.lst (L.map (ldP true true))) :: s6 :: s7 :: s8 :: T).set 6 (.v j) = (S :: .own o :: m :: .v (.bl gr) :: .v (.bl no) :: .own (.lst (L.map (ldP true true))) :: .v j :: s7 :: s8 :: T) from rfl, e1', ev_okS, goS_nx]
    show goL (goS (sAsg 8 _ _) _) _ _ _ = _
    rw [ev_asg]
    rw [show (S :: .own o1 :: m :: .v (.bl gr) :: .v (.bl no) :: .own (.lst (L.map (ldP true true))) :: .v j :: s7 :: s8 :: T).set 7 (.v (rq w)) = (S :: .own o1 :: m :: .v (.bl gr) :: .v (.bl no) :: .own (.lst (L.map (ldP true true))) :: .v j :: .v (rq w) :: s8 :: T) from rfl, e2', ev_okS, goS_nx]
    simp! [ev_app, g, goL_nx]
    rfl
end K07
end

section
set_option Elab.async false
set_option linter.all false
set_option maxRecDepth 100000
set_option maxHeartbeats 4000000
set_option autoImplicit false
set_option exponentiation.threshold 2000
namespace K07
open PySem PySem.Spec PyProof.Rows L2 PL
local macro_rules | `(tactic| simp! [$l:simpLemma,*]) => `(tactic| simp (config := { decide := false, zeta := false }) only [ev_ok, ev_exc, ev_bad, ev_okS, ev_excS, ev_badS, ev_var, ev_v, ev_c, ev_op, ev_un, ev_some, ev_ct, ev_cf, ev_chain, ev_nil, ev_cons, ev_tup, ev_lst, ev_tru, ev_tsome, ev_bl, ev_no, goB_t, goB_f, ev_an, ev_oo, goT_s, ev_and, ev_or, ev_not, ev_if, ev_call, ev_fmt, ev_asg, ev_asgO, ev_asgG, ev_gN, ev_gsN, ev_gsC, ev_gTp, ev_par, ev_drop, ev_ret, ev_retO, ev_pass, ev_seq, goS_nx, goS_rt, goS_ro, goS_exc, goS_bk, goS_ct, ev_sif, ev_raise, ev_xf, ev_for, ev_while, ev_iseq, ev_iarg, ev_lsome, ev_callF, ev_callD, ev_call0, ev_callO, ev_bnil, ev_bval, ev_bown, ev_callE, goA_s, ev_callOE, goAO_s, goP_s, goF_ret, goF_exc, goFO_reo, goFO_exc, co_nil, co_val, co_own, co_go, co_map, pu_nil, pu_val, pu_own, oa_nil, oa_val, oa_own, ix_nil, ix_val, ix_own, ev_run, goO_s, gr_nx, gr_rt, gr_ro, gr_exc, ow_nil, ow_f, ow_t, sl_nil, sl_f, sl_t, rp_s, rp_0,
  isi_int_int, isi_int_bool, isi_int_tup, isi_int_lst, isi_int_str, isi_bl_int, isi_bl_bool, isi_bl_tup, isi_bl_lst, isi_bl_str, isi_tup_int, isi_tup_bool, isi_tup_tup, isi_tup_lst, isi_tup_str, isi_lst_int, isi_lst_bool, isi_lst_tup, isi_lst_lst, isi_lst_str, isi_str_int, isi_str_bool, isi_str_tup, isi_str_lst, isi_str_str, isi_non_int, isi_non_bool, isi_non_tup, isi_non_lst, isi_non_str,
  pt_bl, pt_int, pt_non, pt_tup, pt_lst, pc_ii, pa_ii, psb_ii, pn_i, pab_i, pi_i, pg_ii, pl_l, pl_t, pl_s, at_0, at_1, at_2, at_3, atl_0, atl_1, atl_2, atl_3,
  List.cons_append, List.nil_append, List.append_nil, List.map_cons, List.map_nil, List.length_cons, List.length_nil, List.getElem?_cons_zero, List.getElem?_cons_succ, List.set_cons_zero, List.set_cons_succ, Nat.reduceAdd, Nat.reduceSub, Nat.reduceLeDiff, Nat.zero_add, Nat.reduceEqDiff, Nat.reduceLT, ↓reduceIte, Int.cast_ofNat_Int, Int.natCast_zero, Int.natCast_one, Int.reduceEq, Int.reduceLT, Int.reduceLE, Int.reduceGT, eq_self, goF_ret, goR_ret, decide_true, decide_false, if_true, Bool.not_true, Bool.not_false, Bool.true_and, Bool.and_true, List.contains_nil, List.zip_cons_cons, List.zip_nil_left, List.reverse_cons, List.reverse_nil, $l,*])
abbrev LT (L : List LD) : PV := .lst (L.map (ldP true true))
abbrev TT (L : List LD) : PV := .tup (L.map (ldP true true))
abbrev GV (L : List LD) : PV := .lst (L.map (ldP false false))
theorem pv_ld (k1 k2 : Bool) (d : LD) : Pv 3 (ldP k1 k2 d) := by
  have h : ∀ x ∈ [rq d.2.1, rq d.2.2], Pv 1 x := fun x hx => by
    simp only [List.mem_cons, List.not_mem_nil, or_false] at hx
    rcases hx with rfl | rfl <;> exact Pv.rq _
  have h2 : Pv 2 (seqP k2 [rq d.2.1, rq d.2.2]) := by
    cases k2
    · exact Pv.lst h
    · exact Pv.tup h
  have h3 : ∀ x ∈ [rq d.1, seqP k2 [rq d.2.1, rq d.2.2]], Pv 2 x := fun x hx => by
    simp only [List.mem_cons, List.not_mem_nil, or_false] at hx
    rcases hx with rfl | rfl
    · exact Pv.rq _
    · exact h2
  cases k1
  · exact Pv.lst h3
  · exact Pv.tup h3
theorem pv_tt (L : List LD) : Pv 4 (TT L) := Pv.tup fun x hx => by
  obtain ⟨d, _, rfl⟩ := List.mem_map.mp hx
  exact pv_ld _ _ d
theorem pv_q2 (a b : Rat) : Pv 2 (.tup [rq a, rq b]) := Pv.tup fun x hx => by
  simp only [List.mem_cons, List.not_mem_nil, or_false] at hx
  rcases hx with rfl | rfl <;> exact Pv.rq _
theorem pv_none (i : Int) : Pv 1 (.lst [.str "none", .int i]) := Pv.lst fun x hx => by
  simp only [List.mem_cons, List.not_mem_nil, or_false] at hx
  rcases hx with rfl | rfl
  · exact Pv.str _ _
  · exact Pv.int _ _
theorem pv_mid (L : List LD) : Pv 2 (midP L) := by
  unfold midP
  split
  · exact (pv_none _).mono (by decide)
  · exact pv_q2 _ _
theorem sh_given {L : List LD} (h : ∀ d ∈ L, Good d) (hl : L.length ≤ 8) : Sh 4 400 (GV L) := Sh.lst (b := 30) (fun x hx => by
  obtain ⟨d, hd, rfl⟩ := List.mem_map.mp hx
  have g := h d hd
  refine Sh.lst (b := 10) (fun y hy => ?_) (by simp)
  simp only [List.mem_cons, List.not_mem_nil, or_false] at hy
  rcases hy with rfl | rfl
  · exact (Sh.rq g.w).mono (by decide) (by decide)
  · refine Sh.lst (b := 2) (fun z hz => ?_) (by simp)
    simp only [List.mem_cons, List.not_mem_nil, or_false] at hz
    rcases hz with rfl | rfl
    · exact Sh.rq g.x
    · exact Sh.rq g.y) (by rw [List.length_map]; omega)
theorem good_bs {L : List LD} (h : ∀ d ∈ L, Good d) (hl : L.length ≤ 8) : Bs 40 40 L := ⟨fun d hd => (h d hd).w.bq, fun d hd => (h d hd).x.bq, fun d hd => (h d hd).y.bq, by omega, by omega, by decide⟩
theorem st7 (S h m g o s6 s7 s8 : PL.Slot) {L : List LD} (hl : L.length ≤ 8) : law_7 [S, h, m, g, o, .own (LT L), s6, s7, s8, .no, .no, .no, .no, .no, .no, .no, .no, .no, .no, .no, .no] = .nx [S, h, m, g, o, .v (LT L), s6, s7, s8, .v (GV L), .no, .no, .no, .no, .no, .no, .no, .no, .no, .no, .no] := by
  unfold law_7
  have c : ∀ T, lcL [20] (gN 20) (tYs) (eLst (aCons (eOp pIx (eVar 20) (eC (.int 0))) (aCons (eCall pList (aCons (eOp pIx (eVar 20) (eC (.int 1))) (aNil))) (aNil)))) (L.map (ldP true true)) [S, h, m, g, o, .v (LT L), s6, s7, s8, .no, .no, .no, .no, .no, .no, .no, .no, .no, .no, .no, T] = .ok (L.map (ldP false false)) [S, h, m, g, o, .v (LT L), s6, s7, s8, .no, .no, .no, .no, .no, .no, .no, .no, .no, .no, .no, .no] ∨ T ≠ .no := fun T => by
    by_cases hT : T = .no
    · subst hT
      left
      refine lc_map _ _ L fun d hd => ⟨_, [S, h, m, g, o, .v (LT L), s6, s7, s8, .no, .no, .no, .no, .no, .no, .no, .no, .no, .no, .no, .v (ldP true true d)], rfl, rfl, ?_, rfl⟩
      have i0 : pIx (ldP true true d) (.int 0) = some (rq d.1) := ix0_sq _ _
      have i1 : pIx (ldP true true d) (.int 1) = some (.tup [rq d.2.1, rq d.2.2]) := ix1_sq _ _
      simp! [i0, i1, plist_t]
      rfl
    · exact .inr hT
  have c' := (c .no).resolve_right fun z => z rfl
  have ln : decide ((L.map (ldP true true)).length ≤ 100000) = true := decide_eq_true (by rw [List.length_map]; omega)
  simp! [ev_own, ev_lc, noOwn, List.all_cons, List.all_nil, ln, wipeE, c', backE]
theorem st8 {L : List LD} {K : Str} (hK : pRepr [GV L] = some (.str K)) (S h m g o l s6 s7 s8 : PL.Slot) : law_8 [S, h, m, g, o, l, s6, s7, s8, .v (GV L), .no, .no, .no, .no, .no, .no, .no, .no, .no, .no, .no] = .nx [S, h, m, g, o, l, s6, s7, s8, .v (GV L), .v (.str K), .no, .no, .no, .no, .no, .no, .no, .no, .no, .no] := by
  unfold law_8
  simp! [hK]
theorem st9 {L : List LD} (hg : ∀ d ∈ L, Good d) (hl : L.length ≤ 8) (S h m g o l s6 s7 s8 K : PL.Slot) : law_9 [S, h, m, g, o, l, s6, s7, s8, .v (GV L), K, .no, .no, .no, .no, .no, .no, .no, .no, .no, .no] = .nx [S, h, m, g, o, l, s6, s7, s8, .v (GV L), K, .v (TT L), .no, .no, .no, .no, .no, .no, .no, .no, .no] := by
  unfold law_9
  have e : F__law_try [GV L] = _ := try_good false false false hg hl
  simp! [e]
theorem st10 {L : List LD} (hg : ∀ d ∈ L, Good d) (hl : L.length ≤ 8) {K : Str} (hK : pRepr [GV L] = some (.str K)) (ok : PyData.strOk K = true) (S h m g o s6 s7 s8 : PL.Slot) (T : PEnv) : law_10 (S :: h :: m :: g :: o :: .v (LT L) :: s6 :: s7 :: s8 :: .v (GV L) :: .v (.str K) :: .v (TT L) :: T) = .nx (S :: h :: m :: g :: o :: .v (LT L) :: s6 :: s7 :: s8 :: .v (GV L) :: .v (.str K) :: .v (TT L) :: T) := by
  unfold law_10
  have e : F__law_try [TT L] = _ := try_good true true true hg hl
  have q := pne_t (pv_tt L)
  have t := tuples_lds (L := L) (by omega)
  have k := pne_ss ok ok
  rw [beq_self_eq_true] at k
  simp! [ptup_l, q, t, hK, k, e]
theorem st11 {L : List LD} (hg : ∀ d ∈ L, Good d) (hl : L.length ≤ 8) (S h m g o s6 s7 s8 s9 s10 s11 s12 s13 s14 : PL.Slot) (T : PEnv) : law_11 (S :: h :: m :: g :: o :: .v (LT L) :: s6 :: s7 :: s8 :: s9 :: s10 :: s11 :: s12 :: s13 :: s14 :: T) = .nx (S :: h :: m :: g :: o :: .v (LT L) :: s6 :: s7 :: s8 :: s9 :: s10 :: s11 :: .v (rq (wS L)) :: .v (rq (xS L)) :: .v (rq (yS L)) :: T) := by
  unfold law_11
  have e := lcentre_ev (good_bs hg hl)
  simp! [e, ev_gTLt]
theorem st12 {L : List LD} (hg : ∀ d ∈ L, Good d) (hl : L.length ≤ 8) {K : Str} (hK : pRepr [GV L] = some (.str K)) (ok : PyData.strOk K = true) (S h m g o l s6 s7 s8 s11 : PL.Slot) (T : PEnv) : law_12 (S :: h :: m :: g :: o :: l :: s6 :: s7 :: s8 :: .v (GV L) :: .v (.str K) :: s11 :: .v (rq (wS L)) :: .v (rq (xS L)) :: .v (rq (yS L)) :: T) = .nx (S :: h :: m :: g :: o :: l :: s6 :: s7 :: s8 :: .v (GV L) :: .v (.str K) :: s11 :: .v (rq (wS L)) :: .v (rq (xS L)) :: .v (rq (yS L)) :: T) := by
  unfold law_12
  have e1 : F_total_of [GV L] = _ := total_ev false false false (good_bs hg hl)
  have e2 : F_moment_of [GV L] = _ := moment_ev false false false (good_bs hg hl)
  have q1 := pne_t (Pv.rq (n := 0) (wS L))
  have q2 := pne_t (pv_q2 (xS L) (yS L))
  have k := pne_ss ok ok
  rw [beq_self_eq_true] at k
  simp! [e1, e2, q1, q2, hK, k]
theorem small_n {L : List LD} (hl : L.length ≤ 8) : 2 + L.length * (40 + 40 + 1) + L.length * (40 + 1) ≤ 8999 := by omega
theorem st13 {L : List LD} (hg : ∀ d ∈ L, Good d) (hl : L.length ≤ 8) (S h m g o l s6 s7 s8 s10 s11 s12 s13 s14 s15 : PL.Slot) (T : PEnv) : law_13 (S :: h :: m :: g :: o :: l :: s6 :: s7 :: s8 :: .v (GV L) :: s10 :: s11 :: s12 :: s13 :: s14 :: s15 :: T) = .nx (S :: h :: m :: g :: o :: l :: s6 :: s7 :: s8 :: .v (GV L) :: s10 :: s11 :: s12 :: s13 :: s14 :: .v (midP L) :: T) := by
  unfold law_13
  have e : F__law_middle [GV L] = _ := middle_ev false false false (good_bs hg hl) (small_n hl)
  simp! [e]
theorem one_bs {L : List LD} (hg : ∀ d ∈ L, Good d) (hl : L.length ≤ 8) (h : wS L ≠ 0) : Bs 330 980 [(wS L, xS L / wS L, yS L / wS L)] := by
  have B := good_bs hg hl
  refine ⟨fun d hd => ?_, fun d hd => ?_, fun d hd => ?_, by simp, by simp, by decide⟩
  · simp only [List.mem_singleton] at hd; subst hd
    exact B.wB.mono (by omega)
  · simp only [List.mem_singleton] at hd; subst hd
    exact (B.xB.div B.wB h).mono (by omega)
  · simp only [List.mem_singleton] at hd; subst hd
    exact (B.yB.div B.wB h).mono (by omega)
theorem st14 {L : List LD} (hg : ∀ d ∈ L, Good d) (hl : L.length ≤ 8) (S h g o s6 s7 s8 s10 s11 : PL.Slot) (T : PEnv) : law_14 (S :: h :: .v (.int L.length) :: g :: o :: .v (LT L) :: s6 :: s7 :: s8 :: .v (GV L) :: s10 :: s11 :: .v (rq (wS L)) :: .v (rq (xS L)) :: .v (rq (yS L)) :: .v (midP L) :: T) = .nx (S :: h :: .v (.int L.length) :: g :: o :: .v (LT L) :: s6 :: s7 :: s8 :: .v (GV L) :: s10 :: s11 :: .v (rq (wS L)) :: .v (rq (xS L)) :: .v (rq (yS L)) :: .v (midP L) :: T) := by
  unfold law_14
  have B := good_bs hg hl
  have q := peq_rq (wS L) 0
  rw [← R2_01] at q
  by_cases c : wS L = 0
  · rw [decide_eq_true c] at q
    have e : F__law_together [LT L] = .ret (togP L) [] := together_ev false true true B (small_n hl)
    have em : midP L = .lst [.str "none", .int L.length] := if_pos c
    have et : togP L = .lst [.str "none", .int L.length] := if_pos c
    rw [et] at e
    rw [em]
    have q2 := pne_t (pv_none L.length)
    generalize (L.length : Int) = n at e q2 ⊢
    simp! [q, q2, e]
  · rw [decide_eq_false c] at q
    have o1 := lover_rq B.xB B.wB c (by omega)
    have o2 := lover_rq B.yB B.wB c (by omega)
    have em : midP L = .tup [rq (xS L / wS L), rq (yS L / wS L)] := if_neg c
    have e : F__law_together [GV L] = .ret (togP L) [] := together_ev false false false B (small_n hl)
    have et : togP L = .tup [ldP true true (wS L, xS L / wS L, yS L / wS L)] := if_neg c
    rw [et] at e
    have eo : F_one_load [LT L] = .ret (.tup [ldP true true (wS L, xS L / wS L, yS L / wS L)]) [] := (one_ev false true true B (small_n hl)).trans (if_neg c)
    have eg : F_one_load [GV L] = .ret (.tup [ldP true true (wS L, xS L / wS L, yS L / wS L)]) [] := (one_ev false false false B (small_n hl)).trans (if_neg c)
    have B1 := one_bs hg hl c
    have et1 : F_total_of [.tup [ldP true true (wS L, xS L / wS L, yS L / wS L)]] = _ := total_ev true true true B1
    have em1 : F_moment_of [.tup [ldP true true (wS L, xS L / wS L, yS L / wS L)]] = _ := moment_ev true true true B1
    have w1 : wS [(wS L, xS L / wS L, yS L / wS L)] = wS L := by
      show wS L + 0 = wS L
      exact Rat.add_zero _
    have x1 : xS [(wS L, xS L / wS L, yS L / wS L)] = xS L := by
      show wS L * (xS L / wS L) + 0 = xS L
      generalize wS L = w at c
      generalize xS L = x
      grind
    have y1 : yS [(wS L, xS L / wS L, yS L / wS L)] = yS L := by
      show wS L * (yS L / wS L) + 0 = yS L
      generalize wS L = w at c
      generalize yS L = x
      grind
    rw [w1] at et1
    rw [x1, y1] at em1
    have tt := tuples_lds (L := [(wS L, xS L / wS L, yS L / wS L)]) (by simp)
    have tt' : F__law_tuples [.tup [ldP true true (wS L, xS L / wS L, yS L / wS L)]] = .ret (.bl true) [] := tt
    have q1 := pne_t (pv_q2 (xS L / wS L) (yS L / wS L))
    have q2 := pne_t (pv_tt [(wS L, xS L / wS L, yS L / wS L)])
    have q2' : pNe (.tup [ldP true true (wS L, xS L / wS L, yS L / wS L)]) (.tup [.tup [rq (wS L), .tup [rq (xS L / wS L), rq (yS L / wS L)]]]) = some (.bl false) := q2
    have q3 := pne_t (Pv.rq (n := 0) (wS L))
    have q4 := pne_t (pv_q2 (xS L) (yS L))
    rw [em]
    generalize (L.length : Int) = n
    simp! [q, q1, e, q2', o1, o2, eo, et1, q3, em1, q4, eg, tt']
end K07
end

section
set_option Elab.async false
set_option linter.all false
set_option maxRecDepth 100000
set_option maxHeartbeats 4000000
set_option autoImplicit false
set_option exponentiation.threshold 2000
namespace K07
open PySem PySem.Spec PyProof.Rows L2 PL
local macro_rules | `(tactic| simp! [$l:simpLemma,*]) => `(tactic| simp (config := { decide := false, zeta := false }) only [ev_ok, ev_exc, ev_bad, ev_okS, ev_excS, ev_badS, ev_var, ev_v, ev_c, ev_op, ev_un, ev_some, ev_ct, ev_cf, ev_chain, ev_nil, ev_cons, ev_tup, ev_lst, ev_tru, ev_tsome, ev_bl, ev_no, goB_t, goB_f, ev_an, ev_oo, goT_s, ev_and, ev_or, ev_not, ev_if, ev_call, ev_fmt, ev_asg, ev_asgO, ev_asgG, ev_gN, ev_gsN, ev_gsC, ev_gTp, ev_par, ev_drop, ev_ret, ev_retO, ev_pass, ev_seq, goS_nx, goS_rt, goS_ro, goS_exc, goS_bk, goS_ct, ev_sif, ev_raise, ev_xf, ev_for, ev_while, ev_iseq, ev_iarg, ev_lsome, ev_callF, ev_callD, ev_call0, ev_callO, ev_bnil, ev_bval, ev_bown, ev_callE, goA_s, ev_callOE, goAO_s, goP_s, goF_ret, goF_exc, goFO_reo, goFO_exc, co_nil, co_val, co_own, co_go, co_map, pu_nil, pu_val, pu_own, oa_nil, oa_val, oa_own, ix_nil, ix_val, ix_own, ev_run, goO_s, gr_nx, gr_rt, gr_ro, gr_exc, ow_nil, ow_f, ow_t, sl_nil, sl_f, sl_t, rp_s, rp_0,
  isi_int_int, isi_int_bool, isi_int_tup, isi_int_lst, isi_int_str, isi_bl_int, isi_bl_bool, isi_bl_tup, isi_bl_lst, isi_bl_str, isi_tup_int, isi_tup_bool, isi_tup_tup, isi_tup_lst, isi_tup_str, isi_lst_int, isi_lst_bool, isi_lst_tup, isi_lst_lst, isi_lst_str, isi_str_int, isi_str_bool, isi_str_tup, isi_str_lst, isi_str_str, isi_non_int, isi_non_bool, isi_non_tup, isi_non_lst, isi_non_str,
  pt_bl, pt_int, pt_non, pt_tup, pt_lst, pc_ii, pa_ii, psb_ii, pn_i, pab_i, pi_i, pg_ii, pl_l, pl_t, pl_s, at_0, at_1, at_2, at_3, atl_0, atl_1, atl_2, atl_3,
  List.cons_append, List.nil_append, List.append_nil, List.map_cons, List.map_nil, List.length_cons, List.length_nil, List.getElem?_cons_zero, List.getElem?_cons_succ, List.set_cons_zero, List.set_cons_succ, Nat.reduceAdd, Nat.reduceSub, Nat.reduceLeDiff, Nat.zero_add, Nat.reduceEqDiff, Nat.reduceLT, ↓reduceIte, Int.cast_ofNat_Int, Int.natCast_zero, Int.natCast_one, Int.reduceEq, Int.reduceLT, Int.reduceLE, Int.reduceGT, eq_self, goF_ret, goR_ret, decide_true, decide_false, if_true, Bool.not_true, Bool.not_false, Bool.true_and, Bool.and_true, List.contains_nil, List.zip_cons_cons, List.zip_nil_left, List.reverse_cons, List.reverse_nil, $l,*])
theorem lc_ints {vs : List Nat} {g : GF} {t : TF} {e : EF} {ρ : PEnv} {n : Nat} (f : Nat → PV) (h : ∀ i : Nat, i < n → ∃ ρ1 ρ3, g (.int (0 + (i : Int))) ρ = some ρ1 ∧ t ρ1 = .ok true ρ1 ∧ e ρ1 = .ok (f i) ρ3 ∧ wipeE ρ3 vs = ρ) :
    lcL vs g t e (intsP 0 n) ρ = .ok ((List.range n).map f) ρ :=
  lc_map (fun i : Nat => PV.int (0 + (i : Int))) f (List.range n) fun i hi => h i (List.mem_range.mp hi)
theorem rev_range (xs : List PV) : (List.range xs.length).map (fun i => (xs.reverse[i]?).getD .non) = xs.reverse := by
  apply List.ext_getElem?
  intro i
  rw [List.getElem?_map]
  by_cases h : i < xs.length
  · rw [List.getElem?_range h]
    have g := List.getElem?_eq_getElem (l := xs.reverse) (i := i) (by rw [List.length_reverse]; exact h)
    rw [g]
    show some ((xs.reverse[i]?).getD .non) = _
    rw [g]
    rfl
  · rw [List.getElem?_eq_none (by rw [List.length_range]; omega), List.getElem?_eq_none (by rw [List.length_reverse]; omega)]
    rfl
theorem st15 {L : List LD} (hl : L.length ≤ 8) (S h g o s6 s7 s8 s9 s10 s11 s12 s13 s14 s15 : PL.Slot) : law_15 [S, h, .v (.int L.length), g, o, .v (LT L), s6, s7, s8, s9, s10, s11, s12, s13, s14, s15, .no, .no, .no, .no, .no] = .nx [S, h, .v (.int L.length), g, o, .v (LT L), s6, s7, s8, s9, s10, s11, s12, s13, s14, s15, .v (LT L.reverse), .no, .no, .no, .no] := by
  unfold law_15
  have c : lcL [17] (gN 17) (tYs) (eIxS 5 (eOp pSub (eOp pSub (eVar 2) (eC (.int 1))) (eVar 17))) (intsP 0 L.length) [S, h, .v (.int L.length), g, o, .v (LT L), s6, s7, s8, s9, s10, s11, s12, s13, s14, s15, .no, .no, .no, .no, .no] = .ok (L.reverse.map (ldP true true)) [S, h, .v (.int L.length), g, o, .v (LT L), s6, s7, s8, s9, s10, s11, s12, s13, s14, s15, .no, .no, .no, .no, .no] := by
    have r := rev_range (L.map (ldP true true))
    rw [List.length_map, ← List.map_reverse] at r
    rw [← r]
    refine lc_ints _ fun i hi => ⟨_, [S, h, .v (.int L.length), g, o, .v (LT L), s6, s7, s8, s9, s10, s11, s12, s13, s14, s15, .no, .v (.int (0 + (i : Int))), .no, .no, .no], rfl, rfl, ?_, rfl⟩
    have hx : pIx (LT L) (.int ((L.length : Int) - 1 - (0 + (i : Int)))) = some (((L.reverse.map (ldP true true))[i]?).getD .non) := by
      have e : (L.length : Int) - 1 - (0 + (i : Int)) = ((L.length - 1 - i : Nat) : Int) := by omega
      rw [e]
      show atI (L.map (ldP true true)) _ = _
      rw [PL.atI_nat, List.map_reverse, List.getElem?_reverse (by rw [List.length_map]; exact hi), List.length_map]
      rw [List.getElem?_eq_getElem (by rw [List.length_map]; omega)]
      rfl
    generalize (L.length : Int) = n at hx ⊢
    generalize (0 + (i : Int)) = j at hx ⊢
    simp! [ev_ixS, hx]
  have rg := rng1_i (n := L.length) (by omega)
  have ln : decide ((intsP 0 L.length).length ≤ 100000) = true := decide_eq_true (by rw [intsP_len]; omega)
  generalize (L.length : Int) = n at c rg ⊢
  simp! [ev_lc, rg, noOwn, List.all_cons, List.all_nil, ln, wipeE, c, backE]
theorem wS_rev (L : List LD) : wS L.reverse = wS L := by unfold wS; rw [List.map_reverse, List.sum_reverse]
theorem xS_rev (L : List LD) : xS L.reverse = xS L := by unfold xS; rw [List.map_reverse, List.sum_reverse]
theorem yS_rev (L : List LD) : yS L.reverse = yS L := by unfold yS; rw [List.map_reverse, List.sum_reverse]
theorem mid_rev (L : List LD) : midP L.reverse = midP L := by
  unfold midP
  rw [wS_rev, xS_rev, yS_rev, List.length_reverse]
theorem st16 {L : List LD} (hg : ∀ d ∈ L, Good d) (hl : L.length ≤ 8) (S h m g o l s6 s7 s8 s9 s10 s11 : PL.Slot) (T : PEnv) : law_16 (S :: h :: m :: g :: o :: l :: s6 :: s7 :: s8 :: s9 :: s10 :: s11 :: .v (rq (wS L)) :: .v (rq (xS L)) :: .v (rq (yS L)) :: .v (midP L) :: .v (LT L.reverse) :: T) = .nx (S :: h :: m :: g :: o :: l :: s6 :: s7 :: s8 :: s9 :: s10 :: s11 :: .v (rq (wS L)) :: .v (rq (xS L)) :: .v (rq (yS L)) :: .v (midP L) :: .v (LT L.reverse) :: T) := by
  unfold law_16
  have hg' : ∀ d ∈ L.reverse, Good d := fun d hd => hg d (List.mem_reverse.mp hd)
  have hl' : L.reverse.length ≤ 8 := by rw [List.length_reverse]; exact hl
  have e1 : F_total_of [LT L.reverse] = _ := total_ev false true true (good_bs hg' hl')
  have e2 : F_moment_of [LT L.reverse] = _ := moment_ev false true true (good_bs hg' hl')
  have e3 : F__law_middle [LT L.reverse] = _ := middle_ev false true true (good_bs hg' hl') (small_n hl')
  rw [wS_rev] at e1
  rw [xS_rev, yS_rev] at e2
  rw [mid_rev] at e3
  have q1 := pne_t (Pv.rq (n := 0) (wS L))
  have q2 := pne_t (pv_q2 (xS L) (yS L))
  have q3 := pne_t (pv_mid L)
  simp! [e1, e2, e3, q1, q2, q3]
theorem sum_cut (f : LD → Rat) (L : List LD) (i : Nat) (h : i < L.length) : (L.map f).sum = ((L.take i ++ L.drop (i + 1)).map f).sum + f L[i] := by
  have e : L = L.take i ++ L[i] :: L.drop (i + 1) := by rw [← List.drop_eq_getElem_cons h, List.take_append_drop]
  have e2 : (L.map f).sum = ((L.take i ++ L[i] :: L.drop (i + 1)).map f).sum := by rw [← e]
  rw [e2]
  simp only [List.map_append, List.map_cons, List.sum_append, List.sum_cons]
  generalize (List.map f (L.take i)).sum = a
  generalize (List.map f (L.drop (i + 1))).sum = b
  grind
theorem rest_loop {L : List LD} (hg : ∀ d ∈ L, Good d) (hl : L.length ≤ 8) (S h m g o s6 s9 s10 s11 s13 s15 s16 : PL.Slot) (T : PEnv) : ∀ (n lo : Nat) (s7 s8 s17 s18 : PL.Slot), lo + n = L.length →
    ∃ s7' s8' s17' s18', forL (gN 17) law_17_b (intsP lo n) (S :: h :: m :: g :: o :: .v (LT L) :: s6 :: s7 :: s8 :: s9 :: s10 :: s11 :: .v (rq (wS L)) :: s13 :: .v (rq (yS L)) :: s15 :: s16 :: s17 :: s18 :: T) = .nx (S :: h :: m :: g :: o :: .v (LT L) :: s6 :: s7' :: s8' :: s9 :: s10 :: s11 :: .v (rq (wS L)) :: s13 :: .v (rq (yS L)) :: s15 :: s16 :: s17' :: s18' :: T)
  | 0, lo, s7, s8, s17, s18, _ => ⟨s7, s8, s17, s18, rfl⟩
  | n + 1, lo, s7, s8, s17, s18, hn => by
    have hlo : lo < L.length := by omega
    have hd := hg L[lo] (List.getElem_mem hlo)
    have hR : ∀ d ∈ L.take lo ++ L.drop (lo + 1), Good d := fun d hd => by
      rcases List.mem_append.mp hd with z | z
      · exact hg d (List.mem_of_mem_take z)
      · exact hg d (List.mem_of_mem_drop z)
    have lR : (L.take lo ++ L.drop (lo + 1)).length ≤ 8 := by
      simp only [List.length_append, List.length_take, List.length_drop]; omega
    have B := good_bs hR lR
    have e1 : F_total_of [LT (L.take lo ++ L.drop (lo + 1))] = _ := total_ev false true true B
    have e2 : F_moment_of [LT (L.take lo ++ L.drop (lo + 1))] = _ := moment_ev false true true B
    have p1 := lplus_rq B.wB hd.w.bq (by omega)
    rw [show wS (L.take lo ++ L.drop (lo + 1)) + L[lo].1 = wS L from (sum_cut (fun d => d.1) L lo hlo).symm] at p1
    have t1 := ltimes_rq hd.w.bq hd.y.bq (by decide)
    have p2 := lplus_rq B.yB (hd.w.bq.mul hd.y.bq) (by omega)
    rw [show yS (L.take lo ++ L.drop (lo + 1)) + L[lo].1 * L[lo].2.2 = yS L from (sum_cut (fun d => d.1 * d.2.2) L lo hlo).symm] at p2
    have q1 := pne_t (Pv.rq (n := 0) (wS L))
    have q2 := pne_t (Pv.rq (n := 0) (yS L))
    have hi : pIx (LT L) (.int (lo : Int)) = some (.tup [rq L[lo].1, .tup [rq L[lo].2.1, rq L[lo].2.2]]) := by
      show atI (L.map (ldP true true)) (lo : Int) = _
      rw [PL.atI_nat, List.getElem?_map, List.getElem?_eq_getElem hlo]; rfl
    have sl1 : pSl (LT L) none (some (lo : Int)) = some (.lst ((L.map (ldP true true)).take lo)) := psl_to (by rw [List.length_map]; omega)
    have sl2 : pSl (LT L) (some ((lo : Int) + 1)) none = some (.lst ((L.map (ldP true true)).drop (lo + 1))) := psl_from (n := lo + 1) (by rw [List.length_map]; omega)
    have cat : pAddA (.lst ((L.map (ldP true true)).take lo)) (.lst ((L.map (ldP true true)).drop (lo + 1))) = some (LT (L.take lo ++ L.drop (lo + 1))) := by
      rw [pad_ll (by simp only [List.length_take, List.length_drop, List.length_map]; omega), ← List.map_take, ← List.map_drop, ← List.map_append]
    obtain ⟨s7', s8', s17', s18', e⟩ := rest_loop hg hl S h m g o s6 s9 s10 s11 s13 s15 s16 T n (lo + 1) (.v (rq L[lo].1)) (.v (.tup [rq L[lo].2.1, rq L[lo].2.2])) (.v (.int (lo : Int))) (.v (LT (L.take lo ++ L.drop (lo + 1)))) (by omega)
    refine ⟨s7', s8', s17', s18', ?_⟩
    rw [← e, intsP_cons]
    have c : ((lo : Nat) : Int) + 1 = ((lo + 1 : Nat) : Int) := rfl
    rw [c]
    generalize intsP ((lo + 1 : Nat) : Int) n = js
    generalize (lo : Int) = i at hi sl1 sl2
    generalize L[lo] = d at hi p1 t1 p2 ⊢
    generalize L.take lo ++ L.drop (lo + 1) = R at e1 e2 p1 p2 cat ⊢
    rw [ev_flc]
    simp! [goG_s, ev_sl, ev_oN, ev_oS, ev_oI, sl1, sl2, cat, ev_ixS, hi, ev_gTLt, e1, p1, q1, e2, t1, p2, q2, goL_nx]
theorem st17 {L : List LD} (hg : ∀ d ∈ L, Good d) (hl : L.length ≤ 8) (S h g o s6 s7 s8 s9 s10 s11 s13 s15 s16 s17 s18 : PL.Slot) (T : PEnv) :
    ∃ s7' s8' s17' s18', law_17 (S :: h :: .v (.int L.length) :: g :: o :: .v (LT L) :: s6 :: s7 :: s8 :: s9 :: s10 :: s11 :: .v (rq (wS L)) :: s13 :: .v (rq (yS L)) :: s15 :: s16 :: s17 :: s18 :: T) = .nx (S :: h :: .v (.int L.length) :: g :: o :: .v (LT L) :: s6 :: s7' :: s8' :: s9 :: s10 :: s11 :: .v (rq (wS L)) :: s13 :: .v (rq (yS L)) :: s15 :: s16 :: s17' :: s18' :: T) := by
  obtain ⟨s7', s8', s17', s18', e⟩ := rest_loop hg hl S h (.v (.int L.length)) g o s6 s9 s10 s11 s13 s15 s16 T L.length 0 s7 s8 s17 s18 (by omega)
  refine ⟨s7', s8', s17', s18', ?_⟩
  have rg := rng1_i (n := L.length) (by omega)
  rw [show ((0 : Nat) : Int) = 0 from rfl] at e
  unfold law_17
  generalize law_17_b = bb at e ⊢
  generalize (L.length : Int) = n at e rg ⊢
  simp! [rg, e]
theorem st18 {L : List LD} (hg : ∀ d ∈ L, Good d) (hl : L.length ≤ 8) {h : PV} (hh : Hand h) (S m g o : PL.Slot) (T : PEnv) : ∃ h', law_18 (S :: .own h :: m :: g :: o :: .v (LT L) :: T) = .nx (S :: .own h' :: m :: g :: o :: .v (LT L) :: T) := by
  unfold law_18
  obtain ⟨h', e, _⟩ := refused_ev hh hg hl
  exact ⟨h', by simp! [e]⟩
def NN : List LD := (List.range 9).map fun i : Nat => (1, ((0 + (i : Int) : Int) : Rat), 0)
theorem nn_good : ∀ d ∈ NN, Good d := fun d hd => by
  obtain ⟨i, hi, rfl⟩ := List.mem_map.mp hd
  have := List.mem_range.mp hi
  exact ⟨(show (0 : Rat) ≤ 1 by decide), (show Small (1 : Rat) from ⟨by decide, by decide⟩), small_int (by omega), (show Small (0 : Rat) from ⟨by decide, by decide⟩)⟩
theorem st19 (s0 s1 s2 s3 s4 s5 s6 s7 s8 s9 s10 s11 s12 s13 s14 s15 s16 s17 s18 : PL.Slot) (h6 : ∀ p, s6 ≠ .own p) : law_19 [s0, s1, s2, s3, s4, s5, s6, s7, s8, s9, s10, s11, s12, s13, s14, s15, s16, s17, s18, .no, .no] = .nx [s0, s1, s2, s3, s4, s5, s6, s7, s8, s9, s10, s11, s12, s13, s14, s15, s16, s17, s18, .v (LT NN), .no] := by
  unfold law_19
  have c : lcL [6] (gN 6) (tYs) (eTup (aCons (eTup (aCons (eC (.int 1)) (aCons (eC (.int 1)) (aNil)))) (aCons (eTup (aCons (eTup (aCons (eVar 6) (aCons (eC (.int 1)) (aNil)))) (aCons (eTup (aCons (eC (.int 0)) (aCons (eC (.int 1)) (aNil)))) (aNil)))) (aNil)))) (intsP 0 9) [s0, s1, s2, s3, s4, s5, .no, s7, s8, s9, s10, s11, s12, s13, s14, s15, s16, s17, s18, .no, .no] = .ok (NN.map (ldP true true)) [s0, s1, s2, s3, s4, s5, .no, s7, s8, s9, s10, s11, s12, s13, s14, s15, s16, s17, s18, .no, .no] := by
    unfold NN
    rw [List.map_map]
    refine lc_ints _ fun i hi => ⟨_, [s0, s1, s2, s3, s4, s5, .v (.int (0 + (i : Int))), s7, s8, s9, s10, s11, s12, s13, s14, s15, s16, s17, s18, .no, .no], rfl, rfl, ?_, rfl⟩
    show _ = ERes.ok (PV.tup [R2 1 1, .tup [R2 (0 + (i : Int)) 1, R2 0 1]]) _
    generalize (0 + (i : Int)) = j
    simp! []
  have rg : rng1 [.int 9] = some (intsP 0 9) := rng1_i (n := 9) (by decide)
  have ln : decide ((intsP 0 9).length ≤ 100000) = true := by decide
  have n6 : noOwn [s0, s1, s2, s3, s4, s5, s6, s7, s8, s9, s10, s11, s12, s13, s14, s15, s16, s17, s18, .no, .no] [6] = true := by
    unfold noOwn
    cases s6 with
    | own p => exact absurd rfl (h6 p)
    | no => rfl
    | v p => rfl
  simp! [ev_lc, rg, n6, ln, wipeE, c, backE]
theorem nn_len : NN.length = 9 := by simp [NN]
theorem many_no {p : PV} (h : noSeq p = true) : F__law_try [p] = .ret (.lst [.int 0, .str "many"]) [] := try_bad (check_no h)
theorem pv_many : Pv 1 (.lst [.int 0, .str "many"]) := Pv.lst fun x hx => by
  simp only [List.mem_cons, List.not_mem_nil, or_false] at hx
  rcases hx with rfl | rfl
  · exact Pv.int _ _
  · exact Pv.str _ _
theorem st20 (s0 s1 s2 s3 s4 s5 s6 s7 s8 s9 s10 s11 s12 s13 s14 s15 s16 s17 s18 : PL.Slot) : law_20 [s0, s1, s2, s3, s4, s5, s6, s7, s8, s9, s10, s11, s12, s13, s14, s15, s16, s17, s18, .v (LT NN), .no] = .nx [s0, s1, s2, s3, s4, s5, s6, s7, s8, s9, s10, s11, s12, s13, s14, s15, s16, s17, s18, .v (LT NN), .no] := by
  unfold law_20
  have e1 : F__law_try [LT NN] = .ret (.lst [.int 0, .str "many"]) [] := try_bad (check_many false (xs := NN.map (ldP true true)) (by rw [List.length_map, nn_len]; decide))
  have e2 : F__law_try [LT (NN.drop 1)] = _ := try_good false true true (L := NN.drop 1) (fun d hd => nn_good d (List.mem_of_mem_drop hd)) (by rw [List.length_drop, nn_len]; decide)
  have e3 := many_no (p := .str "") rfl
  have sl : pSl (LT NN) (some 1) none = some (LT (NN.drop 1)) := by
    have := psl_from (xs := NN.map (ldP true true)) (n := 1) (by rw [List.length_map, nn_len]; decide)
    rw [← List.map_drop] at this
    exact this
  have q1 := pne_t pv_many
  have q2 := pne_t (pv_tt (NN.drop 1))
  generalize NN.drop 1 = N1 at e2 sl q2
  generalize NN = N0 at e1 sl ⊢
  simp! [e1, q1, ev_sl, ev_oN, ev_oS, ev_oI, sl, e2, ptup_l, q2, e3]
theorem st21 (ρ : PEnv) : law_21 ρ = .rt (.bl true) ρ := by
  unfold law_21
  have e1 := many_no (p := .non) rfl
  have e2 : F__law_try [.lst []] = .ret (.tup []) [] := try_good false true true (L := []) (by simp) (by simp)
  have e3 : F_total_of [.tup []] = .ret (rq 0) [] := total_ev true true true (good_bs (L := []) (by simp) (by simp))
  have e4 : F_moment_of [.lst []] = .ret (.tup [rq 0, rq 0]) [] := moment_ev false true true (good_bs (L := []) (by simp) (by simp))
  have q1 := peq_t pv_many
  have q2 : pEq (.tup []) (.tup []) = some (.bl true) := peq_t (Pv.tup (n := 0) (by simp))
  have q3 : pEq (rq 0) (.tup [.int 0, .int 1]) = some (.bl true) := peq_t (Pv.rq (n := 0) 0)
  have q4 : pEq (.tup [rq 0, rq 0]) (.tup [.tup [.int 0, .int 1], .tup [.int 0, .int 1]]) = some (.bl true) := peq_t (pv_q2 0 0)
  generalize rq 0 = z at e3 e4 q3 q4
  simp! [e1, q1, e2, q2, e3, q3, e4, q4]
theorem law_true (ns : List Int) (h : ns.length ≤ 63) : F_law [.scr (ns.map .int)] = .ret (.bl true) [] := by
  obtain ⟨o, e0, h0⟩ := hand_ev ns h
  obtain ⟨m, o1, e1, m0, m1, h1⟩ := take_ev h0 (m := 9) (by decide) (by unfold Bd; decide)
  obtain ⟨n, rfl⟩ := Int.eq_ofNat_of_zero_le m0
  obtain ⟨gr, o2, e2, _, _, h2⟩ := take_ev h1 (m := 3) (by decide) (by unfold Bd; decide)
  obtain ⟨no, o3, e3, _, _, h3⟩ := take_ev h2 (m := 6) (by decide) (by unfold Bd; decide)
  generalize hS : PV.scr (ns.map .int) = SC at e0 ⊢
  obtain ⟨L, o4, s6, s7, s8, e4, h4, hg, lL, h6⟩ := build_loop (.v SC) (.v (.int (n : Int))) (decide (gr = 0)) (decide (no = 0)) (List.replicate 12 .no) (intsP 0 n) [] o3 .no .no .no (fun p => nofun) h3 (by simp) (by rw [intsP_len]; simp; omega)
  rw [intsP_len, List.length_nil, Nat.zero_add] at lL
  subst lL
  have hl : L.length ≤ 8 := by omega
  obtain ⟨K, hK, ok⟩ := repr_ev (sh_given hg hl) (by decide) (by decide)
  have rg := rng1_i (n := L.length) (by omega)
  have x1 : law_1 (.v SC :: List.replicate 20 .no) = .nx (.v SC :: .own o :: List.replicate 19 .no) := by
    unfold law_1
    simp! [e0]
  have x2 : law_2 (.v SC :: .own o :: List.replicate 19 .no) = .nx (.v SC :: .own o1 :: .v (.int L.length) :: List.replicate 18 .no) := by
    unfold law_2
    generalize (L.length : Int) = l at e1
    simp! [e1]
  have x3 : law_3 (.v SC :: .own o1 :: .v (.int L.length) :: List.replicate 18 .no) = .nx (.v SC :: .own o2 :: .v (.int L.length) :: .v (.bl (decide (gr = 0))) :: List.replicate 17 .no) := by
    unfold law_3
    generalize (L.length : Int) = l
    simp! [e2, pe_ii]
  have x4 : law_4 (.v SC :: .own o2 :: .v (.int L.length) :: .v (.bl (decide (gr = 0))) :: List.replicate 17 .no) = .nx (.v SC :: .own o3 :: .v (.int L.length) :: .v (.bl (decide (gr = 0))) :: .v (.bl (decide (no = 0))) :: List.replicate 16 .no) := by
    unfold law_4
    generalize (L.length : Int) = l
    simp! [e3, pe_ii]
  have x5 : law_5 (.v SC :: .own o3 :: .v (.int L.length) :: .v (.bl (decide (gr = 0))) :: .v (.bl (decide (no = 0))) :: List.replicate 16 .no) = .nx (.v SC :: .own o3 :: .v (.int L.length) :: .v (.bl (decide (gr = 0))) :: .v (.bl (decide (no = 0))) :: .own (.lst []) :: List.replicate 15 .no) := by
    unfold law_5
    generalize (L.length : Int) = l
    simp! []
  have x6 : law_6 (.v SC :: .own o3 :: .v (.int L.length) :: .v (.bl (decide (gr = 0))) :: .v (.bl (decide (no = 0))) :: .own (.lst []) :: List.replicate 15 .no) = .nx (.v SC :: .own o4 :: .v (.int L.length) :: .v (.bl (decide (gr = 0))) :: .v (.bl (decide (no = 0))) :: .own (LT L) :: s6 :: s7 :: s8 :: List.replicate 12 .no) := by
    unfold law_6
    rw [List.map_nil] at e4
    generalize law_6_b = bb at e4 ⊢
    generalize (L.length : Int) = l at e4 rg
    simp only [rp_s, rp_0] at e4
    simp! [rg, e4]
  have x7 := st7 (.v SC) (.own o4) (.v (.int L.length)) (.v (.bl (decide (gr = 0)))) (.v (.bl (decide (no = 0)))) s6 s7 s8 hl
  have x8 := st8 hK (.v SC) (.own o4) (.v (.int L.length)) (.v (.bl (decide (gr = 0)))) (.v (.bl (decide (no = 0)))) (.v (LT L)) s6 s7 s8
  have x9 := st9 hg hl (.v SC) (.own o4) (.v (.int L.length)) (.v (.bl (decide (gr = 0)))) (.v (.bl (decide (no = 0)))) (.v (LT L)) s6 s7 s8 (.v (.str K))
  have x10 := st10 hg hl hK ok (.v SC) (.own o4) (.v (.int L.length)) (.v (.bl (decide (gr = 0)))) (.v (.bl (decide (no = 0)))) s6 s7 s8 [.no, .no, .no, .no, .no, .no, .no, .no, .no]
  have x11 := st11 hg hl (.v SC) (.own o4) (.v (.int L.length)) (.v (.bl (decide (gr = 0)))) (.v (.bl (decide (no = 0)))) s6 s7 s8 (.v (GV L)) (.v (.str K)) (.v (TT L)) .no .no .no [.no, .no, .no, .no, .no, .no]
  have x12 := st12 hg hl hK ok (.v SC) (.own o4) (.v (.int L.length)) (.v (.bl (decide (gr = 0)))) (.v (.bl (decide (no = 0)))) (.v (LT L)) s6 s7 s8 (.v (TT L)) [.no, .no, .no, .no, .no, .no]
  have x13 := st13 hg hl (.v SC) (.own o4) (.v (.int L.length)) (.v (.bl (decide (gr = 0)))) (.v (.bl (decide (no = 0)))) (.v (LT L)) s6 s7 s8 (.v (.str K)) (.v (TT L)) (.v (rq (wS L))) (.v (rq (xS L))) (.v (rq (yS L))) .no [.no, .no, .no, .no, .no]
  have x14 := st14 hg hl (.v SC) (.own o4) (.v (.bl (decide (gr = 0)))) (.v (.bl (decide (no = 0)))) s6 s7 s8 (.v (.str K)) (.v (TT L)) [.no, .no, .no, .no, .no]
  have x15 := st15 hl (.v SC) (.own o4) (.v (.bl (decide (gr = 0)))) (.v (.bl (decide (no = 0)))) s6 s7 s8 (.v (GV L)) (.v (.str K)) (.v (TT L)) (.v (rq (wS L))) (.v (rq (xS L))) (.v (rq (yS L))) (.v (midP L))
  have x16 := st16 hg hl (.v SC) (.own o4) (.v (.int L.length)) (.v (.bl (decide (gr = 0)))) (.v (.bl (decide (no = 0)))) (.v (LT L)) s6 s7 s8 (.v (GV L)) (.v (.str K)) (.v (TT L)) [.no, .no, .no, .no]
  obtain ⟨t7, t8, t17, t18, x17⟩ := st17 hg hl (.v SC) (.own o4) (.v (.bl (decide (gr = 0)))) (.v (.bl (decide (no = 0)))) s6 s7 s8 (.v (GV L)) (.v (.str K)) (.v (TT L)) (.v (rq (xS L))) (.v (midP L)) (.v (LT L.reverse)) .no .no [.no, .no]
  obtain ⟨o5, x18⟩ := st18 hg hl h4 (.v SC) (.v (.int L.length)) (.v (.bl (decide (gr = 0)))) (.v (.bl (decide (no = 0)))) (s6 :: t7 :: t8 :: .v (GV L) :: .v (.str K) :: .v (TT L) :: .v (rq (wS L)) :: .v (rq (xS L)) :: .v (rq (yS L)) :: .v (midP L) :: .v (LT L.reverse) :: t17 :: t18 :: [.no, .no])
  have x19 := st19 (.v SC) (.own o5) (.v (.int L.length)) (.v (.bl (decide (gr = 0)))) (.v (.bl (decide (no = 0)))) (.v (LT L)) s6 t7 t8 (.v (GV L)) (.v (.str K)) (.v (TT L)) (.v (rq (wS L))) (.v (rq (xS L))) (.v (rq (yS L))) (.v (midP L)) (.v (LT L.reverse)) t17 t18 h6
  have x20 := st20 (.v SC) (.own o5) (.v (.int L.length)) (.v (.bl (decide (gr = 0)))) (.v (.bl (decide (no = 0)))) (.v (LT L)) s6 t7 t8 (.v (GV L)) (.v (.str K)) (.v (TT L)) (.v (rq (wS L))) (.v (rq (xS L))) (.v (rq (yS L))) (.v (midP L)) (.v (LT L.reverse)) t17 t18
  simp only [rp_s, rp_0] at x1 x2 x3 x4 x5 x6
  show goRun [false] (B_law (.v SC :: List.replicate 20 .no)) = _
  simp only [rp_s, rp_0]
  rw [law_cut, ev_seq, x1, goS_nx, ev_seq, x2, goS_nx, ev_seq, x3, goS_nx, ev_seq, x4, goS_nx, ev_seq, x5, goS_nx, ev_seq, x6, goS_nx, ev_seq, x7, goS_nx, ev_seq, x8, goS_nx, ev_seq, x9, goS_nx, ev_seq, x10, goS_nx, ev_seq, x11, goS_nx, ev_seq, x12, goS_nx, ev_seq, x13, goS_nx, ev_seq, x14, goS_nx, ev_seq, x15, goS_nx, ev_seq, x16, goS_nx, ev_seq, x17, goS_nx, ev_seq, x18, goS_nx, ev_seq, x19, goS_nx, ev_seq, x20, goS_nx, st21]
  rfl
end K07
end

section
open PySem PySem.W PySem.Calls PyProof.Rows
set_option maxRecDepth 100000 in
set_option maxHeartbeats 8000000 in
theorem PySem.Challenge.cw_wherelaid_k07_whole_loads_and_their_cent_holds : PySem.Challenge.rw_wherelaid_k07_whole_loads_and_their_cent.Holds := by
  w_on; o_law
  refine HandSHeadRun.head_imp (r := OpenLaw.row PySem.Challenge.rw_wherelaid_k07_whole_loads_and_their_cent) (q := view (OpenLaw.row PySem.Challenge.rw_wherelaid_k07_whole_loads_and_their_cent).prog [0, 54]) (H := K07.hk) (ob := K07.ob) (M := 20000) (loose := K07.looseA) (d := HandSHeadRun.topDef (OpenLaw.row PySem.Challenge.rw_wherelaid_k07_whole_loads_and_their_cent).prog 54) (kwd := []) K07.ob_eq
    K07.run (by kernel_rfl) (by kernel_rfl) (by kernel_rfl) (by rfl) (by first | assumption | decide +kernel) (by decide +kernel) ⟨rfl, rfl, rfl, rfl, rfl, by decide +kernel⟩ ?hw ?hc
  case hw => w_witness2
  case hc =>
    refine PL.walk_law (l := PySem.Challenge.rw_wherelaid_k07_whole_loads_and_their_cent) (n := 63) (k := 10) (x := "_law_script") rfl (by decide) (by kernel_rfl) ⟨rfl, by decide, by decide⟩ ?F
    intro w mg fa h Y G hmg0
    obtain ⟨K, KX, c⟩ := Y
    have hmg : mg ("law" : PySem.Str) = some (.ref fa) := by
      have e : (HandSHeadRun.topDef (OpenLaw.row PySem.Challenge.rw_wherelaid_k07_whole_loads_and_their_cent).prog 54).name = ("law" : PySem.Str) := by kernel_rfl
      rw [← e]
      exact hmg0
    have hga : fa = He.ga K "law" := by
      have e := hmg.symm.trans (He.glo_ok KX G (c.1.fact 0 (f := .glo "law") rfl))
      cases e
      rfl
    subst hga
    obtain ⟨fd, hb, hF⟩ := K07.facts (P := (PySem.Challenge.rw_wherelaid_k07_whole_loads_and_their_cent).prog) (w := w) KX G c
    refine ⟨K, fd, fun vs H Q _ => PL.spF K mg [false] K07.F_law vs H Q (fun _ _ _ => False), KX, hb, fun H a ns hl _ hS => PL.law_sp (mg := mg) (F := K07.F_law) hS (K07.law_true ns hl), fun base _ _ => PL.noexcG (hF base)⟩
end
