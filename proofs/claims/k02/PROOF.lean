import PyProof.Rows.All
import Wide.All
import OpenK.AllK
import Wide.FinOn
import HandS.ForMost
import HandS.Exc
import HandS.ExcOwn
import HandS.WordsExc
import HandS.CallSlots
import HandS.Defaults
import HandS.HeadHook2
import HandS.Wide
import HandS.TupAny
import HandS.Deep
import HandS.IsInst
import HandS.Property
import HandS.Zip
import HandS.Set
import HandS.SetBool
import HandS.More
import PyProof.Rows.SortShellAny
import HandS.RaiseMore
import HandS.WordsDict
import HandS.SortInts
import HandS.Text
import KE.KOpsOwn
import HandS.MakeKwOnly
import HandS.DictComp
import HandS.Ends
import HandS.EndBits
import HandS.Head0
import HandS.Head1
import HandS.Head2
import HandS.HeadEnd
import HandS.Words
import KE.KIsAll
import HandS.OwnEq
import PyProof.InstEq
import PyProof.StrOps2
import HandS.ExcInit
import HandS.ExcField
import KE.KExcIs
import HandS.ExcIs
import HandS.NoneIn
import KE.KStateDown
import Lean
import PySem.Challenge.RW_anyworker_k02_names_of_cells
set_option Elab.async false
set_option linter.all false
set_option maxRecDepth 100000
set_option exponentiation.threshold 5000
set_option maxHeartbeats 4000000
namespace Mi
abbrev St := L2.St
open PySem PySem.Spec PyProof.Rows L2
/-- plain values: tuples, lists and instances that are never written any more stand as what they hold; ref n is the n-th thing of the store -/
inductive MV where
  | non | bl (b : Bool) | int (i : Int) | str (x : Str)
  | tup (xs : List MV) | lst (xs : List MV) | dic (ks : List Key) (xs : List MV)
  | obj (c : Str) (ns : List Str) (xs : List MV) | ref (n : Nat) | scr (xs : List MV)
  deriving Inhabited
/-- what stands in the store -/
inductive MO where
  | lst (xs : List MV) | dic (ks : List Key) (xs : List MV) | ins (c : Str) (ns : List Str) (xs : List MV) | dead
  deriving Inhabited
abbrev Fg := PySem.W.Frag
abbrev As := List Addr
mutual
def RV (K : Fg) (F : Hp) (p : As) : MV → V → Prop
  | .non, v => v = .non
  | .bl b, v => v = .bl b
  | .int i, v => v = .int i
  | .str x, v => v = .str x
  | .tup xs, v => ∃ a vs, v = .ref a ∧ SqT K F a vs ∧ vs.length ≤ sizeLine ∧ RVs K F p xs vs
  | .lst xs, v => ∃ a vs, v = .ref a ∧ F a = some (.lst vs) ∧ vs.length ≤ sizeLine ∧ RVs K F p xs vs
  | .scr xs, v => ∃ a vs, v = .ref a ∧ SqL K F a vs ∧ vs.length ≤ sizeLine ∧ RVs K F p xs vs
  | .dic ks xs, v => ∃ a kvs, v = .ref a ∧ F a = some (.dK kvs) ∧ kvs.map (·.1) = ks ∧ RVs K F p xs (kvs.map (·.2))
  | .obj c ns xs, v => ∃ a dx fs, v = .ref a ∧ F a = some (.ins (He.ga K c) dx fs) ∧ fs.map (·.1) = ns ∧ RVs K F p xs (fs.map (·.2))
  | .ref n, v => ∃ a, v = .ref a ∧ p[n]? = some a
def RVs (K : Fg) (F : Hp) (p : As) : List MV → List V → Prop
  | [], vs => vs = []
  | x :: xs, vs => ∃ v r, vs = v :: r ∧ RV K F p x v ∧ RVs K F p xs r
end
def RO (K : Fg) (F : Hp) (p : As) : MO → HO → Prop
  | .lst xs, u => ∃ vs, u = .lst vs ∧ vs.length ≤ sizeLine ∧ RVs K F p xs vs
  | .dic ks xs, u => ∃ kvs, u = .dK kvs ∧ kvs.map (·.1) = ks ∧ RVs K F p xs (kvs.map (·.2))
  | .ins c ns xs, u => ∃ dx fs, u = .ins (He.ga K c) dx fs ∧ fs.map (·.1) = ns ∧ RVs K F p xs (fs.map (·.2))
  | .dead, _ => True
def Px (p q : As) : Prop := ∀ (n : Nat) (a : Addr), p[n]? = some a → q[n]? = some a
theorem Px.refl (p : As) : Px p p := fun _ _ h => h
theorem Px.trans {p q r : As} (a : Px p q) (b : Px q r) : Px p r := fun n x h => b n x (a n x h)
theorem Px.app (p q : As) : Px p (p ++ q) := fun n a h => by
  rw [List.getElem?_append_left (List.getElem?_eq_some_iff.mp h).1]; exact h
theorem Px.mem {p q : As} (h : Px p q) {a : Addr} (m : a ∈ p) : a ∈ q := by
  obtain ⟨n, e⟩ := List.getElem?_of_mem m
  exact List.mem_of_getElem? (h n a e)
theorem Same.seqT {K : Fg} {H H' : Hp} {a : Addr} {xs : List V} (e : Same H H') (h : SqT K H a xs) : SqT K H' a xs := by
  unfold SqT Rd at *
  rcases h with (h | ⟨o, h⟩) | h
  · exact .inl (.inl (e _ _ h))
  · exact .inl (.inr ⟨o, e _ _ h⟩)
  · exact .inr h
section
variable {K : Fg} {F F' H H' : Hp} {p q : As}
mutual
theorem RV.mono (s : Same F F') (x : Px p q) : ∀ (m : MV) {v : V}, RV K F p m v → RV K F' q m v
  | .non, _, h => h
  | .bl _, _, h => h
  | .int _, _, h => h
  | .str _, _, h => h
  | .tup xs, v, h => by
    obtain ⟨a, vs, e, h1, h3, h2⟩ := h
    exact ⟨a, vs, e, Same.seqT s h1, h3, RVs.mono s x xs h2⟩
  | .lst xs, v, h => by
    obtain ⟨a, vs, e, h1, h3, h2⟩ := h
    exact ⟨a, vs, e, s _ _ h1, h3, RVs.mono s x xs h2⟩
  | .scr xs, v, h => by
    obtain ⟨a, vs, e, h1, h3, h2⟩ := h
    exact ⟨a, vs, e, s.seq h1, h3, RVs.mono s x xs h2⟩
  | .dic ks xs, v, h => by
    obtain ⟨a, vs, e, h1, h3, h2⟩ := h
    exact ⟨a, vs, e, s _ _ h1, h3, RVs.mono s x xs h2⟩
  | .obj c ns xs, v, h => by
    obtain ⟨a, d, vs, e, h1, h3, h2⟩ := h
    exact ⟨a, d, vs, e, s _ _ h1, h3, RVs.mono s x xs h2⟩
  | .ref n, v, h => by
    obtain ⟨a, e, h1⟩ := h
    exact ⟨a, e, x _ _ h1⟩
theorem RVs.mono (s : Same F F') (x : Px p q) : ∀ (m : List MV) {v : List V}, RVs K F p m v → RVs K F' q m v
  | [], _, h => h
  | y :: ys, _, h => by
    obtain ⟨v, r, e, h1, h2⟩ := h
    exact ⟨v, r, e, RV.mono s x y h1, RVs.mono s x ys h2⟩
end
theorem RO.mono (s : Same F F') (x : Px p q) {o : MO} {u : HO} (h : RO K F p o u) : RO K F' q o u := by
  cases o with
  | lst xs => obtain ⟨vs, e, z, r⟩ := h; exact ⟨vs, e, z, RVs.mono s x _ r⟩
  | dic ks xs => obtain ⟨vs, e, e2, r⟩ := h; exact ⟨vs, e, e2, RVs.mono s x _ r⟩
  | ins c ns xs => obtain ⟨d, vs, e, e2, r⟩ := h; exact ⟨d, vs, e, e2, RVs.mono s x _ r⟩
  | dead => trivial
theorem RVs.length : ∀ {m : List MV} {v : List V}, RVs K F p m v → v.length = m.length
  | [], _, h => by cases h; rfl
  | y :: ys, _, h => by
    obtain ⟨v, r, rfl, h1, h2⟩ := h
    exact congrArg Nat.succ (RVs.length h2)
theorem RVs.get : ∀ {m : List MV} {v : List V} {i : Nat} {x : MV}, RVs K F p m v → m[i]? = some x → ∃ u, v[i]? = some u ∧ RV K F p x u
  | [], _, _, _, h, e => by simp at e
  | y :: ys, _, 0, x, h, e => by
    obtain ⟨v, r, rfl, h1, h2⟩ := h
    have e2 : y = x := by simpa using e
    subst e2
    exact ⟨v, rfl, h1⟩
  | y :: ys, _, i + 1, x, h, e => by
    obtain ⟨v, r, rfl, h1, h2⟩ := h
    obtain ⟨u, a, b⟩ := RVs.get (i := i) (x := x) h2 (by simpa using e)
    exact ⟨u, by simpa using a, b⟩
theorem RVs.app : ∀ {m n : List MV} {v w : List V}, RVs K F p m v → RVs K F p n w → RVs K F p (m ++ n) (v ++ w)
  | [], _, _, _, h, h' => by cases h; exact h'
  | y :: ys, _, _, _, h, h' => by
    obtain ⟨v, r, rfl, h1, h2⟩ := h
    exact ⟨v, r ++ _, rfl, h1, RVs.app h2 h'⟩
theorem RVs.one {x : MV} {v : V} (h : RV K F p x v) : RVs K F p [x] [v] := ⟨v, [], rfl, h, rfl⟩
theorem RVs.setAt : ∀ {m : List MV} {v : List V} {x : MV} {u : V} (i : Nat), RVs K F p m v → RV K F p x u → RVs K F p (m.set i x) (v.set i u)
  | [], _, _, _, _, h, _ => by cases h; exact rfl
  | y :: ys, _, _, _, 0, h, r => by
    obtain ⟨v, q, rfl, h1, h2⟩ := h
    exact ⟨_, q, rfl, r, h2⟩
  | y :: ys, _, _, _, i + 1, h, r => by
    obtain ⟨v, q, rfl, h1, h2⟩ := h
    exact ⟨v, _, rfl, h1, RVs.setAt i h2 r⟩
theorem RVs.drop : ∀ (n : Nat) {m : List MV} {v : List V}, RVs K F p m v → RVs K F p (m.drop n) (v.drop n)
  | 0, _, _, h => h
  | n + 1, [], _, h => by cases h; exact rfl
  | n + 1, y :: ys, _, h => by
    obtain ⟨v, q, rfl, h1, h2⟩ := h
    exact RVs.drop n h2
theorem RVs.take : ∀ (n : Nat) {m : List MV} {v : List V}, RVs K F p m v → RVs K F p (m.take n) (v.take n)
  | 0, _, _, h => rfl
  | n + 1, [], _, h => by cases h; exact rfl
  | n + 1, y :: ys, _, h => by
    obtain ⟨v, q, rfl, h1, h2⟩ := h
    exact ⟨v, _, rfl, h1, RVs.take n h2⟩
end
structure RS (K : Fg) (F : Hp) (p : As) (S : List MO) (H : Hp) : Prop where
  sub : Same F H
  len : p.length = S.length
  inj : ∀ (i j : Nat) (a : Addr), p[i]? = some a → p[j]? = some a → i = j
  ob : ∀ (i : Nat) (o : MO) (a : Addr), S[i]? = some o → p[i]? = some a → ∃ u, H a = some u ∧ (o = .dead ∨ (F a = none ∧ RO K F p o u))
/-- how the world goes on: what is frozen, the store's places, the rest of the heap -/
structure Ext (F : Hp) (p : As) (H : Hp) (F' : Hp) (p' : As) (H' : Hp) : Prop where
  f : Same F F'
  x : Px p p'
  k : ∀ b o, H b = some o → b ∉ p → H' b = some o
  n : ∀ b, b ∈ p' → b ∉ p → H b = none
  g : ∀ b, H b ≠ none → b ∉ p → F b = none → F' b = none
theorem Ext.refl (F : Hp) (p : As) (H : Hp) : Ext F p H F p H := ⟨Same.refl _, Px.refl _, fun _ _ h _ => h, fun _ h h' => absurd h h', fun _ _ _ h => h⟩
theorem Ext.trans {F F1 F2 H H1 H2 : Hp} {p p1 p2 : As} (a : Ext F p H F1 p1 H1) (b : Ext F1 p1 H1 F2 p2 H2) : Ext F p H F2 p2 H2 := by
  have out : ∀ c o, H c = some o → c ∉ p → c ∉ p1 := fun c o e h h' => by
    have z := a.n c h' h
    rw [e] at z; cases z
  refine ⟨a.f.trans b.f, a.x.trans b.x, fun c o e h => b.k c o (a.k c o e h) (out c o e h), fun c h h' => ?_, fun c e h z => ?_⟩
  · by_cases q : c ∈ p1
    · exact a.n c q h'
    · have z := b.n c h q
      cases e : H c with
      | none => rfl
      | some o =>
        have y := a.k c o e h'
        rw [z] at y; cases y
  · cases y : H c with
    | none => exact absurd y e
    | some o => exact b.g c (by rw [a.k c o y h]; simp) (out c o y h) (a.g c e h z)
abbrev En := List (Option MV)
structure RE (K : Fg) (F : Hp) (p : As) (r : En) (σ : St) : Prop where
  len : σ.length = r.length
  at_ : ∀ (i : Nat) (x : MV), r[i]? = some (some x) → ∃ v, σ[i]? = some (some v) ∧ RV K F p x v
section
variable {K : Fg} {F F' H H' : Hp} {p q : As} {r : En} {σ : St}
theorem RE.mono (s : Same F F') (x : Px p q) (h : RE K F p r σ) : RE K F' q r σ := ⟨h.len, fun i m e => by
  obtain ⟨v, e1, e2⟩ := h.at_ i m e
  exact ⟨v, e1, RV.mono s x m e2⟩⟩
theorem RE.ext (x : Ext F p H F' q H') (h : RE K F p r σ) : RE K F' q r σ := h.mono x.f x.x
theorem RE.set {m : MV} {v : V} (h : RE K F p r σ) (e : RV K F p m v) (i : Nat) : RE K F p (r.set i (some m)) (σ.set i (some v)) := by
  refine ⟨by rw [List.length_set, List.length_set, h.len], fun j y z => ?_⟩
  by_cases hj : i = j
  · subst hj
    rw [List.getElem?_set] at z
    simp only [if_true] at z
    split at z
    · rename_i hl
      injection z with z1
      injection z1 with z2
      subst z2
      refine ⟨v, ?_, e⟩
      rw [List.getElem?_set]
      simp [h.len, hl]
    · cases z
  · rw [List.getElem?_set_ne hj] at z
    obtain ⟨u, a, b⟩ := h.at_ j y z
    exact ⟨u, (List.getElem?_set_ne hj).trans a, b⟩
theorem RE.wipe (h : RE K F p r σ) (i : Nat) (o : Option V) : RE K F p (r.set i none) (σ.set i o) := by
  refine ⟨by rw [List.length_set, List.length_set, h.len], fun j y z => ?_⟩
  by_cases hj : i = j
  · subst hj
    rw [List.getElem?_set] at z
    simp only [if_true] at z
    split at z <;> simp at z
  · rw [List.getElem?_set_ne hj] at z
    obtain ⟨u, a, b⟩ := h.at_ j y z
    exact ⟨u, (List.getElem?_set_ne hj).trans a, b⟩
end
abbrev So := List MO
inductive R (α : Type) where
  | ok (x : α) (S : So) | exc (c : Str) (x : MV) (S : So) | bad
def R.bind {α β : Type} : R α → (α → So → R β) → R β
  | .ok x S, k => k x S
  | .exc c x S, _ => .exc c x S
  | .bad, _ => .bad
@[simp] theorem R.bind_ok {α β : Type} (x : α) (S : So) (k : α → So → R β) : (R.ok x S).bind k = k x S := rfl
@[simp] theorem R.bind_exc {α β : Type} (c : Str) (x : MV) (S : So) (k : α → So → R β) : (R.exc c x S).bind k = .exc c x S := rfl
@[simp] theorem R.bind_bad {α β : Type} (k : α → So → R β) : (R.bad).bind k = .bad := rfl
abbrev Rl (α β : Type) := Hp → As → α → β → Prop
def fine {α β : Type} (K : Fg) (L : Rl α β) (F : Hp) (p : As) (H : Hp) (σ : St) (W : WX) (Q : β → Hp → Prop) : R α → Prop
  | .ok x S => ∀ F' p' H' v, Ext F p H F' p' H' → RS K F' p' S H' → L F' p' x v → Q v H'
  | .exc c x S => ∀ F' p' H' v d, Ext F p H F' p' H' → RS K F' p' S H' → RV K F' p' x v → H' d = some (.xd [(("value" : Str), v)]) → W (.ref (He.ga K c)) (some d) σ H'
  | .bad => False
section
variable {K : Fg} {F F1 H H1 : Hp} {p p1 : As} {σ : St} {W : WX} {α β γ δ : Type} {L : Rl α β} {L' : Rl γ δ}
theorem fine.mono {Q : β → Hp → Prop} {r : R α} (h : fine K L F p H σ W Q r) (e : Ext F p H F1 p1 H1) : fine K L F1 p1 H1 σ W Q r := by
  cases r with
  | ok x S => exact fun F' p' H' v x' => h F' p' H' v (e.trans x')
  | exc c x S => exact fun F' p' H' v d x' => h F' p' H' v d (e.trans x')
  | bad => exact h
theorem fine.imp {Q Q' : β → Hp → Prop} {r : R α} (h : fine K L F p H σ W Q r) (i : ∀ v H, Q v H → Q' v H) : fine K L F p H σ W Q' r := by
  cases r with
  | ok x S => exact fun F' p' H' v x' s l => i _ _ (h F' p' H' v x' s l)
  | exc c x S => exact h
  | bad => exact h
theorem fine.bind {Q : δ → Hp → Prop} {Q1 : β → Hp → Prop} {r : R α} {k : α → So → R γ} (h : fine K L' F p H σ W Q (r.bind k))
    (g : ∀ x S F1 p1 H1 v, r = .ok x S → Ext F p H F1 p1 H1 → RS K F1 p1 S H1 → L F1 p1 x v → fine K L' F1 p1 H1 σ W Q (k x S) → Q1 v H1) : fine K L F p H σ W Q1 r := by
  cases r with
  | ok x S => exact fun F' p' H' v x' s l => g x S F' p' H' v rfl x' s l (fine.mono h x')
  | exc c x S => exact h
  | bad => exact h
end
abbrev ME := En → So → R MV
abbrev MA := En → So → R (List MV)
abbrev MT := En → So → R Bool
def LB : Rl Bool Bool := fun _ _ a b => a = b
def tE (K : Fg) (W : WX) (m : ME) : TE := fun σ H Q => ∃ r S F p, RE K F p r σ ∧ RS K F p S H ∧ fine K (RV K) F p H σ W Q (m r S)
def tA (K : Fg) (W : WX) (m : MA) : TA := fun σ H Q => ∃ r S F p, RE K F p r σ ∧ RS K F p S H ∧ fine K (RVs K) F p H σ W Q (m r S)
def tT (K : Fg) (W : WX) (m : MT) : TT := fun σ H Q => ∃ r S F p, RE K F p r σ ∧ RS K F p S H ∧ fine K LB F p H σ W Q (m r S)
abbrev PEm (X : Cx) (W : WX) (e : Expr) (m : ME) : Prop := PE X e (tE X.K W m)
abbrev PAm (X : Cx) (W : WX) (es : List Expr) (m : MA) : Prop := PA X es (tA X.K W m)
abbrev PTm (X : Cx) (W : WX) (e : Expr) (m : MT) : Prop := PT X e (tT X.K W m)
abbrev PWm (X : Cx) (W : WX) (e : Expr) (m : MT) : Prop := PW X e (tT X.K W m)
theorem pe_weak {X : Cx} {e : Expr} {t t' : TE} (h : PE X e t) (i : ∀ σ H Q, t' σ H Q → t σ H Q) : PE X e t' := ⟨fun pins s σ H Q I q => h.run pins s σ H Q I (i σ H Q q)⟩
theorem pa_weak {X : Cx} {e : List Expr} {t t' : TA} (h : PA X e t) (i : ∀ σ H Q, t' σ H Q → t σ H Q) : PA X e t' := ⟨fun pos pins s σ H Q I q => h.run pos pins s σ H Q I (i σ H Q q)⟩
theorem pt_weak {X : Cx} {e : Expr} {t t' : TT} (h : PT X e t) (i : ∀ σ H Q, t' σ H Q → t σ H Q) : PT X e t' := ⟨fun pins s σ H Q I q => h.run pins s σ H Q I (i σ H Q q)⟩
theorem pw_weak {X : Cx} {e : Expr} {t t' : TT} (h : PW X e t) (i : ∀ σ H Q, t' σ H Q → t σ H Q) : PW X e t' := ⟨fun wh pins s σ H Q I q => h.run wh pins s σ H Q I (i σ H Q q)⟩
theorem ps_weak {X : Cx} {e : Stmt} {t t' : TS} (h : PS X e t) (i : ∀ D σ H, t' D σ H → t D σ H) : PS X e t' := ⟨fun pins s σ H D I q => h.run pins s σ H D I (i D σ H q)⟩
theorem pss_weak {X : Cx} {e : List Stmt} {t t' : TS} (h : PSs X e t) (i : ∀ D σ H, t' D σ H → t D σ H) : PSs X e t' := ⟨fun pins s σ H D I q => h.run pins s σ H D I (i D σ H q)⟩
inductive SR where
  | nxt (r : En) (S : So) | ret (x : MV) (S : So) | brk (r : En) (S : So) | cnt (r : En) (S : So) | exc (c : Str) (x : MV) (r : En) (S : So) | bad
abbrev MS := En → So → SR
def fineS (K : Fg) (F : Hp) (p : As) (H : Hp) (W : WX) (D : Ends) : SR → Prop
  | .nxt r S => ∀ F' p' H' σ', Ext F p H F' p' H' → RS K F' p' S H' → RE K F' p' r σ' → D.nx σ' H'
  | .brk r S => ∀ F' p' H' σ', Ext F p H F' p' H' → RS K F' p' S H' → RE K F' p' r σ' → D.bk σ' H'
  | .cnt r S => ∀ F' p' H' σ', Ext F p H F' p' H' → RS K F' p' S H' → RE K F' p' r σ' → D.ct σ' H'
  | .ret x S => ∀ F' p' H' v, Ext F p H F' p' H' → RS K F' p' S H' → RV K F' p' x v → D.rt v H'
  | .exc c x r S => ∀ F' p' H' σ' v d, Ext F p H F' p' H' → RS K F' p' S H' → RE K F' p' r σ' → RV K F' p' x v → H' d = some (.xd [(("value" : Str), v)]) → W (.ref (He.ga K c)) (some d) σ' H'
  | .bad => False
theorem fineS.mono {K : Fg} {F F1 H H1 : Hp} {p p1 : As} {W : WX} {D : Ends} {r : SR} (h : fineS K F p H W D r) (e : Ext F p H F1 p1 H1) : fineS K F1 p1 H1 W D r := by
  cases r with
  | nxt r S => exact fun F' p' H' s x' => h F' p' H' s (e.trans x')
  | brk r S => exact fun F' p' H' s x' => h F' p' H' s (e.trans x')
  | cnt r S => exact fun F' p' H' s x' => h F' p' H' s (e.trans x')
  | ret r S => exact fun F' p' H' v x' => h F' p' H' v (e.trans x')
  | exc c x r S => exact fun F' p' H' s v d x' => h F' p' H' s v d (e.trans x')
  | bad => exact h
def tS (K : Fg) (W : WX) (m : MS) : TS := fun D σ H => ∃ r S F p, RE K F p r σ ∧ RS K F p S H ∧ fineS K F p H W D (m r S)
abbrev PSm (X : Cx) (W : WX) (s : Stmt) (m : MS) : Prop := PS X s (tS X.K W m)
abbrev PBm (X : Cx) (W : WX) (s : List Stmt) (m : MS) : Prop := PSs X s (tS X.K W m)
/-- an expression's result into a statement -/
def R.to {α : Type} (r : En) : R α → (α → So → SR) → SR
  | .ok x S, k => k x S
  | .exc c x S, _ => .exc c x r S
  | .bad, _ => .bad
@[simp] theorem R.to_ok {α : Type} (r : En) (x : α) (S : So) (k : α → So → SR) : (R.ok x S).to r k = k x S := rfl
@[simp] theorem R.to_exc {α : Type} (r : En) (c : Str) (x : MV) (S : So) (k : α → So → SR) : (R.exc c x S).to r k = .exc c x r S := rfl
@[simp] theorem R.to_bad {α : Type} (r : En) (k : α → So → SR) : (R.bad).to r k = .bad := rfl
theorem fine.to {K : Fg} {F H : Hp} {p : As} {r : En} {σ : St} {W : WX} {α β : Type} {L : Rl α β} {D : Ends} {Q1 : β → Hp → Prop} {x : R α} {k : α → So → SR} (hE : RE K F p r σ) (h : fineS K F p H W D (x.to r k))
    (g : ∀ y S F1 p1 H1 v, x = .ok y S → Ext F p H F1 p1 H1 → RS K F1 p1 S H1 → L F1 p1 y v → RE K F1 p1 r σ → fineS K F1 p1 H1 W D (k y S) → Q1 v H1) : fine K L F p H σ W Q1 x := by
  cases x with
  | ok y S => exact fun F' p' H' v x' s l => g y S F' p' H' v rfl x' s l (hE.ext x') (fineS.mono h x')
  | exc c y S => exact fun F' p' H' v d x' s l q => h F' p' H' σ v d x' s (hE.ext x') l q
  | bad => exact h
end Mi

set_option maxHeartbeats 4000000
namespace Mi
open PySem PySem.Spec PyProof.Rows L2
def OpS (X : Cx) (f : Value → Value → Sem Value) (r : L2.St → R2) : Prop :=
  ∀ (pins : List (Addr × Obj)) (s : Shared) (σ : L2.St) (H : Hp) (x y : V) (v u : Value) (Q : VK), Inv X pins σ H s → RelV x v → RelV y u → r σ x y H Q →
    wpAny (model X.prog X.w) X.A (f v u) (EP X pins σ Q) X.xe s
def tOpS (r : L2.St → R2) (ta tb : TE) : TE := fun σ H Q => ta σ H fun x H1 => tb σ H1 fun y H2 => r σ x y H2 Q
abbrev G2 := MV → MV → So → R MV
def rM (K : Fg) (W : WX) (g : G2) : L2.St → R2 := fun σ v w H Q => ∃ x y S F p, RS K F p S H ∧ RV K F p x v ∧ RV K F p y w ∧ fine K (RV K) F p H σ W Q (g x y S)
abbrev OpM (X : Cx) (W : WX) (f : Value → Value → Sem Value) (g : G2) : Prop := OpS X f (rM X.K W g)
def mBin (g : G2) (a b : ME) : ME := fun r S => (a r S).bind fun x S => (b r S).bind fun y S => g x y S
section
variable {X : Cx} {W : WX} {a b c : Expr} {ma mb mc : ME} {pos : Pos}
theorem pe_opS {op : Operator} {r : L2.St → R2} {ta tb : TE} (ho : OpS X (binaryOp op) r) (ha : PE X a ta) (hb : PE X b tb) : PE X (.BinOp a op b pos) (tOpS r ta tb) :=
  ⟨fun pins s σ H Q I h => wpAny_BinOp (binT ha hb I h fun v u s2 x y H2 I2 rx ry q => ho pins s2 σ H2 x y v u Q I2 rx ry q)⟩
theorem pe_cmpS {op : CmpOp} {r : L2.St → R2} {ta tb : TE} (ho : OpS X (compareOp op) r) (ha : PE X a ta) (hb : PE X b tb) (hm : behindInMarks op b = false) : PE X (.Compare a [op] [b] pos) (tOpS r ta tb) :=
  ⟨fun pins s σ H Q I h => wpAny_Compare1 (binT ha hb I h fun v u s2 x y H2 I2 rx ry q => ho pins s2 σ H2 x y v u Q I2 rx ry q) hm⟩
theorem two_weak {g : G2} {σ : L2.St} {H : Hp} {Q : VK} (h : tE X.K W (mBin g ma mb) σ H Q) : tOpS (rM X.K W g) (tE X.K W ma) (tE X.K W mb) σ H Q := by
  obtain ⟨r, S, F, p, hE, hS, h⟩ := h
  refine ⟨r, S, F, p, hE, hS, fine.bind h fun x S1 F1 p1 H1 v _ e1 s1 l1 h1 => ?_⟩
  refine ⟨r, S1, F1, p1, hE.ext e1, s1, fine.bind h1 fun y S2 F2 p2 H2 w _ e2 s2 l2 h2 => ?_⟩
  exact ⟨x, y, S2, F2, p2, s2, RV.mono e2.f e2.x x l1, l2, h2⟩
theorem mp_op {op : Operator} {g : G2} (ho : OpM X W (binaryOp op) g) (ha : PEm X W a ma) (hb : PEm X W b mb) : PEm X W (.BinOp a op b pos) (mBin g ma mb) :=
  pe_weak (pe_opS ho ha hb) fun _ _ _ h => two_weak h
theorem mp_cmp {op : CmpOp} {g : G2} (ho : OpM X W (compareOp op) g) (ha : PEm X W a ma) (hb : PEm X W b mb) (hm : behindInMarks op b = false) : PEm X W (.Compare a [op] [b] pos) (mBin g ma mb) :=
  pe_weak (pe_cmpS ho ha hb hm) fun _ _ _ h => two_weak h
/-- the first way that is not refused -/
def gOr (g h : G2) : G2 := fun x y S => match g x y S with
  | .bad => h x y S
  | r => r
theorem om_or {f : Value → Value → Sem Value} {g h : G2} (a : OpM X W f g) (b : OpM X W f h) : OpM X W f (gOr g h) := by
  intro pins s σ H x y v u Q I rx ry ⟨mx, my, S, F, p, hS, h1, h2, hq⟩
  unfold gOr at hq
  cases e : g mx my S with
  | bad => rw [e] at hq; exact b pins s σ H x y v u Q I rx ry ⟨mx, my, S, F, p, hS, h1, h2, hq⟩
  | ok z S' => exact a pins s σ H x y v u Q I rx ry ⟨mx, my, S, F, p, hS, h1, h2, by rw [e] at hq ⊢; exact hq⟩
  | exc c z S' => exact a pins s σ H x y v u Q I rx ry ⟨mx, my, S, F, p, hS, h1, h2, by rw [e] at hq ⊢; exact hq⟩
/-- over a rule by values -/
theorem om_of {f : Value → Value → Sem Value} {g : G2} {r : R2} (h : OpR X f r)
    (i : ∀ x y S F p v w H σ Q, RS X.K F p S H → RV X.K F p x v → RV X.K F p y w → fine X.K (RV X.K) F p H σ W Q (g x y S) → r v w H Q) : OpM X W f g := by
  intro pins s σ H x y v u Q I rx ry ⟨mx, my, S, F, p, hS, h1, h2, hq⟩
  exact h pins s σ H x y v u Q I rx ry (i mx my S F p x y H σ Q hS h1 h2 hq)
theorem fine.done {K : Fg} {F H : Hp} {p : As} {σ : L2.St} {Q : VK} {x : MV} {S : So} {v : V} (h : fine K (RV K) F p H σ W Q (.ok x S)) (hS : RS K F p S H) (r : RV K F p x v) : Q v H := h F p H v (Ext.refl _ _ _) hS r
def gI (f : Int → Int → R MV → R MV) (k : Int → Int → MV) : G2 := fun x y S => match x, y with
  | .int i, .int j => f i j (.ok (k i j) S)
  | _, _ => .bad
def gII (c : Int → Int → Bool) (k : Int → Int → MV) : G2 := fun x y S => match x, y with
  | .int i, .int j => if c i j then .ok (k i j) S else .bad
  | _, _ => .bad
theorem gII_ok {c : Int → Int → Bool} {k : Int → Int → MV} {K : Fg} {F H : Hp} {p : As} {σ : L2.St} {Q : VK} {x y : MV} {S : So} (h : fine K (RV K) F p H σ W Q (gII c k x y S)) :
    ∃ i j, x = .int i ∧ y = .int j ∧ c i j = true ∧ fine K (RV K) F p H σ W Q (.ok (k i j) S) := by
  unfold gII at h
  split at h
  · split at h
    · rename_i z; exact ⟨_, _, rfl, rfl, z, h⟩
    · exact h.elim
  · exact h.elim
theorem om_int {f : Value → Value → Sem Value} {c : Int → Int → Bool} {C : Int → Int → Prop} {k : Int → Int → MV} {kv : Int → Int → V} (h : OpR X f (rI C kv)) (hc : ∀ i j, c i j = true → C i j)
    (hk : ∀ K F p i j, RV K F p (k i j) (kv i j)) : OpM X W f (gII c k) := by
  refine om_of h fun x y S F p v w H σ Q hS h1 h2 hq => ?_
  obtain ⟨i, j, rfl, rfl, z, hq⟩ := gII_ok hq
  cases h1; cases h2
  exact ⟨i, j, rfl, rfl, hc i j z, hq.done hS (hk _ _ _ _ _)⟩
theorem om_int0 {f : Value → Value → Sem Value} {k : Int → Int → MV} {kv : Int → Int → V} (h : OpR X f (rI0 kv))
    (hk : ∀ K F p i j, RV K F p (k i j) (kv i j)) : OpM X W f (gII (fun _ _ => true) k) := by
  refine om_of h fun x y S F p v w H σ Q hS h1 h2 hq => ?_
  obtain ⟨i, j, rfl, rfl, z, hq⟩ := gII_ok hq
  cases h1; cases h2
  exact ⟨i, j, rfl, rfl, hq.done hS (hk _ _ _ _ _)⟩
end
section
variable {X : Cx} {W : WX} {pos : Pos}
def mName (i : Nat) : ME := fun r S => match r[i]? with
  | some (some x) => .ok x S
  | _ => .bad
def mC (x : MV) : ME := fun _ S => .ok x S
theorem mp_name (i : Nat) {x : Str} (hN : X.N[i]? = some x := by rfl) (hv : Vis X.env.scope x := by first | exact Or.inl rfl | exact Or.inr (Or.inl rfl) | exact Or.inr (Or.inr rfl)) (hd : (x == ("__debug__" : Str)) = false := by decide)
    (hcd : (x == ("__classdict__" : Str)) = false := by decide) : PEm X W (.Name x pos) (mName i) := pe_weak (pe_var hN hv hd hcd) fun σ H Q h => by
  obtain ⟨r, S, F, p, hE, hS, h⟩ := h
  unfold mName at h
  split at h
  · rename_i y e
    obtain ⟨v, e1, e2⟩ := hE.at_ i y e
    exact ⟨v, e1, h.done hS e2⟩
  · exact h.elim
theorem mp_const {e : Expr} {v : V} {x : MV} (h : PE X e (tC v)) (hx : ∀ K F p, RV K F p x v) : PEm X W e (mC x) := pe_weak h fun σ H Q h => by
  obtain ⟨r, S, F, p, hE, hS, h⟩ := h
  exact h.done hS (hx _ _ _)
theorem mp_int {i : Int} {j} : PEm X W (.Constant (.int i) j pos) (mC (.int i)) := mp_const pe_int fun _ _ _ => rfl
theorem mp_bl {i : Bool} {j} : PEm X W (.Constant (.bool i) j pos) (mC (.bl i)) := mp_const pe_bl fun _ _ _ => rfl
theorem mp_non {j} : PEm X W (.Constant .none j pos) (mC .non) := mp_const pe_non fun _ _ _ => rfl
theorem mp_str {i : Str} {j} : PEm X W (.Constant (.str i) j pos) (mC (.str i)) := mp_const pe_str fun _ _ _ => rfl
theorem mp_globI {x : Str} {i : Int} (hg : Gl X x) (hm : ∃ t, X.mg x = some (.int i t)) (hd : (x == ("__debug__" : Str)) = false := by decide) : PEm X W (.Name x pos) (mC (.int i)) := by
  obtain ⟨t, hm⟩ := hm
  exact mp_const (pe_glob (v := .int i) hg hm ⟨t, rfl⟩ hd) fun _ _ _ => rfl
theorem mp_globS {x i : Str} (hg : Gl X x) (hm : ∃ t, X.mg x = some (.str i t)) (hd : (x == ("__debug__" : Str)) = false := by decide) : PEm X W (.Name x pos) (mC (.str i)) := by
  obtain ⟨t, hm⟩ := hm
  exact mp_const (pe_glob (v := .str i) hg hm ⟨t, rfl⟩ hd) fun _ _ _ => rfl
end
def okMul (i j : Int) : Bool := decide (i.natAbs < 2 ^ 64) || decide (j.natAbs < 2 ^ 64) || (decide (i.natAbs < 2 ^ 4000) && decide (j.natAbs < 2 ^ 4000))
def okPow (i j : Int) : Bool := decide (0 ≤ j) && decide (j ≤ 100) && decide (i.natAbs < 2 ^ 4000)
def okDiv (_ j : Int) : Bool := decide (0 < j) && decide (j.natAbs < 2 ^ 4000)
def okMod (_ j : Int) : Bool := decide (0 < j)
abbrev yes2 (_ _ : Int) : Bool := true
def oAddI : G2 := gII yes2 fun i j => .int (i + j)
def oSubI : G2 := gII yes2 fun i j => .int (i - j)
def oMulI : G2 := gII okMul fun i j => .int (i * j)
def oDivI : G2 := gII okDiv fun i j => .int (i / j)
def oModI : G2 := gII okMod fun i j => .int (i % j)
def oPowI : G2 := gII okPow fun i j => .int (i ^ j.toNat)
def oLtI : G2 := gII yes2 fun i j => .bl (decide (i < j))
def oLeI : G2 := gII yes2 fun i j => .bl (decide (i ≤ j))
def oGtI : G2 := gII yes2 fun i j => .bl (decide (j < i))
def oGeI : G2 := gII yes2 fun i j => .bl (decide (j ≤ i))
theorem bits_of {i : Int} {n : Nat} (h0 : 0 < n) (h : i.natAbs < 2 ^ n) : Builtin.Int.intBits i ≤ n := by
  unfold Builtin.Int.intBits
  split
  · exact Nat.zero_le _
  · have := PySem.Flt.log2_lt_of h0 h
    omega
theorem okMul_ok {i j : Int} (h : okMul i j = true) : IntMulOk i j := by
  unfold okMul at h
  rcases Bool.or_eq_true_iff.mp h with h | h
  · rcases Bool.or_eq_true_iff.mp h with h | h
    · exact .of_left (bits_of (by decide) (of_decide_eq_true h))
    · exact .of_right (bits_of (by decide) (of_decide_eq_true h))
  · obtain ⟨h1, h2⟩ := Bool.and_eq_true_iff.mp h
    exact .of_bits (Nat.le_trans (bits_of (by decide) (of_decide_eq_true h1)) (by decide)) (Nat.le_trans (bits_of (by decide) (of_decide_eq_true h2)) (by decide))
theorem okPow_ok {i j : Int} (h : okPow i j = true) : 0 ≤ j ∧ ((Builtin.Int.intBits i : Nat) : Int) * j ≤ 2 ^ 27 := by
  unfold okPow at h
  obtain ⟨h, h3⟩ := Bool.and_eq_true_iff.mp h
  obtain ⟨h1, h2⟩ := Bool.and_eq_true_iff.mp h
  have a := of_decide_eq_true h1
  have b := of_decide_eq_true h2
  have c := bits_of (by decide : 0 < 4000) (of_decide_eq_true h3)
  have e : ((Builtin.Int.intBits i : Nat) : Int) * j ≤ 4000 * 100 := Int.mul_le_mul (by omega) b a (by decide)
  exact ⟨a, Int.le_trans e (by decide)⟩
section
variable {X : Cx} {W : WX}
theorem om_addI : OpM X W (binaryOp .Add) oAddI := om_int0 op_add fun _ _ _ _ _ => rfl
theorem om_subI : OpM X W (binaryOp .Sub) oSubI := om_int0 op_sub fun _ _ _ _ _ => rfl
theorem om_mulI : OpM X W (binaryOp .Mult) oMulI := om_int (C := fun i j => okMul i j = true) (opI fun _ _ _ _ _ _ _ hc q => mul_int q (okMul_ok hc)) (fun _ _ h => h) fun _ _ _ _ _ => rfl
theorem om_divI : OpM X W (binaryOp .FloorDiv) oDivI := om_int op_fdivW (fun i j h => by
  unfold okDiv at h
  obtain ⟨h1, h2⟩ := Bool.and_eq_true_iff.mp h
  exact wide_div (of_decide_eq_true h1) (of_decide_eq_true h2) (by decide) (by decide)) fun _ _ _ _ _ => rfl
theorem om_modI : OpM X W (binaryOp .Mod) oModI := om_int (C := fun i j => okMod i j = true) (kv := fun i j => .int (i % j)) (opI fun i j _ _ _ _ _ hc q => by
  have h1 : 0 < j := of_decide_eq_true hc
  refine mod_int' (by omega) ?_
  rw [Int.fmod_eq_emod_of_nonneg i (by omega)]
  exact q) (fun _ _ h => h) fun _ _ _ _ _ => rfl
theorem om_powI : OpM X W (binaryOp .Pow) oPowI := om_int (C := fun i j => okPow i j = true) (kv := fun i j => .int (i ^ j.toNat)) (opI fun i j _ _ _ _ _ hc q => pow_int (okPow_ok hc).1 (okPow_ok hc).2 q) (fun _ _ h => h) fun _ _ _ _ _ => rfl
theorem om_ltI : OpM X W (compareOp .Lt) oLtI := om_int0 op_lt fun _ _ _ _ _ => rfl
theorem om_leI : OpM X W (compareOp .LtE) oLeI := om_int0 op_le fun _ _ _ _ _ => rfl
theorem om_gtI : OpM X W (compareOp .Gt) oGtI := om_int0 op_gt fun _ _ _ _ _ => rfl
theorem om_geI : OpM X W (compareOp .GtE) oGeI := om_int0 op_ge fun _ _ _ _ _ => rfl
end
end Mi

set_option maxHeartbeats 4000000
namespace Mi
open PySem PySem.Spec PyProof.Rows L2
section
variable {K : Fg} {F H : Hp} {p : As} {S : So} {q a : Addr} {o : MO} {u : HO}
theorem RS.free (h : RS K F p S H) (hq : H q = none) : F q = none := Same.free h.sub hq
theorem RS.notIn (h : RS K F p S H) (hq : H q = none) : q ∉ p := fun m => by
  obtain ⟨n, e⟩ := List.getElem?_of_mem m
  have hl : n < S.length := by rw [← h.len]; exact (List.getElem?_eq_some_iff.mp e).1
  obtain ⟨w, e2, _⟩ := h.ob n S[n] q (List.getElem?_eq_getElem hl) e
  rw [hq] at e2; cases e2
theorem Same.updF {F : Hp} (h : F q = none) : Same F (upd F q u) := fun b o e => by rw [upd_ne (ne_of_none e h)]; exact e
/-- a new thing that is never written -/
theorem RS.frozen (h : RS K F p S H) (hq : H q = none) : RS K (upd F q u) p S (upd H q u) := by
  have fq := h.free hq
  refine ⟨fun b w e => ?_, h.len, h.inj, fun i o a e1 e2 => ?_⟩
  · by_cases hb : b = q
    · rw [hb, upd_same] at e ⊢; exact e
    · rw [upd_ne hb] at e ⊢; exact h.sub b w e
  · obtain ⟨w, e3, e4⟩ := h.ob i o a e1 e2
    have ne : a ≠ q := ne_of_none e3 hq
    refine ⟨w, by rw [upd_ne ne]; exact e3, e4.imp id fun ⟨x, y⟩ => ⟨by rw [upd_ne ne]; exact x, y.mono (Same.updF fq) (Px.refl _)⟩⟩
theorem RS.frozenE (h : RS K F p S H) (hq : H q = none) : Ext F p H (upd F q u) p (upd H q u) :=
  ⟨Same.updF (h.free hq), Px.refl _, fun b o e _ => by rw [upd_ne (ne_of_none e hq)]; exact e, fun _ a b => absurd a b, fun b e _ z => by
    cases y : H b with
    | none => exact absurd y e
    | some o => rw [upd_ne (ne_of_none y hq)]; exact z⟩
/-- a new thing of the store -/
theorem RS.fresh (h : RS K F p S H) (hq : H q = none) (r : RO K F p o u) : RS K F (p ++ [q]) (S ++ [o]) (upd H q u) := by
  have fq := h.free hq
  refine ⟨fun b w e => ?_, by simp [h.len], fun i j a e1 e2 => ?_, fun i o' a e1 e2 => ?_⟩
  · rw [upd_ne (ne_of_none e fq)]; exact h.sub b w e
  · have nq := h.notIn hq
    rw [List.getElem?_append] at e1 e2
    split at e1
    · rename_i hi
      split at e2
      · exact h.inj i j a e1 e2
      · have ea : q = a := by
          rw [List.getElem?_singleton] at e2
          split at e2
          · exact Option.some.inj e2
          · cases e2
        exact absurd (ea ▸ List.mem_of_getElem? e1) nq
    · rename_i hi
      have ea : i - p.length = 0 ∧ q = a := by
        rw [List.getElem?_singleton] at e1
        split at e1
        · exact ⟨by assumption, Option.some.inj e1⟩
        · cases e1
      split at e2
      · exact absurd (ea.2 ▸ List.mem_of_getElem? e2) nq
      · rw [List.getElem?_singleton] at e2
        split at e2
        · omega
        · cases e2
  · rw [List.getElem?_append] at e1 e2
    rw [h.len] at e2
    split at e1
    · rename_i hi
      rw [if_pos hi] at e2
      obtain ⟨w, e3, e4⟩ := h.ob i o' a e1 e2
      exact ⟨w, by rw [upd_ne (ne_of_none e3 hq)]; exact e3, e4.imp id fun ⟨x, y⟩ => ⟨x, y.mono (Same.refl _) (Px.app _ _)⟩⟩
    · rename_i hi
      rw [if_neg hi, List.getElem?_singleton] at e2
      rw [List.getElem?_singleton] at e1
      split at e1
      · cases e1
        rename_i hz
        rw [if_pos hz] at e2
        cases e2
        exact ⟨u, upd_same, .inr ⟨fq, r.mono (Same.refl _) (Px.app _ _)⟩⟩
      · cases e1
theorem RS.freshE (h : RS K F p S H) (hq : H q = none) : Ext F p H F (p ++ [q]) (upd H q u) :=
  ⟨Same.refl _, Px.app _ _, fun b o e _ => by rw [upd_ne (ne_of_none e hq)]; exact e, fun b m n => by
    rcases List.mem_append.mp m with m | m
    · exact absurd m n
    · rw [List.mem_singleton.mp m]; exact hq, fun b _ _ z => z⟩
theorem RS.at (h : RS K F p S H) {n : Nat} (e : S[n]? = some o) : ∃ a u, p[n]? = some a ∧ H a = some u ∧ (o = .dead ∨ (F a = none ∧ RO K F p o u)) := by
  have hl : n < p.length := by rw [h.len]; exact (List.getElem?_eq_some_iff.mp e).1
  obtain ⟨w, e3, e4⟩ := h.ob n o p[n] e (List.getElem?_eq_getElem hl)
  exact ⟨p[n], w, List.getElem?_eq_getElem hl, e3, e4⟩
/-- a thing of the store is written -/
theorem RS.write (h : RS K F p S H) {n : Nat} (hn : p[n]? = some a) (hF : F a = none) (r : RO K F p o u) : RS K F p (S.set n o) (upd H a u) := by
  refine ⟨fun b w e => ?_, by simp [h.len], h.inj, fun i o' b e1 e2 => ?_⟩
  · rw [upd_ne (ne_of_none e hF)]; exact h.sub b w e
  · by_cases hi : n = i
    · subst hi
      have eb : a = b := Option.some.inj (hn.symm.trans e2)
      subst eb
      have eo : o = o' := by
        rw [List.getElem?_set] at e1
        simp only [if_true] at e1
        split at e1
        · exact Option.some.inj e1
        · cases e1
      subst eo
      exact ⟨u, upd_same, .inr ⟨hF, r⟩⟩
    · rw [List.getElem?_set_ne hi] at e1
      obtain ⟨w, e3, e4⟩ := h.ob i o' b e1 e2
      have nb : b ≠ a := fun z => hi (h.inj n i a hn (z ▸ e2))
      exact ⟨w, by rw [upd_ne nb]; exact e3, e4⟩
theorem RS.writeE {n : Nat} (hn : p[n]? = some a) : Ext F p H F p (upd H a u) :=
  ⟨Same.refl _, Px.refl _, fun b o e m => by
    rw [upd_ne (fun z => m (by rw [z]; exact List.mem_of_getElem? hn))]; exact e, fun _ a b => absurd a b, fun b _ _ z => z⟩
/-- a thing of the store is written no more -/
theorem RS.freeze (h : RS K F p S H) {n : Nat} (hn : p[n]? = some a) (hH : H a = some u) (hF : F a = none) : RS K (upd F a u) p (S.set n .dead) H := by
  refine ⟨fun b w e => ?_, by simp [h.len], h.inj, fun i o' b e1 e2 => ?_⟩
  · by_cases hb : b = a
    · rw [hb, upd_same] at e
      rw [hb, hH]; exact e
    · rw [upd_ne hb] at e; exact h.sub b w e
  · by_cases hi : n = i
    · subst hi
      have eb : a = b := Option.some.inj (hn.symm.trans e2)
      subst eb
      have eo : MO.dead = o' := by
        rw [List.getElem?_set] at e1
        simp only [if_true] at e1
        split at e1
        · exact Option.some.inj e1
        · cases e1
      subst eo
      exact ⟨u, hH, .inl rfl⟩
    · rw [List.getElem?_set_ne hi] at e1
      obtain ⟨w, e3, e4⟩ := h.ob i o' b e1 e2
      have nb : b ≠ a := fun z => hi (h.inj n i a hn (z ▸ e2))
      exact ⟨w, e3, e4.imp id fun ⟨x, y⟩ => ⟨by rw [upd_ne nb]; exact x, y.mono (Same.updF hF) (Px.refl _)⟩⟩
theorem RS.freezeE {n : Nat} (hn : p[n]? = some a) (hF : F a = none) : Ext F p H (upd F a u) p H :=
  ⟨Same.updF hF, Px.refl _, fun _ _ e _ => e, fun _ a b => absurd a b, fun b _ m z => by
    rw [upd_ne (fun z => m (by rw [z]; exact List.mem_of_getElem? hn))]; exact z⟩
end
def aNil : MA := fun _ S => .ok [] S
def aCons (m : ME) (ms : MA) : MA := fun r S => (m r S).bind fun x S => (ms r S).bind fun xs S => .ok (x :: xs) S
def mArgs : List ME → MA
  | [] => aNil
  | m :: ms => aCons m (mArgs ms)
section
variable {X : Cx} {W : WX} {pos : Pos} {e : Expr} {es : List Expr} {m : ME} {ms : List ME}
theorem ma_nil : PAm X W [] (mArgs []) := pa_weak pa_nil fun σ H Q h => by
  obtain ⟨r, S, F, p, hE, hS, h⟩ := h
  exact h F p H [] (Ext.refl _ _ _) hS rfl
theorem ma_cons (ha : PEm X W e m) (hr : PAm X W es (mArgs ms)) (hs : starEach (e :: es) X.env = (false, eval e X.env) :: starEach es X.env := by rfl) : PAm X W (e :: es) (mArgs (m :: ms)) :=
  pa_weak (pa_cons ha hr hs) fun σ H Q h => by
    obtain ⟨r, S, F, p, hE, hS, h⟩ := h
    refine ⟨r, S, F, p, hE, hS, fine.bind h fun x S1 F1 p1 H1 v _ e1 s1 l1 h1 => ?_⟩
    refine ⟨r, S1, F1, p1, hE.ext e1, s1, fine.bind h1 fun y S2 F2 p2 H2 w _ e2 s2 l2 h2 => ?_⟩
    exact h2 F2 p2 H2 _ (Ext.refl _ _ _) s2 ⟨_, _, rfl, RV.mono e2.f e2.x x l1, l2⟩
theorem mArgs_length : ∀ {ms : List ME} {r : En} {S S' : So} {xs : List MV}, mArgs ms r S = .ok xs S' → xs.length = ms.length
  | [], _, _, _, _, h => by cases h; rfl
  | m :: ms, r, S, S', xs, h => by
    unfold mArgs aCons at h
    cases e : m r S with
    | bad => rw [e] at h; cases h
    | exc c x S1 => rw [e] at h; cases h
    | ok x S1 =>
      rw [e] at h
      simp only [R.bind_ok] at h
      cases e2 : mArgs ms r S1 with
      | bad => rw [e2] at h; cases h
      | exc c x S1 => rw [e2] at h; cases h
      | ok ys S2 =>
        rw [e2] at h
        cases h
        exact congrArg Nat.succ (mArgs_length e2)
def mTup (ms : List ME) : ME := fun r S => (mArgs ms r S).bind fun xs S => .ok (.tup xs) S
def mLst (ms : List ME) : ME := fun r S => (mArgs ms r S).bind fun xs S => .ok (.lst xs) S
def mLstM (ms : List ME) : ME := fun r S => (mArgs ms r S).bind fun xs S => .ok (.ref S.length) (S ++ [.lst xs])
theorem small_line {n : Nat} (h : n ≤ 1000) : n ≤ sizeLine := Nat.le_of_lt (small1000 h)
theorem mp_tup {x1} (ha : PAm X W es (mArgs ms)) (hl : ms.length ≤ 1000 := by first | decide | exact Nat.le_of_ble_eq_true rfl) : PEm X W (.Tuple es x1 pos) (mTup ms) := pe_weak (pe_tup ha) fun σ H Q h => by
  obtain ⟨r, S, F, p, hE, hS, h⟩ := h
  refine ⟨r, S, F, p, hE, hS, fine.bind h fun xs S1 F1 p1 H1 vs e _ s1 l1 h1 => ?_⟩
  have hz : vs.length ≤ sizeLine := by rw [l1.length, mArgs_length e]; exact small_line hl
  refine ⟨hz, fun q hq => h1 _ _ _ _ (s1.frozenE hq) (s1.frozen hq) ⟨q, vs, rfl, .inl (.inl upd_same), hz, RVs.mono (Same.updF (s1.free hq)) (Px.refl _) _ l1⟩⟩
theorem mp_lst (ha : PAm X W es (mArgs ms)) (hl : ms.length ≤ 1000 := by first | decide | exact Nat.le_of_ble_eq_true rfl) : PEm X W (.List es pos) (mLst ms) := pe_weak (pe_lst ha) fun σ H Q h => by
  obtain ⟨r, S, F, p, hE, hS, h⟩ := h
  refine ⟨r, S, F, p, hE, hS, fine.bind h fun xs S1 F1 p1 H1 vs e _ s1 l1 h1 => ?_⟩
  have hz : vs.length ≤ sizeLine := by rw [l1.length, mArgs_length e]; exact small_line hl
  refine ⟨hz, fun q hq => h1 _ _ _ _ (s1.frozenE hq) (s1.frozen hq) ⟨q, vs, rfl, upd_same, hz, RVs.mono (Same.updF (s1.free hq)) (Px.refl _) _ l1⟩⟩
theorem RS.refAt {K : Fg} {F H : Hp} {p : As} {S : So} {q : Addr} (h : RS K F p S H) : (p ++ [q])[S.length]? = some q := by
  rw [← h.len, List.getElem?_append_right (Nat.le_refl _), Nat.sub_self]; rfl
theorem mp_lstM (ha : PAm X W es (mArgs ms)) (hl : ms.length ≤ 1000 := by first | decide | exact Nat.le_of_ble_eq_true rfl) : PEm X W (.List es pos) (mLstM ms) := pe_weak (pe_lst ha) fun σ H Q h => by
  obtain ⟨r, S, F, p, hE, hS, h⟩ := h
  refine ⟨r, S, F, p, hE, hS, fine.bind h fun xs S1 F1 p1 H1 vs e _ s1 l1 h1 => ?_⟩
  have hz : vs.length ≤ sizeLine := by rw [l1.length, mArgs_length e]; exact small_line hl
  refine ⟨hz, fun q hq => h1 _ _ _ _ (s1.freshE hq) (s1.fresh hq ⟨vs, rfl, hz, l1⟩) ⟨q, rfl, s1.refAt⟩⟩
/-- a list, dict or instance that is written no more stands for what it holds from here on (nothing of the text) -/
def frz (x : MV) (S : So) : R MV := match x with
  | .ref n => match S[n]? with
    | some (.lst xs) => .ok (.lst xs) (S.set n .dead)
    | some (.dic ks xs) => .ok (.dic ks xs) (S.set n .dead)
    | some (.ins c ns xs) => .ok (.obj c ns xs) (S.set n .dead)
    | _ => .bad
  | x => .ok x S
def mFrz (m : ME) : ME := fun r S => (m r S).bind frz
theorem frz_ok {K : Fg} {F H : Hp} {p : As} {σ : L2.St} {Q : VK} {x : MV} {S : So} {v : V} (hS : RS K F p S H) (l : RV K F p x v) (h : fine K (RV K) F p H σ W Q (frz x S)) : Q v H := by
  cases x with
  | ref n =>
    obtain ⟨a, rfl, ha⟩ := l
    unfold frz at h
    cases e : S[n]? with
    | none => simp only [e] at h; exact h.elim
    | some o =>
      simp only [e] at h
      obtain ⟨a', u, e1, e2, e3⟩ := hS.at e
      have ea : a' = a := Option.some.inj (e1.symm.trans ha)
      subst ea
      cases o with
      | lst xs =>
        obtain ⟨hF, vs, rfl, hz, l2⟩ := e3.resolve_left (by intro z; cases z)
        exact h _ _ _ _ (RS.freezeE e1 hF) (hS.freeze e1 e2 hF) ⟨_, vs, rfl, upd_same, hz, RVs.mono (Same.updF hF) (Px.refl _) _ l2⟩
      | dic ks xs =>
        obtain ⟨hF, kvs, rfl, hz, l2⟩ := e3.resolve_left (by intro z; cases z)
        exact h _ _ _ _ (RS.freezeE e1 hF) (hS.freeze e1 e2 hF) ⟨_, kvs, rfl, upd_same, hz, RVs.mono (Same.updF hF) (Px.refl _) _ l2⟩
      | ins c ns xs =>
        obtain ⟨hF, dx, fs, rfl, hz, l2⟩ := e3.resolve_left (by intro z; cases z)
        exact h _ _ _ _ (RS.freezeE e1 hF) (hS.freeze e1 e2 hF) ⟨_, dx, fs, rfl, upd_same, hz, RVs.mono (Same.updF hF) (Px.refl _) _ l2⟩
      | dead => exact h.elim
  | _ => exact h.done hS l
theorem mp_frz (he : PEm X W e m) : PEm X W e (mFrz m) := pe_weak he fun σ H Q h => by
  obtain ⟨r, S, F, p, hE, hS, h⟩ := h
  exact ⟨r, S, F, p, hE, hS, fine.bind h fun x S1 F1 p1 H1 v _ _ s1 l1 h1 => frz_ok s1 l1 h1⟩
end
def tVal (m : ME) : MT := fun r S => (m r S).bind fun x S => match x with
  | .bl b => .ok b S
  | _ => .bad
def tNot' (t : MT) : MT := fun r S => (t r S).bind fun b S => .ok (!b) S
def tAnd' (t u : MT) : MT := fun r S => (t r S).bind fun b S => if b = true then u r S else .ok false S
def tOr' (t u : MT) : MT := fun r S => (t r S).bind fun b S => if b = true then .ok true S else u r S
def mNot (m : ME) : ME := fun r S => (m r S).bind fun x S => match x with
  | .bl b => .ok (.bl (!b)) S
  | _ => .bad
def mAnd (a b : ME) : ME := fun r S => (a r S).bind fun x S => match x with
  | .bl c => if c = true then b r S else .ok (.bl false) S
  | _ => .bad
def mOr (a b : ME) : ME := fun r S => (a r S).bind fun x S => match x with
  | .bl c => if c = true then .ok (.bl true) S else b r S
  | _ => .bad
def mIf (t : MT) (a b : ME) : ME := fun r S => (t r S).bind fun c S => if c = true then a r S else b r S
section
variable {X : Cx} {W : WX} {pos : Pos} {e a b c : Expr} {rest : List Expr} {m ma mb mc : ME} {t u : MT}
theorem lb_eq {F : Hp} {p : As} {b c : Bool} (h : LB F p b c) : b = c := h
theorem tB_weak {σ : L2.St} {H : Hp} {Q : Bool → Hp → Prop} (h : tT X.K W (tVal m) σ H Q) : tB (tE X.K W m) σ H Q := by
  obtain ⟨r, S, F, p, hE, hS, h⟩ := h
  refine ⟨r, S, F, p, hE, hS, fine.bind h fun x S1 F1 p1 H1 v _ _ s1 l1 h1 => ?_⟩
  cases x with
  | bl c => cases l1; exact ⟨c, rfl, h1 _ _ _ _ (Ext.refl _ _ _) s1 rfl⟩
  | _ => exact h1.elim
theorem mt_val (h : PEm X W e m) (he : ∀ whole, isTrue e X.env whole = (do let v ← whole; standAt e.pos; holding [v] (truthy v)) := by intro _; rfl) : PTm X W e (tVal m) :=
  pt_weak (pt_val h he) fun _ _ _ h => tB_weak h
theorem pt_cmpS {op : CmpOp} {r : L2.St → R2} {ta tb : TE} (ho : OpS X (compareOp op) r) (ha : PE X a ta) (hb : PE X b tb) (hm : behindInMarks op b = false) : PT X (.Compare a [op] [b] pos) (tTest (tOpS r ta tb)) := by
  refine ⟨fun pins s σ H Q I h => ?_⟩
  refine wpAny_isTrue_Compare1 (thn (ha.run pins s σ H _ I h) fun v s1 ⟨x, H1, I1, r1, q1⟩ => thn (hb.run pins s1 σ H1 _ I1 q1) fun u s2 ⟨y, H2, I2, r2, q2⟩ =>
    thn (ho pins s2 σ H2 x y v u _ I2 r1 r2 q2) fun c s3 ⟨z, H3, I3, r3, k, e, q3⟩ => ?_) hm
  subst e
  cases r3
  exact wpAny_truthy_bool ⟨H3, I3, q3⟩
theorem tTest_weak {tt : TE} {σ : L2.St} {H : Hp} {Q : Bool → Hp → Prop} (w : ∀ σ H Q, tE X.K W m σ H Q → tt σ H Q) (h : tT X.K W (tVal m) σ H Q) : tTest tt σ H Q := w _ _ _ (tB_weak h)
theorem mt_cmp {op : CmpOp} {g : G2} (ho : OpM X W (compareOp op) g) (ha : PEm X W a ma) (hb : PEm X W b mb) (hm : behindInMarks op b = false) : PTm X W (.Compare a [op] [b] pos) (tVal (mBin g ma mb)) :=
  pt_weak (pt_cmpS ho ha hb hm) fun _ _ _ h => tTest_weak (fun _ _ _ h => two_weak h) h
theorem mt_not (h : PTm X W a t) : PTm X W (.UnaryOp .Not a pos) (tNot' t) := pt_weak (pt_not h) fun σ H Q h => by
  obtain ⟨r, S, F, p, hE, hS, h⟩ := h
  exact ⟨r, S, F, p, hE, hS, fine.bind h fun x S1 F1 p1 H1 v _ _ s1 l1 h1 => by cases lb_eq l1; exact h1 _ _ _ _ (Ext.refl _ _ _) s1 rfl⟩
theorem mw_and1 (h : PTm X W a t) : PWm X W (.BoolOp .And [a] pos) t := pw_and1 h
theorem mw_or1 (h : PTm X W a t) : PWm X W (.BoolOp .Or [a] pos) t := pw_or1 h
theorem mw_and (ha : PTm X W a t) (hb : PWm X W (.BoolOp .And (b :: rest) pos) u) : PWm X W (.BoolOp .And (a :: b :: rest) pos) (tAnd' t u) := pw_weak (pw_and ha hb) fun σ H Q h => by
  obtain ⟨r, S, F, p, hE, hS, h⟩ := h
  refine ⟨r, S, F, p, hE, hS, fine.bind h fun x S1 F1 p1 H1 v _ e1 s1 l1 h1 => ?_⟩
  cases lb_eq l1
  cases x with
  | true => exact iteT ⟨r, S1, F1, p1, hE.ext e1, s1, h1⟩
  | false => exact iteF (h1 _ _ _ _ (Ext.refl _ _ _) s1 rfl)
theorem mw_or (ha : PTm X W a t) (hb : PWm X W (.BoolOp .Or (b :: rest) pos) u) : PWm X W (.BoolOp .Or (a :: b :: rest) pos) (tOr' t u) := pw_weak (pw_or ha hb) fun σ H Q h => by
  obtain ⟨r, S, F, p, hE, hS, h⟩ := h
  refine ⟨r, S, F, p, hE, hS, fine.bind h fun x S1 F1 p1 H1 v _ e1 s1 l1 h1 => ?_⟩
  cases lb_eq l1
  cases x with
  | true => exact iteT (h1 _ _ _ _ (Ext.refl _ _ _) s1 rfl)
  | false => exact iteF ⟨r, S1, F1, p1, hE.ext e1, s1, h1⟩
theorem mp_not (h : PEm X W a m) : PEm X W (.UnaryOp .Not a pos) (mNot m) := pe_weak (pe_not h) fun σ H Q h => by
  obtain ⟨r, S, F, p, hE, hS, h⟩ := h
  refine ⟨r, S, F, p, hE, hS, fine.bind h fun x S1 F1 p1 H1 v _ _ s1 l1 h1 => ?_⟩
  cases x with
  | bl c => cases l1; exact ⟨c, rfl, h1.done s1 rfl⟩
  | _ => exact h1.elim
theorem mp_one {op : BoolOp} (h : PEm X W a m) : PEm X W (.BoolOp op [a] pos) m := pe_one h
theorem mp_and (ha : PEm X W a ma) (hb : PEm X W (.BoolOp .And (b :: rest) pos) mb) : PEm X W (.BoolOp .And (a :: b :: rest) pos) (mAnd ma mb) := pe_weak (pe_and ha hb) fun σ H Q h => by
  obtain ⟨r, S, F, p, hE, hS, h⟩ := h
  refine ⟨r, S, F, p, hE, hS, fine.bind h fun x S1 F1 p1 H1 v _ e1 s1 l1 h1 => ?_⟩
  cases x with
  | bl c =>
    cases l1
    refine ⟨c, rfl, ?_⟩
    cases c with
    | true => exact iteT ⟨r, S1, F1, p1, hE.ext e1, s1, h1⟩
    | false => exact iteF (fine.done h1 s1 rfl)
  | _ => exact h1.elim
theorem mp_or (ha : PEm X W a ma) (hb : PEm X W (.BoolOp .Or (b :: rest) pos) mb) : PEm X W (.BoolOp .Or (a :: b :: rest) pos) (mOr ma mb) := pe_weak (pe_or ha hb) fun σ H Q h => by
  obtain ⟨r, S, F, p, hE, hS, h⟩ := h
  refine ⟨r, S, F, p, hE, hS, fine.bind h fun x S1 F1 p1 H1 v _ e1 s1 l1 h1 => ?_⟩
  cases x with
  | bl c =>
    cases l1
    refine ⟨c, rfl, ?_⟩
    cases c with
    | true => exact iteT (fine.done h1 s1 rfl)
    | false => exact iteF ⟨r, S1, F1, p1, hE.ext e1, s1, h1⟩
  | _ => exact h1.elim
theorem mp_if (hc : PTm X W c t) (ha : PEm X W a ma) (hb : PEm X W b mb) : PEm X W (.IfExp c a b pos) (mIf t ma mb) := pe_weak (pe_ifExp hc ha hb) fun σ H Q h => by
  obtain ⟨r, S, F, p, hE, hS, h⟩ := h
  refine ⟨r, S, F, p, hE, hS, fine.bind h fun x S1 F1 p1 H1 v _ e1 s1 l1 h1 => ?_⟩
  cases lb_eq l1
  cases x with
  | true => exact iteT ⟨r, S1, F1, p1, hE.ext e1, s1, h1⟩
  | false => exact iteF ⟨r, S1, F1, p1, hE.ext e1, s1, h1⟩
end
end Mi

set_option maxHeartbeats 4000000
namespace Mi
open PySem PySem.Spec PyProof.Rows L2
abbrev MG := MV → En → Option En
def gN (i : Nat) : MG := fun x r => some (r.set i (some x))
def gTs : List MG → List MV → En → Option En
  | [], [], r => some r
  | g :: gs, x :: xs, r => (g x r).bind fun r => gTs gs xs r
  | _, _, _ => none
def gT (gs : List MG) : MG := fun x r => match x with
  | .tup xs => gTs gs xs r
  | _ => none
/-- only these slots are other -/
def But (l : List Nat) (σ σ' : L2.St) : Prop := σ'.length = σ.length ∧ ∀ j : Nat, j ∉ l → σ'[j]? = σ[j]?
theorem But.refl (l : List Nat) (σ : L2.St) : But l σ σ := ⟨rfl, fun _ _ => rfl⟩
theorem But.trans {l m : List Nat} {σ σ1 σ2 : L2.St} (a : But l σ σ1) (b : But m σ1 σ2) : But (l ++ m) σ σ2 := ⟨b.1.trans a.1, fun j h => by
  rw [List.mem_append, not_or] at h
  exact (b.2 j h.2).trans (a.2 j h.1)⟩
def tG (K : Fg) (l : List Nat) (g : MG) : TG := fun v σ H Q => ∃ x r S F p r', RE K F p r σ ∧ RS K F p S H ∧ RV K F p x v ∧ g x r = some r' ∧ ∀ σ', RE K F p r' σ' → But l σ σ' → Q σ' H
def tGs (K : Fg) (l : List Nat) (gs : List MG) : TGs := fun vs σ H Q => ∃ xs r S F p r', RE K F p r σ ∧ RS K F p S H ∧ RVs K F p xs vs ∧ gTs gs xs r = some r' ∧ ∀ σ', RE K F p r' σ' → But l σ σ' → Q σ' H
abbrev PGm (X : Cx) (e : Expr) (l : List Nat) (g : MG) : Prop := PG X e (tG X.K l g)
abbrev PGsm (X : Cx) (es : List Expr) (l : List Nat) (gs : List MG) : Prop := PGs X es (tGs X.K l gs)
theorem pg_weak {X : Cx} {e : Expr} {t t' : TG} (h : PG X e t) (i : ∀ v σ H Q, t' v σ H Q → t v σ H Q) : PG X e t' := ⟨fun pins s σ H v u Q I r q => h.run pins s σ H v u Q I r (i v σ H Q q)⟩
theorem pgs_weak {X : Cx} {e : List Expr} {t t' : TGs} (h : PGs X e t) (i : ∀ v σ H Q, t' v σ H Q → t v σ H Q) : PGs X e t' := ⟨fun pins s σ H v u Q I r q => h.run pins s σ H v u Q I r (i v σ H Q q)⟩
section
variable {X : Cx} {W : WX} {pos : Pos} {e : Expr} {es : List Expr} {g : MG} {gs : List MG} {l m : List Nat}
theorem mg_name {i : Nat} {x : Str} (hN : X.N.Nodup) (hi : X.N[i]? = some x) (hx : Loc X.env.scope x) (hf : X.fn x = true ∨ X.env.scope.names.lookup x = some .local := by first | exact .inl rfl | exact .inr rfl | assumption) : PGm X (.Name x pos) [i] (gN i) :=
  pg_weak (pg_name hN hi hx hf) fun v σ H Q ⟨x, r, S, F, p, r', hE, hS, l, e, k⟩ => by
    cases e
    exact k _ (hE.set l i) ⟨List.length_set, fun j h => List.getElem?_set_ne (fun z => h (by rw [z]; exact List.mem_singleton.mpr rfl))⟩
theorem mgs_nil : PGsm X [] [] [] := pgs_weak pgs_nil fun v σ H Q ⟨xs, r, S, F, p, r', hE, hS, l, e, k⟩ => by
  cases xs with
  | nil => cases l; cases e; exact ⟨rfl, k _ hE (But.refl _ _)⟩
  | cons => cases e
theorem mgs_cons (h1 : PGm X e l g) (h2 : PGsm X es m gs) (hs : (assignEach (e :: es) X.env).map (·.2) = assign e X.env :: (assignEach es X.env).map (·.2) := by rfl) : PGsm X (e :: es) (l ++ m) (g :: gs) :=
  pgs_weak (pgs_cons h1 h2 hs) fun v σ H Q ⟨xs, r, S, F, p, r', hE, hS, l, e, k⟩ => by
    cases xs with
    | nil => cases e
    | cons x xs =>
      obtain ⟨u, w, rfl, l1, l2⟩ := l
      unfold gTs at e
      cases e1 : g x r with
      | none => rw [e1] at e; cases e
      | some r1 =>
        rw [e1] at e
        exact ⟨u, w, rfl, x, r, S, F, p, r1, hE, hS, l1, e1, fun σ1 E1 b1 => ⟨xs, r1, S, F, p, r', E1, hS, l2, e, fun σ2 E2 b2 => k σ2 E2 (b1.trans b2)⟩⟩
theorem gTs_length : ∀ {gs : List MG} {xs : List MV} {r r' : En}, gTs gs xs r = some r' → xs.length = gs.length
  | [], [], _, _, _ => rfl
  | [], _ :: _, _, _, h => by cases h
  | _ :: _, [], _, _, h => by cases h
  | g :: gs, x :: xs, r, r', h => by
    unfold gTs at h
    cases e1 : g x r with
    | none => rw [e1] at h; cases h
    | some r1 => rw [e1] at h; exact congrArg Nat.succ (gTs_length h)
theorem mg_tup {k : Nat} (hc : X.calm = true) (h : PGsm X es l gs) (hn : (assignEach es X.env).length = gs.length := by rfl) (hst : (assignEach es X.env).findIdx? (·.1) = none := by rfl) : PGm X (.Tuple es k pos) l (gT gs) :=
  pg_weak (pg_tup hc h hn hst) fun v σ H Q ⟨x, r, S, F, p, r', hE, hS, l, e, k⟩ => by
    cases x with
    | tup xs =>
      obtain ⟨a, vs, rfl, h1, _, l2⟩ := l
      exact ⟨a, vs, rfl, Same.seqT hS.sub h1, by rw [l2.length, gTs_length e], xs, r, S, F, p, r', hE, hS, l2, e, k⟩
    | _ => cases e
end
def sSkip : MS := fun r S => .nxt r S
def sSeq (a b : MS) : MS := fun r S => match a r S with
  | .nxt r S => b r S
  | z => z
def sBlk : List MS → MS
  | [] => sSkip
  | m :: ms => sSeq m (sBlk ms)
def sExp (m : ME) : MS := fun r S => (m r S).to r fun _ S => .nxt r S
def sRet (m : ME) : MS := fun r S => (m r S).to r fun x S => .ret x S
def sRetN : MS := fun _ S => .ret .non S
def sIf (t : MT) (a b : MS) : MS := fun r S => (t r S).to r fun c S => if c = true then a r S else b r S
def sBrk : MS := fun r S => .brk r S
def sCnt : MS := fun r S => .cnt r S
def gGo (g : MG) (x : MV) (r : En) (k : En → SR) : SR := match g x r with
  | some r => k r
  | none => .bad
def sAsg (g : MG) (m : ME) : MS := fun r S => (m r S).to r fun x S => gGo g x r fun r => .nxt r S
section
variable {X : Cx} {W : WX} {pos : Pos} {e c : Expr} {st : Stmt} {sts bs : List Stmt} {m : ME} {t : MT} {a b : MS} {ms : List MS} {g : MG}
theorem ms_nil : PBm X W [] (sBlk []) := pss_weak pss_nil fun D σ H ⟨r, S, F, p, hE, hS, h⟩ => h F p H σ (Ext.refl _ _ _) hS hE
theorem ms_cons (h1 : PSm X W st a) (h2 : PBm X W sts (sBlk ms)) : PBm X W (st :: sts) (sBlk (a :: ms)) := pss_weak (pss_cons h1 h2) fun D σ H ⟨r, S, F, p, hE, hS, h⟩ => by
  refine ⟨r, S, F, p, hE, hS, ?_⟩
  show fineS X.K F p H W _ (a r S)
  have h' : fineS X.K F p H W D (match a r S with
    | .nxt r S => sBlk ms r S
    | z => z) := h
  cases q : a r S with
  | nxt r1 S1 => rw [q] at h'; exact fun F' p' H' σ' e1 s1 E1 => ⟨r1, S1, F', p', E1, s1, fineS.mono h' e1⟩
  | ret x S1 => rw [q] at h'; exact h'
  | brk r1 S1 => rw [q] at h'; exact h'
  | cnt r1 S1 => rw [q] at h'; exact h'
  | exc c x r1 S1 => rw [q] at h'; exact h'
  | bad => rw [q] at h'; exact h'.elim
theorem ms_pass : PSm X W (.Pass pos) sSkip := ps_weak ps_pass fun D σ H ⟨r, S, F, p, hE, hS, h⟩ => h F p H σ (Ext.refl _ _ _) hS hE
theorem ms_brk : PSm X W (.Break pos) sBrk := ps_weak ps_break fun D σ H ⟨r, S, F, p, hE, hS, h⟩ => h F p H σ (Ext.refl _ _ _) hS hE
theorem ms_cnt : PSm X W (.Continue pos) sCnt := ps_weak ps_continue fun D σ H ⟨r, S, F, p, hE, hS, h⟩ => h F p H σ (Ext.refl _ _ _) hS hE
theorem ms_exp (h : PEm X W e m) (hs : swapsWith e none pos.line X.env = pure false := by rfl) : PSm X W (.Expr e pos) (sExp m) := ps_weak (ps_expr h hs) fun D σ H ⟨r, S, F, p, hE, hS, h⟩ =>
  ⟨r, S, F, p, hE, hS, fine.to hE h fun y S1 F1 p1 H1 v _ e1 s1 l1 E1 h1 => h1 F1 p1 H1 σ (Ext.refl _ _ _) s1 E1⟩
theorem ms_ret (h : PEm X W e m) : PSm X W (.Return (some e) pos) (sRet m) := ps_weak (ps_ret h) fun D σ H ⟨r, S, F, p, hE, hS, h⟩ =>
  ⟨r, S, F, p, hE, hS, fine.to hE h fun y S1 F1 p1 H1 v _ e1 s1 l1 E1 h1 => h1 F1 p1 H1 v (Ext.refl _ _ _) s1 l1⟩
theorem ms_retN : PSm X W (.Return none pos) sRetN := ps_weak ps_retN fun D σ H ⟨r, S, F, p, hE, hS, h⟩ => h F p H .non (Ext.refl _ _ _) hS rfl
theorem ms_if (hc : PTm X W c t) (ha : PBm X W sts a) (hb : PBm X W bs b) : PSm X W (.If c sts bs pos) (sIf t a b) := ps_weak (ps_if hc ha hb) fun D σ H ⟨r, S, F, p, hE, hS, h⟩ => by
  refine ⟨r, S, F, p, hE, hS, fine.to hE h fun y S1 F1 p1 H1 v _ e1 s1 l1 E1 h1 => ?_⟩
  cases lb_eq l1
  cases y with
  | true => exact iteT ⟨r, S1, F1, p1, E1, s1, h1⟩
  | false => exact iteF ⟨r, S1, F1, p1, E1, s1, h1⟩
theorem gGo_ok {K : Fg} {F H : Hp} {p : As} {D : Ends} {x : MV} {r : En} {k : En → SR} (h : fineS K F p H W D (gGo g x r k)) : ∃ r', g x r = some r' ∧ fineS K F p H W D (k r') := by
  unfold gGo at h
  split at h
  · rename_i r' e; exact ⟨r', e, h⟩
  · exact h.elim
theorem ms_set {i : Nat} {x : Str} {pos' : Pos} (hN : X.N.Nodup) (hi : X.N[i]? = some x) (hx : Loc X.env.scope x) (he : PEm X W e m) (hs : swapsWith e (some (.Name x pos')) pos.line X.env = pure false := by rfl) (hf : X.fn x = true ∨ X.env.scope.names.lookup x = some .local := by first | exact .inl rfl | exact .inr rfl | assumption) :
    PSm X W (.Assign [.Name x pos'] e pos) (sAsg (gN i) m) := ps_weak (ps_set hN hi hx he hs hf) fun D σ H ⟨r, S, F, p, hE, hS, h⟩ =>
  ⟨r, S, F, p, hE, hS, fine.to hE h fun y S1 F1 p1 H1 v _ e1 s1 l1 E1 h1 => by
    obtain ⟨r', e2, h2⟩ := gGo_ok h1
    cases e2
    exact h2 F1 p1 H1 _ (Ext.refl _ _ _) s1 (E1.set l1 i)⟩
theorem ms_asg {tg : Expr} {l : List Nat} (he : PEm X W e m) (hg : PGm X tg l g) (hs : swapsWithSole [tg] e pos.line X.env = pure false := by rfl) (hw : swappedStores [tg] e X.env = pure none := by rfl)
    (h1 : (assignEach [tg] X.env).map (·.2) = [assign tg X.env] := by rfl) : PSm X W (.Assign [tg] e pos) (sAsg g m) := ps_weak (ps_asg he hg hs hw h1) fun D σ H ⟨r, S, F, p, hE, hS, h⟩ =>
  ⟨r, S, F, p, hE, hS, fine.to hE h fun y S1 F1 p1 H1 v _ e1 s1 l1 E1 h1 => by
    obtain ⟨r', e2, h2⟩ := gGo_ok h1
    exact ⟨y, r, S1, F1, p1, r', E1, s1, l1, e2, fun σ' E' _ => h2 F1 p1 H1 σ' (Ext.refl _ _ _) s1 E'⟩⟩
/-- a, b = e1, e2 -/
def sPar (i j : Nat) (a b : ME) : MS := fun r S => (a r S).to r fun x S => (b r S).to r fun y S => .nxt ((r.set i (some x)).set j (some y)) S
theorem ms_par {i j : Nat} {x y : Str} {ea eb : Expr} {ma mb : ME} {px py pt : Pos} {kt k2 pt2} (hc : X.calm = true) (hN : X.N.Nodup) (hi : X.N[i]? = some x) (hj : X.N[j]? = some y) (hij : i ≠ j)
    (hx : X.env.scope.names.lookup x = some .local) (hy : X.env.scope.names.lookup y = some .local) (ha : PEm X W ea ma) (hb : PEm X W eb mb)
    (hw : swappedStores [.Tuple [.Name x px, .Name y py] kt pt] (.Tuple [ea, eb] k2 pt2) X.env = pure (some [x, y]))
    (hs1 : starEach [ea, eb] X.env = (false, eval ea X.env) :: starEach [eb] X.env := by rfl) (hs2 : starEach [eb] X.env = (false, eval eb X.env) :: starEach [] X.env := by rfl)
    (hs : swapsWithSole [.Tuple [.Name x px, .Name y py] kt pt] (.Tuple [ea, eb] k2 pt2) pos.line X.env = pure false := by rfl) :
    PSm X W (.Assign [.Tuple [.Name x px, .Name y py] kt pt] (.Tuple [ea, eb] k2 pt2) pos) (sPar i j ma mb) := ps_weak (ps_par hc hN hi hj hij hx hy (pa_cons ha (pa_cons hb pa_nil hs2) hs1) hw hs) fun D σ H ⟨r, S, F, p, hE, hS, h⟩ => by
  refine ⟨r, S, F, p, hE, hS, fine.to hE h fun y S1 F1 p1 H1 v _ e1 s1 l1 E1 h1 => ?_⟩
  refine ⟨r, S1, F1, p1, E1, s1, fine.to E1 h1 fun z S2 F2 p2 H2 w _ e2 s2 l2 E2 h2 => ?_⟩
  exact ⟨v, w, rfl, h2 F2 p2 H2 _ (Ext.refl _ _ _) s2 ((E2.set (RV.mono e2.f e2.x y l1) i).set l2 j)⟩
end
abbrev MI := En → So → R (List MV)
def forL (g : MG) (b : MS) : List MV → MS
  | [], r, S => .nxt r S
  | x :: xs, r, S => gGo g x r fun r => match b r S with
    | .nxt r S => forL g b xs r S
    | .cnt r S => forL g b xs r S
    | .brk r S => .nxt r S
    | z => z
def sFor (i : MI) (g : MG) (b : MS) : MS := fun r S => (i r S).to r fun xs S => forL g b xs r S
/-- the walk J gives these items, as long as the world goes on -/
def ItOk (K : Fg) (F : Hp) (p : As) (H : Hp) (J : It) (xs : List MV) : Prop :=
  ∀ F' p' H' S, Same F F' → Px p p' → RS K F' p' S H' → ∀ i, (∀ x, xs[i]? = some x → J.go i H' ∧ ∀ v H2, J.yld i H' v H2 → ∃ F2, Ext F' p' H' F2 p' H2 ∧ RS K F2 p' S H2 ∧ RV K F2 p' x v) ∧ (xs.length ≤ i → J.stop i H')
def LI (K : Fg) : List MV → It → Hp → As → Hp → Prop := fun xs J F p H => ItOk K F p H J xs
def fineI (K : Fg) (F : Hp) (p : As) (H : Hp) (σ : L2.St) (W : WX) (Q : It → Hp → Prop) : R (List MV) → Prop
  | .ok xs S => ∀ F' p' H' J, Ext F p H F' p' H' → RS K F' p' S H' → ItOk K F' p' H' J xs → Q J H'
  | .exc c x S => ∀ F' p' H' v d, Ext F p H F' p' H' → RS K F' p' S H' → RV K F' p' x v → H' d = some (.xd [(("value" : Str), v)]) → W (.ref (He.ga K c)) (some d) σ H'
  | .bad => False
theorem fineI.mono {K : Fg} {F F1 H H1 : Hp} {p p1 : As} {σ : L2.St} {W : WX} {Q : It → Hp → Prop} {r : R (List MV)} (h : fineI K F p H σ W Q r) (e : Ext F p H F1 p1 H1) : fineI K F1 p1 H1 σ W Q r := by
  cases r with
  | ok x S => exact fun F' p' H' v x' => h F' p' H' v (e.trans x')
  | exc c x S => exact fun F' p' H' v d x' => h F' p' H' v d (e.trans x')
  | bad => exact h
theorem fineI.bind {K : Fg} {F H : Hp} {p : As} {σ : L2.St} {W : WX} {α β : Type} {L : Rl α β} {Q : It → Hp → Prop} {Q1 : β → Hp → Prop} {r : R α} {k : α → So → R (List MV)} (h : fineI K F p H σ W Q (r.bind k))
    (g : ∀ x S F1 p1 H1 v, r = .ok x S → Ext F p H F1 p1 H1 → RS K F1 p1 S H1 → L F1 p1 x v → fineI K F1 p1 H1 σ W Q (k x S) → Q1 v H1) : fine K L F p H σ W Q1 r := by
  cases r with
  | ok x S => exact fun F' p' H' v x' s l => g x S F' p' H' v rfl x' s l (fineI.mono h x')
  | exc c x S => exact h
  | bad => exact h
def tI (K : Fg) (W : WX) (m : MI) : TI := fun σ H Q => ∃ r S F p, RE K F p r σ ∧ RS K F p S H ∧ fineI K F p H σ W Q (m r S)
abbrev PIm (X : Cx) (W : WX) (tg e : Expr) (m : MI) : Prop := PI X tg e (tI X.K W m)
theorem pi_weak {X : Cx} {tg e : Expr} {t t' : TI} (h : PI X tg e t) (i : ∀ σ H Q, t' σ H Q → t σ H Q) : PI X tg e t' := ⟨fun pins s σ H Q I q => h.run pins s σ H Q I (i σ H Q q)⟩
theorem pi_or {X : Cx} {tg e : Expr} {t t' : TI} (h : PI X tg e t) (h' : PI X tg e t') : PI X tg e (fun σ H Q => t σ H Q ∨ t' σ H Q) := ⟨fun pins s σ H Q I q => q.elim (h.run pins s σ H Q I) (h'.run pins s σ H Q I)⟩
theorem pe_or {X : Cx} {e : Expr} {t t' : TE} (h : PE X e t) (h' : PE X e t') : PE X e (fun σ H Q => t σ H Q ∨ t' σ H Q) := ⟨fun pins s σ H Q I q => q.elim (h.run pins s σ H Q I) (h'.run pins s σ H Q I)⟩
section
variable {X : Cx} {W : WX} {pos : Pos} {tg iter c : Expr} {bs : List Stmt} {mi : MI} {g : MG} {b : MS} {t : MT}
theorem ms_for {l : List Nat} (hp : PassesOwn (model X.prog X.w) X.A X.env X.xe) (hc : X.calm = true) (hi : PIm X W tg iter mi) (hg : PGm X tg l g) (hb : PBm X W bs b)
    (hs : ∀ x, foldedSetIterable iter X.env x = pure x := by intro _; rfl) : PSm X W (.For tg iter bs [] pos) (sFor mi g b) := ps_weak (ps_for hp hc hi hg hb hs) fun D σ H ⟨r, S, F, p, hE, hS, h⟩ => by
  refine ⟨r, S, F, p, hE, hS, ?_⟩
  have h' : fineS X.K F p H W D ((mi r S).to r fun xs S => forL g b xs r S) := h
  show fineI X.K F p H σ W _ (mi r S)
  cases q : mi r S with
  | bad => rw [q] at h'; exact h'.elim
  | exc c x S1 => rw [q] at h'; exact fun F' p' H' v d e1 s1 l z => h' F' p' H' σ v d e1 s1 (hE.ext e1) l z
  | ok xs S1 =>
    rw [q] at h'
    intro F1 p1 H1 J e1 s1 hJ
    refine ⟨fun i m σ2 H2 => ∃ r2 S2 F2 p2, m = xs.length - i ∧ i ≤ xs.length ∧ Ext F1 p1 H1 F2 p2 H2 ∧ RE X.K F2 p2 r2 σ2 ∧ RS X.K F2 p2 S2 H2 ∧ fineS X.K F2 p2 H2 W D (forL g b (xs.drop i) r2 S2), ⟨xs.length, r, S1, F1, p1, rfl, Nat.zero_le _, Ext.refl _ _ _, hE.ext e1, s1, fineS.mono h' e1⟩, ?_⟩
    rintro i m σ2 H2 ⟨r2, S2, F2, p2, rfl, hi, e2, E2, s2, h2⟩
    by_cases hlt : i < xs.length
    · have hx : xs[i]? = some xs[i] := List.getElem?_eq_getElem hlt
      obtain ⟨hgo, hy⟩ := (hJ F2 p2 H2 S2 e2.f e2.x s2 i).1 xs[i] hx
      refine .inr ⟨hgo, fun σ3 H3 => ∃ r3 S3 F3 p3, Ext F1 p1 H1 F3 p3 H3 ∧ RE X.K F3 p3 r3 σ3 ∧ RS X.K F3 p3 S3 H3 ∧ fineS X.K F3 p3 H3 W D (forL g b (xs.drop (i + 1)) r3 S3), fun σ3 H3 ⟨r3, S3, F3, p3, e3, E3, s3, h3⟩ => ⟨xs.length - (i + 1), by omega, r3, S3, F3, p3, rfl, hlt, e3, E3, s3, h3⟩, fun v H3 y => ?_⟩
      obtain ⟨F3, e3, s3, l3⟩ := hy v H3 y
      rw [List.drop_eq_getElem_cons hlt] at h2
      have h2' : fineS X.K F2 p2 H2 W D (gGo g xs[i] r2 fun r => match b r S2 with
        | .nxt r S => forL g b (xs.drop (i + 1)) r S
        | .cnt r S => forL g b (xs.drop (i + 1)) r S
        | .brk r S => .nxt r S
        | z => z) := h2
      obtain ⟨r3, eg, h3⟩ := gGo_ok h2'
      refine ⟨xs[i], r2, S2, F3, p2, r3, E2.ext e3, s3, l3, eg, fun σ4 E4 _ => ⟨r3, S2, F3, p2, E4, s3, ?_⟩⟩
      have e13 := e2.trans e3
      have h3' := fineS.mono h3 e3
      cases q4 : b r3 S2 with
      | bad => rw [q4] at h3'; exact h3'.elim
      | nxt r5 S5 => rw [q4] at h3'; exact fun F5 p5 H5 σ5 e5 s5 E5 => ⟨r5, S5, F5, p5, e13.trans e5, E5, s5, fineS.mono h3' e5⟩
      | cnt r5 S5 => rw [q4] at h3'; exact fun F5 p5 H5 σ5 e5 s5 E5 => ⟨r5, S5, F5, p5, e13.trans e5, E5, s5, fineS.mono h3' e5⟩
      | brk r5 S5 => rw [q4] at h3'; exact fun F5 p5 H5 σ5 e5 s5 E5 => h3' F5 p5 H5 σ5 e5 s5 E5
      | ret x S5 => rw [q4] at h3'; exact h3'
      | exc c x r5 S5 => rw [q4] at h3'; exact h3'
    · have hge : xs.length ≤ i := Nat.le_of_not_lt hlt
      rw [List.drop_of_length_le hge] at h2
      exact .inl ⟨(hJ F2 p2 H2 S2 e2.f e2.x s2 i).2 hge, h2 F2 p2 H2 σ2 (Ext.refl _ _ _) s2 E2⟩
def whileL (t : MT) (b : MS) : Nat → MS
  | 0, _, _ => .bad
  | n + 1, r, S => (t r S).to r fun c S => if c = true then (match b r S with
    | .nxt r S => whileL t b n r S
    | .cnt r S => whileL t b n r S
    | .brk r S => .nxt r S
    | z => z) else .nxt r S
theorem ms_while {n : Nat} (hp : PassesOwn (model X.prog X.w) X.A X.env X.xe) (hc : PTm X W c t) (hb : PBm X W bs b) : PSm X W (.While c bs [] pos) (whileL t b n) := ps_weak (ps_while hp hc hb) fun D σ H ⟨r, S, F, p, hE, hS, h⟩ => by
  refine ⟨fun m σ2 H2 => ∃ r2 S2 F2 p2, RE X.K F2 p2 r2 σ2 ∧ RS X.K F2 p2 S2 H2 ∧ fineS X.K F2 p2 H2 W D (whileL t b m r2 S2), ⟨n, r, S, F, p, hE, hS, h⟩, ?_⟩
  rintro m σ2 H2 ⟨r2, S2, F2, p2, E2, s2, h2⟩
  cases m with
  | zero => exact h2.elim
  | succ m =>
    refine ⟨r2, S2, F2, p2, E2, s2, fine.to E2 h2 fun y S1 F1 p1 H1 v _ e1 s1 l1 E1 h1 => ?_⟩
    cases lb_eq l1
    cases y with
    | false => exact iteF (h1 F1 p1 H1 σ2 (Ext.refl _ _ _) s1 E1)
    | true =>
      refine iteT ⟨fun σ3 H3 => ∃ r3 S3 F3 p3, RE X.K F3 p3 r3 σ3 ∧ RS X.K F3 p3 S3 H3 ∧ fineS X.K F3 p3 H3 W D (whileL t b m r3 S3), fun σ3 H3 h3 => ⟨m, Nat.lt_succ_self _, h3⟩, r2, S1, F1, p1, E1, s1, ?_⟩
      have h1' : fineS X.K F1 p1 H1 W D (match b r2 S1 with
        | .nxt r S => whileL t b m r S
        | .cnt r S => whileL t b m r S
        | .brk r S => .nxt r S
        | z => z) := h1
      cases q4 : b r2 S1 with
      | bad => rw [q4] at h1'; exact h1'.elim
      | nxt r5 S5 => rw [q4] at h1'; exact fun F5 p5 H5 σ5 e5 s5 E5 => ⟨r5, S5, F5, p5, E5, s5, fineS.mono h1' e5⟩
      | cnt r5 S5 => rw [q4] at h1'; exact fun F5 p5 H5 σ5 e5 s5 E5 => ⟨r5, S5, F5, p5, E5, s5, fineS.mono h1' e5⟩
      | brk r5 S5 => rw [q4] at h1'; exact fun F5 p5 H5 σ5 e5 s5 E5 => h1' F5 p5 H5 σ5 e5 s5 E5
      | ret x S5 => rw [q4] at h1'; exact h1'
      | exc c x r5 S5 => rw [q4] at h1'; exact h1'
end
end Mi

set_option maxHeartbeats 4000000
namespace Mi
open PySem PySem.Spec PyProof.Rows L2
mutual
def MV.lt (n : Nat) : MV → Bool
  | .tup xs => MV.lts n xs
  | .lst xs => MV.lts n xs
  | .scr xs => MV.lts n xs
  | .dic _ xs => MV.lts n xs
  | .obj _ _ xs => MV.lts n xs
  | .ref m => decide (m < n)
  | .non => true
  | .bl _ => true
  | .int _ => true
  | .str _ => true
def MV.lts (n : Nat) : List MV → Bool
  | [] => true
  | x :: xs => MV.lt n x && MV.lts n xs
end
mutual
def MV.same : MV → MV → Bool
  | .tup xs, .tup ys => MV.sames xs ys
  | .lst xs, .lst ys => MV.sames xs ys
  | .scr xs, .scr ys => MV.sames xs ys
  | .dic k xs, .dic l ys => decide (k = l) && MV.sames xs ys
  | .obj c n xs, .obj d m ys => decide (c = d) && decide (n = m) && MV.sames xs ys
  | .ref m, .ref n => decide (m = n)
  | .non, .non => true
  | .bl a, .bl b => decide (a = b)
  | .int a, .int b => decide (a = b)
  | .str a, .str b => decide (a = b)
  | _, _ => false
def MV.sames : List MV → List MV → Bool
  | [], [] => true
  | x :: xs, y :: ys => MV.same x y && MV.sames xs ys
  | _, _ => false
end
def MO.lt (n : Nat) : MO → Bool
  | .lst xs => MV.lts n xs
  | .dic _ xs => MV.lts n xs
  | .ins _ _ xs => MV.lts n xs
  | .dead => true
def MO.same : MO → MO → Bool
  | .lst xs, .lst ys => MV.sames xs ys
  | .dic k xs, .dic l ys => decide (k = l) && MV.sames xs ys
  | .ins c n xs, .ins d m ys => decide (c = d) && decide (n = m) && MV.sames xs ys
  | .dead, .dead => true
  | _, _ => false
mutual
theorem MV.same_refl : ∀ x : MV, MV.same x x = true
  | .tup xs => MV.sames_refl xs
  | .lst xs => MV.sames_refl xs
  | .scr xs => MV.sames_refl xs
  | .dic k xs => by show (decide (k = k) && MV.sames xs xs) = true; rw [MV.sames_refl xs, decide_eq_true rfl]; rfl
  | .obj c n xs => by show (decide (c = c) && decide (n = n) && MV.sames xs xs) = true; rw [MV.sames_refl xs, decide_eq_true rfl, decide_eq_true rfl]; rfl
  | .ref m => decide_eq_true rfl
  | .non => rfl
  | .bl _ => decide_eq_true rfl
  | .int _ => decide_eq_true rfl
  | .str _ => decide_eq_true rfl
theorem MV.sames_refl : ∀ x : List MV, MV.sames x x = true
  | [] => rfl
  | x :: xs => by show (MV.same x x && MV.sames xs xs) = true; rw [MV.same_refl x, MV.sames_refl xs]; rfl
end
mutual
theorem MV.same_eq : ∀ (x y : MV), MV.same x y = true → x = y
  | .tup xs, .tup ys, h => by rw [MV.sames_eq xs ys h]
  | .lst xs, .lst ys, h => by rw [MV.sames_eq xs ys h]
  | .scr xs, .scr ys, h => by rw [MV.sames_eq xs ys h]
  | .dic k xs, .dic l ys, h => by
    obtain ⟨h1, h2⟩ := Bool.and_eq_true_iff.mp (show (decide (k = l) && MV.sames xs ys) = true from h)
    rw [of_decide_eq_true h1, MV.sames_eq xs ys h2]
  | .obj c n xs, .obj d m ys, h => by
    obtain ⟨h1, h2⟩ := Bool.and_eq_true_iff.mp (show (decide (c = d) && decide (n = m) && MV.sames xs ys) = true from h)
    obtain ⟨h3, h4⟩ := Bool.and_eq_true_iff.mp h1
    rw [of_decide_eq_true h3, of_decide_eq_true h4, MV.sames_eq xs ys h2]
  | .ref m, .ref n, h => by rw [of_decide_eq_true (show decide (m = n) = true from h)]
  | .non, .non, _ => rfl
  | .bl m, .bl n, h => by rw [of_decide_eq_true (show decide (m = n) = true from h)]
  | .int m, .int n, h => by rw [of_decide_eq_true (show decide (m = n) = true from h)]
  | .str m, .str n, h => by rw [of_decide_eq_true (show decide (m = n) = true from h)]
  | .tup _, .lst _, h | .tup _, .scr _, h | .tup _, .dic _ _, h | .tup _, .obj _ _ _, h | .tup _, .ref _, h | .tup _, .non, h | .tup _, .bl _, h | .tup _, .int _, h | .tup _, .str _, h => by simp [MV.same] at h
  | .lst _, .tup _, h | .lst _, .scr _, h | .lst _, .dic _ _, h | .lst _, .obj _ _ _, h | .lst _, .ref _, h | .lst _, .non, h | .lst _, .bl _, h | .lst _, .int _, h | .lst _, .str _, h => by simp [MV.same] at h
  | .scr _, .lst _, h | .scr _, .tup _, h | .scr _, .dic _ _, h | .scr _, .obj _ _ _, h | .scr _, .ref _, h | .scr _, .non, h | .scr _, .bl _, h | .scr _, .int _, h | .scr _, .str _, h => by simp [MV.same] at h
  | .dic _ _, .lst _, h | .dic _ _, .scr _, h | .dic _ _, .tup _, h | .dic _ _, .obj _ _ _, h | .dic _ _, .ref _, h | .dic _ _, .non, h | .dic _ _, .bl _, h | .dic _ _, .int _, h | .dic _ _, .str _, h => by simp [MV.same] at h
  | .obj _ _ _, .lst _, h | .obj _ _ _, .scr _, h | .obj _ _ _, .dic _ _, h | .obj _ _ _, .tup _, h | .obj _ _ _, .ref _, h | .obj _ _ _, .non, h | .obj _ _ _, .bl _, h | .obj _ _ _, .int _, h | .obj _ _ _, .str _, h => by simp [MV.same] at h
  | .ref _, .lst _, h | .ref _, .scr _, h | .ref _, .dic _ _, h | .ref _, .obj _ _ _, h | .ref _, .tup _, h | .ref _, .non, h | .ref _, .bl _, h | .ref _, .int _, h | .ref _, .str _, h => by simp [MV.same] at h
  | .non, .lst _, h | .non, .scr _, h | .non, .dic _ _, h | .non, .obj _ _ _, h | .non, .ref _, h | .non, .tup _, h | .non, .bl _, h | .non, .int _, h | .non, .str _, h => by simp [MV.same] at h
  | .bl _, .lst _, h | .bl _, .scr _, h | .bl _, .dic _ _, h | .bl _, .obj _ _ _, h | .bl _, .ref _, h | .bl _, .non, h | .bl _, .tup _, h | .bl _, .int _, h | .bl _, .str _, h => by simp [MV.same] at h
  | .int _, .lst _, h | .int _, .scr _, h | .int _, .dic _ _, h | .int _, .obj _ _ _, h | .int _, .ref _, h | .int _, .non, h | .int _, .bl _, h | .int _, .tup _, h | .int _, .str _, h => by simp [MV.same] at h
  | .str _, .lst _, h | .str _, .scr _, h | .str _, .dic _ _, h | .str _, .obj _ _ _, h | .str _, .ref _, h | .str _, .non, h | .str _, .bl _, h | .str _, .int _, h | .str _, .tup _, h => by simp [MV.same] at h
theorem MV.sames_eq : ∀ (x y : List MV), MV.sames x y = true → x = y
  | [], [], _ => rfl
  | x :: xs, y :: ys, h => by
    obtain ⟨h1, h2⟩ := Bool.and_eq_true_iff.mp (show (MV.same x y && MV.sames xs ys) = true from h)
    rw [MV.same_eq x y h1, MV.sames_eq xs ys h2]
  | [], _ :: _, h | _ :: _, [], h => by simp [MV.sames] at h
end
theorem MO.same_refl (o : MO) : MO.same o o = true := by
  cases o with
  | lst xs => exact MV.sames_refl xs
  | dic k xs => show (decide (k = k) && MV.sames xs xs) = true; rw [MV.sames_refl xs, decide_eq_true rfl]; rfl
  | ins c n xs => show (decide (c = c) && decide (n = n) && MV.sames xs xs) = true; rw [MV.sames_refl xs, decide_eq_true rfl, decide_eq_true rfl]; rfl
  | dead => rfl
theorem MO.same_eq (o u : MO) (h : MO.same o u = true) : o = u := by
  cases o with
  | lst xs => cases u with
    | lst ys => rw [MV.sames_eq xs ys h]
    | _ => cases h
  | dic k xs => cases u with
    | dic l ys =>
      obtain ⟨h1, h2⟩ := Bool.and_eq_true_iff.mp (show (decide (k = l) && MV.sames xs ys) = true from h)
      rw [of_decide_eq_true h1, MV.sames_eq xs ys h2]
    | _ => cases h
  | ins c n xs => cases u with
    | ins d m ys =>
      obtain ⟨h1, h2⟩ := Bool.and_eq_true_iff.mp (show (decide (c = d) && decide (n = m) && MV.sames xs ys) = true from h)
      obtain ⟨h3, h4⟩ := Bool.and_eq_true_iff.mp h1
      rw [of_decide_eq_true h3, of_decide_eq_true h4, MV.sames_eq xs ys h2]
    | _ => cases h
  | dead => cases u with
    | dead => rfl
    | _ => cases h
section
variable {K : Fg} {F : Hp} {p q : As} {n : Nat}
mutual
theorem RV.closed : ∀ (x : MV) {v : V}, RV K F p x v → MV.lt p.length x = true
  | .tup xs, v, h => by obtain ⟨a, vs, _, _, _, r⟩ := h; exact RVs.closed xs r
  | .lst xs, v, h => by obtain ⟨a, vs, _, _, _, r⟩ := h; exact RVs.closed xs r
  | .scr xs, v, h => by obtain ⟨a, vs, _, _, _, r⟩ := h; exact RVs.closed xs r
  | .dic ks xs, v, h => by obtain ⟨a, vs, _, _, _, r⟩ := h; exact RVs.closed xs r
  | .obj c ns xs, v, h => by obtain ⟨a, _, vs, _, _, _, r⟩ := h; exact RVs.closed xs r
  | .ref m, v, h => by obtain ⟨a, _, e⟩ := h; exact decide_eq_true (List.getElem?_eq_some_iff.mp e).1
  | .non, _, _ => rfl
  | .bl _, _, _ => rfl
  | .int _, _, _ => rfl
  | .str _, _, _ => rfl
theorem RVs.closed : ∀ (x : List MV) {v : List V}, RVs K F p x v → MV.lts p.length x = true
  | [], _, _ => rfl
  | x :: xs, v, h => by
    obtain ⟨u, w, _, r1, r2⟩ := h
    unfold MV.lts
    rw [RV.closed x r1, RVs.closed xs r2]; rfl
end
theorem RO.closed {o : MO} {u : HO} (h : RO K F p o u) : MO.lt p.length o = true := by
  cases o with
  | lst xs => obtain ⟨vs, _, _, r⟩ := h; exact RVs.closed xs r
  | dic ks xs => obtain ⟨vs, _, _, r⟩ := h; exact RVs.closed xs r
  | ins c ns xs => obtain ⟨d, vs, _, _, r⟩ := h; exact RVs.closed xs r
  | dead => rfl
mutual
theorem RV.back (hp : ∀ (m : Nat) (a : Addr), m < n → q[m]? = some a → p[m]? = some a) : ∀ (x : MV) {v : V}, RV K F q x v → MV.lt n x = true → RV K F p x v
  | .tup xs, v, h, z => by obtain ⟨a, vs, e, h1, h2, r⟩ := h; exact ⟨a, vs, e, h1, h2, RVs.back hp xs r z⟩
  | .lst xs, v, h, z => by obtain ⟨a, vs, e, h1, h2, r⟩ := h; exact ⟨a, vs, e, h1, h2, RVs.back hp xs r z⟩
  | .scr xs, v, h, z => by obtain ⟨a, vs, e, h1, h2, r⟩ := h; exact ⟨a, vs, e, h1, h2, RVs.back hp xs r z⟩
  | .dic ks xs, v, h, z => by obtain ⟨a, vs, e, h1, h2, r⟩ := h; exact ⟨a, vs, e, h1, h2, RVs.back hp xs r z⟩
  | .obj c ns xs, v, h, z => by obtain ⟨a, d, vs, e, h1, h2, r⟩ := h; exact ⟨a, d, vs, e, h1, h2, RVs.back hp xs r z⟩
  | .ref m, v, h, z => by obtain ⟨a, e, h1⟩ := h; exact ⟨a, e, hp m a (of_decide_eq_true z) h1⟩
  | .non, _, h, _ => h
  | .bl _, _, h, _ => h
  | .int _, _, h, _ => h
  | .str _, _, h, _ => h
theorem RVs.back (hp : ∀ (m : Nat) (a : Addr), m < n → q[m]? = some a → p[m]? = some a) : ∀ (x : List MV) {v : List V}, RVs K F q x v → MV.lts n x = true → RVs K F p x v
  | [], _, h, _ => h
  | x :: xs, v, h, z => by
    obtain ⟨u, w, e, r1, r2⟩ := h
    obtain ⟨z1, z2⟩ := Bool.and_eq_true_iff.mp (show (MV.lt n x && MV.lts n xs) = true from z)
    exact ⟨u, w, e, RV.back hp x r1 z1, RVs.back hp xs r2 z2⟩
end
theorem RO.back (hp : ∀ (m : Nat) (a : Addr), m < n → q[m]? = some a → p[m]? = some a) {o : MO} {u : HO} (h : RO K F q o u) (z : MO.lt n o = true) : RO K F p o u := by
  cases o with
  | lst xs => obtain ⟨vs, e, e2, r⟩ := h; exact ⟨vs, e, e2, RVs.back hp xs r z⟩
  | dic ks xs => obtain ⟨vs, e, e2, r⟩ := h; exact ⟨vs, e, e2, RVs.back hp xs r z⟩
  | ins c ns xs => obtain ⟨d, vs, e, e2, r⟩ := h; exact ⟨d, vs, e, e2, RVs.back hp xs r z⟩
  | dead => trivial
end
/-- the first things of the store are as they were, or name no later ones -/
def okTail (n : Nat) : So → So → Bool
  | [], _ => true
  | _ :: _, [] => false
  | o :: os, u :: us => (MO.same o u || MO.lt n u) && okTail n os us
theorem okTail_at {n : Nat} : ∀ {S T : So} {i : Nat} {o : MO}, okTail n S T = true → i < S.length → T[i]? = some o → S[i]? = some o ∨ MO.lt n o = true
  | [], _, i, _, _, h, _ => absurd h (Nat.not_lt_zero i)
  | _ :: _, [], _, _, h, _, _ => by cases h
  | o :: os, u :: us, 0, x, h, _, e => by
    obtain ⟨h1, _⟩ := Bool.and_eq_true_iff.mp (show ((MO.same o u || MO.lt n u) && okTail n os us) = true from h)
    have eu : u = x := by simpa using e
    subst eu
    rcases Bool.or_eq_true_iff.mp h1 with h1 | h1
    · exact .inl (by rw [MO.same_eq _ _ h1]; rfl)
    · exact .inr h1
  | o :: os, u :: us, i + 1, x, h, hl, e => by
    obtain ⟨_, h2⟩ := Bool.and_eq_true_iff.mp (show ((MO.same o u || MO.lt n u) && okTail n os us) = true from h)
    have := okTail_at (i := i) (o := x) h2 (by simpa using hl) (by simpa using e)
    simpa using this
theorem okTail_refl (n : Nat) : ∀ S T : So, okTail n S (S ++ T) = true
  | [], _ => by simp [okTail]
  | o :: os, T => by
    show ((MO.same o o || MO.lt n o) && okTail n os (os ++ T)) = true
    rw [MO.same_refl, okTail_refl n os T]; rfl
theorem okTail_set (n : Nat) {o : MO} (ho : MO.lt n o = true) : ∀ (S T : So) (i : Nat), okTail n S (S.set i o ++ T) = true
  | [], _, _ => by simp [okTail]
  | u :: us, T, 0 => by
    show ((MO.same u o || MO.lt n o) && okTail n us (us ++ T)) = true
    rw [ho, okTail_refl n us T]; simp
  | u :: us, T, i + 1 => by
    show ((MO.same u u || MO.lt n u) && okTail n us (us.set i o ++ T)) = true
    rw [MO.same_refl, okTail_set n ho us T i]; simp
def trim (S0 : So) : R MV → R MV
  | .ok x S => if S.length ≤ S0.length then .ok x S else if (MV.lt S0.length x && okTail S0.length S0 S) = true then .ok x (S.take S0.length) else .ok x S
  | .exc c x S => if S.length ≤ S0.length then .exc c x S else if (MV.lt S0.length x && okTail S0.length S0 S) = true then .exc c x (S.take S0.length) else .exc c x S
  | .bad => .bad
theorem trim_ok {S0 S : So} {x : MV} (h : S.length ≤ S0.length) : trim S0 (.ok x S) = .ok x S := if_pos h
theorem trim_exc {S0 S : So} {c : Str} {x : MV} (h : S.length ≤ S0.length) : trim S0 (.exc c x S) = .exc c x S := if_pos h
theorem trim_app {S0 S T : So} {x : MV} (hl : S.length = S0.length) (hx : MV.lt S0.length x = true) (h : okTail S0.length S0 (S ++ T) = true) : trim S0 (.ok x (S ++ T)) = .ok x S := by
  show (if (S ++ T).length ≤ S0.length then _ else _) = _
  by_cases z : (S ++ T).length ≤ S0.length
  · rw [if_pos z]
    have : T = [] := by
      rw [List.length_append, hl] at z
      exact List.eq_nil_of_length_eq_zero (by omega)
    rw [this, List.append_nil]
  · rw [if_neg z, if_pos (by rw [hx, h]; rfl), ← hl, List.take_left']
    rfl
theorem trim_appX {S0 S T : So} {c : Str} {x : MV} (hl : S.length = S0.length) (hx : MV.lt S0.length x = true) (h : okTail S0.length S0 (S ++ T) = true) : trim S0 (.exc c x (S ++ T)) = .exc c x S := by
  show (if (S ++ T).length ≤ S0.length then _ else _) = _
  by_cases z : (S ++ T).length ≤ S0.length
  · rw [if_pos z]
    have : T = [] := by
      rw [List.length_append, hl] at z
      exact List.eq_nil_of_length_eq_zero (by omega)
    rw [this, List.append_nil]
  · rw [if_neg z, if_pos (by rw [hx, h]; rfl), ← hl, List.take_left']
    rfl
/-- back to the places of the entry -/
theorem trim_back {K : Fg} {F F' H H' : Hp} {p p' : As} {S0 S : So} (e : Ext F p H F' p' H') (s0 : RS K F p S0 H) (s : RS K F' p' S H') (hz : ¬ S.length ≤ S0.length) (ht : okTail S0.length S0 S = true) :
    Ext F p H F' p H' ∧ RS K F' p (S.take S0.length) H' ∧ ∀ (m : Nat) (a : Addr), m < S0.length → p'[m]? = some a → p[m]? = some a := by
  have hp : ∀ (m : Nat) (a : Addr), m < S0.length → p'[m]? = some a → p[m]? = some a := fun m a hm ea => by
    have hm' : m < p.length := by rw [s0.len]; exact hm
    have z := e.x m p[m] (List.getElem?_eq_getElem hm')
    rw [ea] at z
    rw [List.getElem?_eq_getElem hm', Option.some.inj z]
  refine ⟨⟨e.f, Px.refl _, e.k, fun _ a b => absurd a b, e.g⟩, ⟨s.sub, ?_, s0.inj, fun i o a e1 e2 => ?_⟩, hp⟩
  · rw [List.length_take, s0.len]; omega
  · have hi : i < S0.length := by rw [← s0.len]; exact (List.getElem?_eq_some_iff.mp e2).1
    rw [List.getElem?_take] at e1
    rw [if_pos hi] at e1
    obtain ⟨u, h1, h2⟩ := s.ob i o a e1 (e.x i a e2)
    refine ⟨u, h1, h2.imp id fun ⟨hF, hr⟩ => ⟨hF, RO.back hp hr ?_⟩⟩
    rcases okTail_at ht hi e1 with q | q
    · obtain ⟨u0, _, h4⟩ := s0.ob i o a q e2
      rcases h4 with h4 | ⟨_, h4⟩
      · subst h4; rfl
      · rw [← s0.len]; exact h4.closed
    · exact q
theorem trim_fine {K : Fg} {F H : Hp} {p : As} {σ : L2.St} {W : WX} {Q : VK} {S0 : So} {r : R MV} (s0 : RS K F p S0 H) (h : fine K (RV K) F p H σ W Q (trim S0 r)) : fine K (RV K) F p H σ W Q r := by
  cases r with
  | bad => exact h
  | ok x S =>
    replace h : fine K (RV K) F p H σ W Q (if S.length ≤ S0.length then .ok x S else if (MV.lt S0.length x && okTail S0.length S0 S) = true then .ok x (S.take S0.length) else .ok x S) := h
    split at h
    · exact h
    · rename_i hz
      split at h
      · rename_i hc
        obtain ⟨c1, c2⟩ := Bool.and_eq_true_iff.mp hc
        intro F' p' H' v e s l
        obtain ⟨e2, s2, hp⟩ := trim_back e s0 s hz c2
        exact h F' p H' v e2 s2 (RV.back hp x l c1)
      · exact h
  | exc c x S =>
    replace h : fine K (RV K) F p H σ W Q (if S.length ≤ S0.length then .exc c x S else if (MV.lt S0.length x && okTail S0.length S0 S) = true then .exc c x (S.take S0.length) else .exc c x S) := h
    split at h
    · exact h
    · rename_i hz
      split at h
      · rename_i hc
        obtain ⟨c1, c2⟩ := Bool.and_eq_true_iff.mp hc
        intro F' p' H' v d e s l hd
        obtain ⟨e2, s2, hp⟩ := trim_back e s0 s hz c2
        exact h F' p H' v d e2 s2 (RV.back hp x l c1) hd
      · exact h
structure FnG (P : Program) (w : World) (K : PySem.W.Frag) (mg : Str → Option Value) (base : Heap) (k : Nat) (f : Addr) (fd : FuncData) (ps : List Str) (sp : Sp) : Prop where
  len : ∀ vs H Q E, sp vs H Q E → vs.length = ps.length
  go : ∀ (A : Around) (outer : List Env) (s : Shared) (H : Hp) (args : Args) (us : List Value) (vs : List V) (Q : VK) (E : XK), A.guards = some [] → Room k A → Env0 P w K mg base A outer s H → BindsTo s fd args (ps.zip us) → Vals vs us →
    sp vs H Q E → codeAny (model P w) A (.call (.ref f) args) (CR (L2.CX P w) outer P w H s Q E) s
theorem FnG.mono {P : Program} {w : World} {K : PySem.W.Frag} {mg : Str → Option Value} {base : Heap} {j k : Nat} {f : Addr} {fd : FuncData} {ps : List Str} {sp : Sp} (F : FnG P w K mg base j f fd ps sp) (h : j ≤ k) :
    FnG P w K mg base k f fd ps sp := ⟨F.len, fun A o s H a us vs Q E g r => F.go A o s H a us vs Q E g (r.mono h)⟩
def SR.fin : SR → R MV
  | .nxt _ S => .ok .non S
  | .ret x S => .ok x S
  | .exc c x _ S => .exc c x S
  | _ => .bad
abbrev DF := List MV → So → R MV
def en0 (n : Nat) (xs : List MV) : En := xs.map some ++ List.replicate (n - xs.length) none
def runDef (n : Nat) (b : MS) : DF := fun xs S => trim S (b (en0 n xs) S).fin
def spM (K : Fg) (n : Nat) (f : DF) : Sp := fun vs H Q E => vs.length = n ∧ ∃ xs S F p, RVs K F p xs vs ∧ RS K F p S H ∧ fine K (RV K) F p H [] (fun c d _ H => E c d H) Q (f xs S)
theorem fine_w {K : Fg} {F H : Hp} {p : As} {σ : L2.St} {W : WX} {Q : VK} {r : R MV} (h : fine K (RV K) F p H σ W Q r) : fine K (RV K) F p H [] (fun c d _ H => WE W σ c d H) Q r := by
  cases r <;> exact h
theorem start_re {K : Fg} {F : Hp} {p : As} {N : List Str} {xs : List MV} {vs : List V} (l : RVs K F p xs vs) : RE K F p (en0 N.length xs) (start N vs) := by
  have hl := l.length
  refine ⟨by simp [en0, L2.start, hl], fun i x e => ?_⟩
  unfold en0 at e
  rw [List.getElem?_append] at e
  split at e
  · rename_i hi
    rw [List.getElem?_map] at e
    cases q : xs[i]? with
    | none => rw [q] at e; cases e
    | some y =>
      rw [q] at e
      have ey : y = x := by simpa using e
      subst ey
      obtain ⟨u, h1, h2⟩ := l.get q
      refine ⟨u, ?_, h2⟩
      unfold L2.start
      rw [List.getElem?_append_left (by rw [List.length_map]; exact (List.getElem?_eq_some_iff.mp h1).1), List.getElem?_map, h1]
      rfl
  · rw [List.getElem?_replicate] at e
    split at e <;> cases e
section
variable {P : Program} {w : World} {K : PySem.W.Frag} {mg : Str → Option Value} {base : Heap} {x qual : Str} {params : Arguments} {body : List Stmt} {scope : Scope} {dvs : List V} {kws : List (Str × V)} {f : Addr} {fd : FuncData}
/-- where a def's body runs -/
abbrev Xd (P : Program) (w : World) (K : PySem.W.Frag) (mg : Str → Option Value) (base : Heap) (N : List Str) (qual : Str) (scope : Scope) (f : Addr) (cdv : Value) (A : Around) (outer : List Env) (s : Shared) (H : Hp) (E : XK) : Cx :=
  cxOf (L2.CX P w) P w K mg base N qual scope f cdv A outer s H E
theorem Xd.tk {N : List Str} {cdv : Value} {A : Around} {outer : List Env} {s : Shared} {H : Hp} {E : XK} : Takes (Xd P w K mg base N qual scope f cdv A outer s H E) (fun c d _ H => E c d H) := takes_of rfl rfl rfl rfl
theorem Xd.po {N : List Str} {cdv : Value} {A : Around} {outer : List Env} {s : Shared} {H : Hp} {E : XK} : PassesOwn (model (Xd P w K mg base N qual scope f cdv A outer s H E).prog (Xd P w K mg base N qual scope f cdv A outer s H E).w) (Xd P w K mg base N qual scope f cdv A outer s H E).A
    (Xd P w K mg base N qual scope f cdv A outer s H E).env (Xd P w K mg base N qual scope f cdv A outer s H E).xe := PassesOwn.leaving
theorem fn_def {N ps : List Str} {k : Nat} {b : MS} (F : FunD K x qual params body scope dvs kws f fd) (S : FnScope N ps scope)
    (hb : ∀ (cdv : Value) (A : Around) (outer : List Env) (s : Shared) (H : Hp) (E : XK), (A.deeper (envOfC qual scope s.heap.objs.size f cdv)).guards = some [] → Room k (A.deeper (envOfC qual scope s.heap.objs.size f cdv)) →
      PBm (Xd P w K mg base N qual scope f cdv A outer s H E) (fun c d _ H => E c d H) body b) :
    FnG P w K mg base (k + 1) f fd ps (spM K ps.length (runDef N.length b)) := by
  obtain ⟨oc, od, dV, kV, doc, pm, an, cdv, ct, osl, rfl, lk, hcd, _, _⟩ := F.ex
  refine ⟨fun vs H Q E h => h.1, fun A outer s H args us vs Q E hgd hr e0 hbd rel hsp => ?_⟩
  have hl := hsp.1
  have KX : K.In s.heap := e0.mod.kin.keeps fun b o e => (e0.bs b o e).1
  have hpar : ∀ y ∈ ps.zip us, scope.names.lookup y.1 = some .local ∨ (scope.names.lookup y.1 = some .cell ∧ ((cellsFrom (s.heap.objs.size + 1) scope.names []).lookup y.1).isSome = true) := fun y hy =>
    (S.par y.1 (List.of_mem_zip (show (y.1, y.2) ∈ ps.zip us from hy)).1).imp id fun q => ⟨q, PySem.W.cellsFrom_some _ _ _ (.inl q)⟩
  refine codeAny_call_function hr.depth (KX _ _ lk) rfl S.co S.gen rfl (PySem.W.codeRec_of KX hcd) (hbd _ _ _ _ (wpAny_newFunctionEnv_cells S.kind hpar fun env he s1 z => ?_))
  subst he
  refine ⟨(e0.mod.nolimit.keeps fun b o e => (e0.bs b o e).1).keeps z.toInCall.keep, codeAny_func ?_⟩
  have J : Inv (Xd P w K mg base N qual scope f cdv A outer s H E) [] (start N vs) H s1 := inv_start S hr.hd e0 hl rel z
  obtain ⟨_, xs, So0, Fz, p, l, hS, h⟩ := hsp
  have h' := trim_fine hS h
  refine wpAny_mono ((hb cdv A outer s H E hgd (hr.deeper _)).run [] s1 (start N vs) H { nx := fun _ H' => Q .non H', rt := Q } J ⟨en0 N.length xs, So0, Fz, p, start_re l, hS, ?_⟩) (fun fl s' hs => ?_) fun e s' hs => hs
  · cases q : b (en0 N.length xs) So0 with
    | bad => rw [q] at h'; exact h'.elim
    | nxt r1 S1 => rw [q] at h'; exact fun F' p' H' σ' e1 s1 E1 => h' F' p' H' .non e1 s1 rfl
    | ret y S1 => rw [q] at h'; exact h'
    | brk r1 S1 => rw [q] at h'; exact h'.elim
    | cnt r1 S1 => rw [q] at h'; exact h'.elim
    | exc c y r1 S1 => rw [q] at h'; exact fun F' p' H' σ' v d e1 s1 E1 l1 z => h' F' p' H' v d e1 s1 l1 z
  · match fl, hs with
    | .ret u, hs =>
      obtain ⟨v, σ', H', J', rv, q⟩ := hs
      exact ⟨v, H', J'.os, J'.bare, J'.base, J'.hok, rv, q⟩
    | .next, hs =>
      obtain ⟨σ', H', J', q⟩ := hs
      exact ⟨V.non, H', J'.os, J'.bare, J'.base, J'.hok, rfl, q⟩
    | .brk, hs => exact hs.elim fun _ h => h.elim fun _ h => h.2.elim
    | .cont, hs => exact hs.elim fun _ h => h.elim fun _ h => h.2.elim
end
def mCall (g : DF) (ds : List MV) (ms : List ME) : ME := fun r S => (mArgs ms r S).bind fun xs S => g (xs ++ ds) S
section
variable {X : Cx} {W : WX} {k n : Nat} {f C : Addr} {fd : FuncData} {ps : List Str} {g : DF} {dvs : List V} {ds : List Value} {mds : List MV} {x m : Str} {p pos apos : Pos} {e o : Expr} {es : List Expr} {ms : List ME} {mo : ME}
theorem run_fnG {sp : Sp} {pins : List (Addr × Obj)} {σ : L2.St} {H : Hp} {s : Shared} {Q : VK} {us : List Value} {vs : List V} (tk : Takes X W) (F : FnG X.prog X.w X.K X.mg X.base k f fd ps sp) (hgd : X.A.guards = some []) (hr : Room k X.A) (hb : Binds X.K fd ps ds) (hd : Vals dvs ds)
    (I : Inv X pins σ H s) (r : Vals vs us) (h : sp (vs ++ dvs) H Q (WE W σ)) : wpAny (model X.prog X.w) X.A (call (.ref f) us) (EP X pins σ Q) X.xe s := by
  have q := r.append hd
  have hl : (us ++ ds).length = ps.length := by rw [← q.length]; exact F.len _ _ _ _ h
  refine wpAny_call (codeAny_mono (F.go X.A X.stack s H ⟨us, []⟩ (us ++ ds) (vs ++ dvs) Q (WE W σ) hgd hr I.env0 (hb s us I.kIn hl) q h) fun res s' hq => ?_)
  match res, hq with
  | .error er, hq => exact passAt tk σ pins H s er s' I hq
  | .ok (.ret u), hq => exact I.after hq
theorem mp_call (tk : Takes X W) (F : FnG X.prog X.w X.K X.mg X.base k f fd ps (spM X.K n g)) (hgd : X.A.guards = some []) (hr : Room k X.A) (hg : Gl X x) (hm : X.mg x = some (.ref f)) (hk : PySem.W.keepIn X.K (.ref f) = true) (hb : Binds X.K fd ps ds) (hd : Vals dvs ds)
    (hdm : ∀ F p, RVs X.K F p mds dvs) (hn : ms.length + mds.length = n) (ha : PAm X W (e :: es) (mArgs ms)) (hdb : (x == ("__debug__" : Str)) = false := by decide) (he : starEach (e :: es) X.env = (false, eval e X.env) :: starEach es X.env := by rfl) (hpl : (backTo pos (starEach es X.env)).any (·.1) = false := by rfl) :
    PEm X W (.Call (.Name x p) (e :: es) [] pos) (mCall g mds ms) := by
  refine ⟨fun pins s σ H Q I ⟨r, S, F', p', hE, hS, h⟩ => ?_⟩
  refine wpAny_Call_Name_kw (ld_glob I hg hm ?_ hdb)
  refine PySem.W.callWith_K (h₀ := X.base) I.ok.mod.kin hk (thn (ha.run pos pins s σ H _ I ⟨r, S, F', p', hE, hS, fine.bind h fun xs S1 F1 p1 H1 vs e1 x1 s1 l1 h1 =>
    (⟨by rw [List.length_append, l1.length, mArgs_length e1, (hdm F1 p1).length, hn], xs ++ mds, S1, F1, p1, l1.app (hdm F1 p1), s1, fine_w h1⟩ : spM X.K n g (vs ++ dvs) H1 Q (WE W σ))⟩) fun us s1 ⟨vs, H1, I1, r1, q⟩ => ⟨I1.kIn, ?_⟩) he hpl
  exact run_fnG tk F hgd hr hb hd I1 r1 q
theorem mp_call0 (tk : Takes X W) (F : FnG X.prog X.w X.K X.mg X.base k f fd ps (spM X.K n g)) (hgd : X.A.guards = some []) (hr : Room k X.A) (hg : Gl X x) (hm : X.mg x = some (.ref f)) (hk : PySem.W.keepIn X.K (.ref f) = true) (hb : Binds X.K fd ps ds) (hd : Vals dvs ds)
    (hdm : ∀ F p, RVs X.K F p mds dvs) (hn : mds.length = n) (hdb : (x == ("__debug__" : Str)) = false := by decide) :
    PEm X W (.Call (.Name x p) [] [] pos) (mCall g mds []) := by
  refine ⟨fun pins s σ H Q I ⟨r, S, F', p', hE, hS, h⟩ => ?_⟩
  refine wpAny_Call_Name_kw (ld_glob I hg hm ?_ hdb)
  refine PySem.W.callWith_K0 I.kIn hk (run_fnG (us := []) (vs := []) tk F hgd hr hb hd I .nil ?_)
  exact ⟨by rw [← hn]; exact (hdm F' p').length, mds, S, F', p', hdm F' p', hS, fine_w h⟩
/-- o.m(e, ..), o an instance of one class -/
def isCls (c : Str) : MV → So → Bool
  | .obj d _ _, _ => decide (d = c)
  | .ref n, S => match S[n]? with
    | some (.ins d _ _) => decide (d = c)
    | _ => false
  | _, _ => false
theorem isCls_ok {K : Fg} {F H : Hp} {p : As} {S : So} {c : Str} {x : MV} {v : V} (hS : RS K F p S H) (l : RV K F p x v) (h : isCls c x S = true) :
    ∃ a dx fs ns xs, v = .ref a ∧ H a = some (.ins (He.ga K c) dx fs) ∧ fs.map (·.1) = ns ∧ RVs K F p xs (fs.map (·.2)) ∧ (x = .obj c ns xs ∨ ∃ n, x = .ref n ∧ S[n]? = some (.ins c ns xs)) := by
  cases x with
  | obj d ns xs =>
    have e : d = c := of_decide_eq_true h
    subst e
    obtain ⟨a, dx, fs, rfl, h1, h2, h3⟩ := l
    exact ⟨a, dx, fs, ns, xs, rfl, hS.sub _ _ h1, h2, h3, .inl rfl⟩
  | ref n =>
    unfold isCls at h
    simp only at h
    split at h
    · rename_i d ns xs e
      have ed : d = c := of_decide_eq_true h
      subst ed
      obtain ⟨a, rfl, ha⟩ := l
      obtain ⟨a', u, e1, e2, e3⟩ := hS.at e
      have ea : a' = a := Option.some.inj (e1.symm.trans ha)
      subst ea
      obtain ⟨_, dx, fs, rfl, h2, h3⟩ := e3.resolve_left (by intro z; cases z)
      exact ⟨a', dx, fs, ns, xs, rfl, e2, h2, h3, .inr ⟨n, rfl, e⟩⟩
    · cases h
  | _ => cases h
theorem lookup_names {α : Type} : ∀ {fs : List (Str × α)} {m : Str}, (fs.map (·.1)).contains m = false → fs.lookup m = none
  | [], _, _ => rfl
  | (a, b) :: fs, m, h => by
    rw [List.map_cons, List.contains_cons] at h
    obtain ⟨h1, h2⟩ := Bool.or_eq_false_iff.mp h
    rw [List.lookup_cons, h1]
    exact lookup_names h2
def fldNames (x : MV) (S : So) : List Str := match x with
  | .obj _ ns _ => ns
  | .ref n => match S[n]? with
    | some (.ins _ ns _) => ns
    | _ => []
  | _ => []
def mMeth (c m : Str) (g : DF) (ds : List MV) (mo : ME) (ms : List ME) : ME := fun r S => (mo r S).bind fun x S => if (isCls c x S && !(fldNames x S).contains m) = true then (mArgs ms r S).bind fun xs S => g (x :: (xs ++ ds)) S else .bad
theorem meth_ok {K : Fg} {F H : Hp} {p : As} {S : So} {c m : Str} {x : MV} {v : V} (hS : RS K F p S H) (l : RV K F p x v) (h : (isCls c x S && !(fldNames x S).contains m) = true) :
    ∃ a dx fs, v = .ref a ∧ H a = some (.ins (He.ga K c) dx fs) ∧ fs.lookup m = none := by
  obtain ⟨h1, h2⟩ := Bool.and_eq_true_iff.mp h
  obtain ⟨a, dx, fs, ns, xs, e, hH, hns, _, hx⟩ := isCls_ok hS l h1
  refine ⟨a, dx, fs, e, hH, lookup_names ?_⟩
  rw [hns]
  have h3 : (fldNames x S).contains m = false := by simpa using h2
  rcases hx with hx | ⟨n, hx, hx2⟩
  · subst hx; exact h3
  · subst hx
    unfold fldNames at h3
    simp only [hx2] at h3
    exact h3
theorem mp_meth {pl : Sem Bool} {c : Str} (tk : Takes X W) (ho : PEm X W o mo) (cl : Cls X.K (He.ga X.K c)) (hm : Meth X.K (He.ga X.K c) m f) (F : FnG X.prog X.w X.K X.mg X.base k f fd ps (spM X.K n g)) (hgd : X.A.guards = some []) (hr : Room k X.A) (hb : Binds X.K fd ps ds) (hd : Vals dvs ds)
    (hdm : ∀ F p, RVs X.K F p mds dvs) (hn : ms.length + mds.length + 1 = n) (ha : PAm X W (e :: es) (mArgs ms))
    (hst : starEach (e :: es) X.env = (false, eval e X.env) :: starEach es X.env := by rfl) (hpl : (backTo pos (starEach es X.env)).any (·.1) = false := by rfl)
    (ht : eval (.Call (.Attribute o m apos) (e :: es) [] pos) X.env = (do
      let ov ← eval o X.env
      standAt apos.atName
      let (f, first) ← holding [ov] (getMethod ov m pl)
      callWith pos f first (backTo pos (starEach (e :: es) X.env)) (backToKw pos (keywordEach [] X.env))) := by rfl) :
    PEm X W (.Call (.Attribute o m apos) (e :: es) [] pos) (mMeth c m g mds mo ms) := by
  refine ⟨fun pins s σ H Q I ⟨r, S, F', p', hE, hS, h⟩ => ?_⟩
  refine PySem.W.methodCall_KW (pl := pl) (thn (ho.run pins s σ H _ I ⟨r, S, F', p', hE, hS, fine.bind h fun x S1 F1 p1 H1 v e1 x1 s1 l1 h1 => (⟨x, S1, F1, p1, hE.ext x1, s1, l1, h1⟩ : ∃ x S1 F1 p1, RE X.K F1 p1 r σ ∧ RS X.K F1 p1 S1 H1 ∧ RV X.K F1 p1 x v ∧
    fine X.K (RV X.K) F1 p1 H1 σ W Q (if (isCls c x S1 && !(fldNames x S1).contains m) = true then (mArgs ms r S1).bind fun xs S => g (x :: (xs ++ mds)) S else .bad))⟩) fun u s1 ⟨v, H1, I1, rx, x, S1, F1, p1, hE1, hS1, l1, h1⟩ => ?_) ht
  split at h1
  · rename_i hc
    obtain ⟨a, dx, fs, rfl, ea, l⟩ := meth_ok hS1 l1 hc
    obtain rfl : u = Value.ref a := rx
    refine getmeth_ok I1 ea cl hm l ?_
    refine PySem.W.callWith_K (first := [.ref a]) (h₀ := X.base) I.ok.mod.kin hm.kp (thn (ha.run pos pins s1 σ H1 _ I1 ⟨r, S1, F1, p1, hE1, hS1, fine.bind h1 fun xs S2 F2 p2 H2 vs e2 x2 s2 l2 h2 =>
      (⟨by rw [l2.length, mArgs_length e2], xs, S2, F2, p2, s2, RV.mono x2.f x2.x x l1, l2, h2⟩ : vs.length = ms.length ∧ ∃ xs S2 F2 p2, RS X.K F2 p2 S2 H2 ∧ RV X.K F2 p2 x (.ref a) ∧ RVs X.K F2 p2 xs vs ∧ fine X.K (RV X.K) F2 p2 H2 σ W Q (g (x :: (xs ++ mds)) S2))⟩) fun us s2 ⟨vs, H2, I2, r2, hl, xs, S2, F2, p2, hS2, lx, l2, h2⟩ => ⟨I2.kIn, ?_⟩) hst hpl
    refine run_fnG (us := .ref a :: us) (vs := .ref a :: vs) tk F hgd hr hb hd I2 (.cons rfl r2) ?_
    exact ⟨by rw [List.cons_append, List.length_cons, List.length_append, hl, (hdm F2 p2).length]; exact hn, x :: (xs ++ mds), S2, F2, p2, ⟨_, _, rfl, lx, l2.app (hdm F2 p2)⟩, hS2, fine_w h2⟩
  · exact h1.elim
end
end Mi

set_option maxHeartbeats 4000000
namespace Mi
open PySem PySem.Spec PyProof.Rows L2
abbrev SZ : Nat := 16777216
theorem sz_line : SZ = sizeLine := by rw [sizeLine_eq]
def seqOf (S : So) : MV → Option (List MV)
  | .tup xs => some xs
  | .lst xs => some xs
  | .scr xs => some xs
  | .ref n => match S[n]? with
    | some (.lst xs) => some xs
    | _ => none
  | _ => none
def isTup : MV → Bool
  | .tup _ => true
  | _ => false
section
variable {K : Fg} {F H : Hp} {p : As} {S : So} {x : MV} {v : V} {xs : List MV}
theorem ref_at (hS : RS K F p S H) {n : Nat} {o : MO} (l : RV K F p (.ref n) v) (e : S[n]? = some o) (hd : o ≠ .dead) : ∃ a u, v = .ref a ∧ p[n]? = some a ∧ H a = some u ∧ F a = none ∧ RO K F p o u := by
  obtain ⟨a, rfl, ha⟩ := l
  obtain ⟨a', u, e1, e2, e3⟩ := hS.at e
  have ea : a' = a := Option.some.inj (e1.symm.trans ha)
  subst ea
  obtain ⟨h1, h2⟩ := e3.resolve_left hd
  exact ⟨a', u, rfl, e1, e2, h1, h2⟩
theorem seq_ok (hS : RS K F p S H) (l : RV K F p x v) (h : seqOf S x = some xs) : ∃ a vs, v = .ref a ∧ ((isTup x = false ∧ SqL K H a vs) ∨ (isTup x = true ∧ SqT K H a vs)) ∧ vs.length ≤ sizeLine ∧ RVs K F p xs vs := by
  cases x with
  | tup ys =>
    cases h
    obtain ⟨a, vs, e, h1, h2, h3⟩ := l
    exact ⟨a, vs, e, .inr ⟨rfl, Same.seqT hS.sub h1⟩, h2, h3⟩
  | lst ys =>
    cases h
    obtain ⟨a, vs, e, h1, h2, h3⟩ := l
    exact ⟨a, vs, e, .inl ⟨rfl, SqL.of (hS.sub _ _ h1)⟩, h2, h3⟩
  | scr ys =>
    cases h
    obtain ⟨a, vs, e, h1, h2, h3⟩ := l
    exact ⟨a, vs, e, .inl ⟨rfl, Same.seq hS.sub h1⟩, h2, h3⟩
  | ref n =>
    unfold seqOf at h
    simp only at h
    split at h
    · rename_i ys e
      cases h
      obtain ⟨a, u, e1, _, e2, _, vs, rfl, h2, h3⟩ := ref_at hS l e (by intro z; cases z)
      exact ⟨a, vs, e1, .inl ⟨rfl, SqL.of e2⟩, h2, h3⟩
    · cases h
  | _ => cases h
theorem atI_rel {i : Int} {y : MV} {vs : List V} (l : RVs K F p xs vs) (h : atI xs i = some y) : ∃ w, atI vs i = some w ∧ RV K F p y w := by
  unfold atI at *
  rw [l.length]
  cases e : ixN xs.length i with
  | none => rw [e] at h; cases h
  | some j =>
    rw [e] at h
    obtain ⟨w, h1, h2⟩ := l.get (i := j) (x := y) h
    exact ⟨w, h1, h2⟩
end
def ixM : G2 := fun x i S => match i with
  | .int i => match x with
    | .str z => if z.length ≤ SZ then (match atI z.cps.toList i with
      | some c => .ok (.str ⟨#[c]⟩) S
      | none => .bad) else .bad
    | _ => match seqOf S x with
      | some xs => match atI xs i with
        | some y => .ok y S
        | none => .bad
      | none => .bad
  | _ => .bad
section
variable {X : Cx} {W : WX} {a b : Expr} {ma mb : ME} {pos : Pos}
theorem ixr_or {r r' : R2} (h : IxR X r) (h' : IxR X r') : IxR X (fun x y H Q => r x y H Q ∨ r' x y H Q) :=
  fun vl sl pins s σ H x y v u Q I rx ry q hs => q.elim (fun q => h vl sl pins s σ H x y v u Q I rx ry q hs) (fun q => h' vl sl pins s σ H x y v u Q I rx ry q hs)
theorem ixm_rel {K : Fg} {F H : Hp} {p : As} {S : So} {x y : MV} {v w : V} {σ : L2.St} {Q : VK} (hS : RS K F p S H) (l1 : RV K F p x v) (l2 : RV K F p y w) (h : fine K (RV K) F p H σ W Q (ixM x y S)) :
    (rIxL K v w H Q ∨ rIxT K v w H Q) ∨ rIxS v w H Q := by
  cases y with
  | int i =>
    cases l2
    have main : ∀ xs, seqOf S x = some xs → fine K (RV K) F p H σ W Q (match atI xs i with
        | some y => .ok y S
        | none => .bad) → (rIxL K v (.int i) H Q ∨ rIxT K v (.int i) H Q) ∨ rIxS v (.int i) H Q := by
      intro xs e h
      cases e2 : atI xs i with
      | none => rw [e2] at h; exact h.elim
      | some y =>
        rw [e2] at h
        obtain ⟨a, vs, rfl, h1, _, h2⟩ := seq_ok hS l1 e
        obtain ⟨w, e3, l3⟩ := atI_rel h2 e2
        rcases h1 with ⟨_, h1⟩ | ⟨_, h1⟩
        · exact .inl (.inl ⟨a, vs, i, w, rfl, rfl, h1, e3, fine.done h hS l3⟩)
        · exact .inl (.inr ⟨a, vs, i, w, rfl, rfl, h1, e3, fine.done h hS l3⟩)
    cases x with
    | str z =>
      cases l1
      have h' : fine K (RV K) F p H σ W Q (if z.length ≤ SZ then (match atI z.cps.toList i with
        | some c => .ok (.str ⟨#[c]⟩) S
        | none => .bad) else .bad) := h
      split at h'
      · rename_i hz
        cases e2 : atI z.cps.toList i with
        | none => rw [e2] at h'; exact h'.elim
        | some c =>
          rw [e2] at h'
          exact .inr ⟨z, i, c, rfl, rfl, by rw [← sz_line]; exact hz, e2, fine.done h' hS rfl⟩
      · exact h'.elim
    | tup ys => exact main ys rfl h
    | lst ys => exact main ys rfl h
    | scr ys => exact main ys rfl h
    | ref n =>
      have h' : fine K (RV K) F p H σ W Q (match seqOf S (.ref n) with
        | some xs => match atI xs i with
          | some y => .ok y S
          | none => .bad
        | none => .bad) := h
      cases e : seqOf S (.ref n) with
      | none => rw [e] at h'; exact h'.elim
      | some xs => rw [e] at h'; exact main xs e h'
    | _ => exact h.elim
  | _ => exact h.elim
theorem mp_ix (ha : PEm X W a ma) (hb : PEm X W b mb) (hs : PlainIx b := by intro _ _; rfl) : PEm X W (.Subscript a b pos) (mBin ixM ma mb) :=
  pe_weak (pe_ix (ixr_or (ixr_or ix_list ix_tup) ix_str) ha hb hs) fun σ H Q ⟨r, S, F, p, hE, hS, h⟩ => by
    refine ⟨r, S, F, p, hE, hS, fine.bind h fun x S1 F1 p1 H1 v _ e1 s1 l1 h1 => ?_⟩
    refine ⟨r, S1, F1, p1, hE.ext e1, s1, fine.bind h1 fun y S2 F2 p2 H2 w _ e2 s2 l2 h2 => ?_⟩
    exact ixm_rel s2 (RV.mono e2.f e2.x x l1) l2 h2
/-- one way, else another -/
def mAlt (a b : ME) : ME := fun r S => match a r S with
  | .bad => b r S
  | z => z
theorem mp_alt {e : Expr} (h1 : PEm X W e ma) (h2 : PEm X W e mb) : PEm X W e (mAlt ma mb) := pe_weak (pe_or h1 h2) fun σ H Q ⟨r, S, F, p, hE, hS, h⟩ => by
  have h' : fine X.K (RV X.K) F p H σ W Q (match ma r S with
    | .bad => mb r S
    | z => z) := h
  cases q : ma r S with
  | bad => rw [q] at h'; exact .inr ⟨r, S, F, p, hE, hS, h'⟩
  | ok y S1 => rw [q] at h'; exact .inl ⟨r, S, F, p, hE, hS, by rw [q]; exact h'⟩
  | exc c y S1 => rw [q] at h'; exact .inl ⟨r, S, F, p, hE, hS, by rw [q]; exact h'⟩
def cutM (xs : List MV) (lo hi : Option Int) : List MV := (xs.drop (HT.sIx xs.length 0 lo)).take (HT.sIx xs.length xs.length hi - HT.sIx xs.length 0 lo)
def slM (x : MV) (lo hi : Option Int) (S : So) : R MV := match x with
  | .str z => if z.length ≤ SZ then .ok (.str (cutS z lo hi)) S else .bad
  | .tup xs => .ok (.tup (cutM xs lo hi)) S
  | x => match seqOf S x with
    | some xs => .ok (.lst (cutM xs lo hi)) S
    | none => .bad
abbrev MP := En → So → R (Option Int)
def oNone : MP := fun _ S => .ok none S
def oSome (m : ME) : MP := fun r S => (m r S).bind fun x S => match x with
  | .int i => .ok (some i) S
  | _ => .bad
def LP : Rl (Option Int) (Option Int) := fun _ _ a b => a = b
def tP (K : Fg) (W : WX) (m : MP) : TO := fun σ H Q => ∃ r S F p, RE K F p r σ ∧ RS K F p S H ∧ fine K LP F p H σ W Q (m r S)
abbrev POm (X : Cx) (W : WX) (e : Option Expr) (m : MP) : Prop := PO X e (tP X.K W m)
theorem po_weak {e : Option Expr} {t t' : TO} (h : PO X e t) (i : ∀ σ H Q, t' σ H Q → t σ H Q) : PO X e t' := ⟨fun pins s σ H Q I q => h.run pins s σ H Q I (i σ H Q q)⟩
theorem mo_none : POm X W none oNone := po_weak po_none fun σ H Q ⟨r, S, F, p, hE, hS, h⟩ => h F p H none (Ext.refl _ _ _) hS rfl
theorem mo_some (ha : PEm X W a ma) : POm X W (some a) (oSome ma) := po_weak (po_some ha) fun σ H Q ⟨r, S, F, p, hE, hS, h⟩ => by
  refine ⟨r, S, F, p, hE, hS, fine.bind h fun x S1 F1 p1 H1 v _ e1 s1 l1 h1 => ?_⟩
  cases x with
  | int i => cases l1; exact ⟨i, rfl, h1 _ _ _ _ (Ext.refl _ _ _) s1 rfl⟩
  | _ => exact h1.elim
theorem cutM_rel {K : Fg} {F : Hp} {p : As} {xs : List MV} {vs : List V} {lo hi : Option Int} (l : RVs K F p xs vs) : RVs K F p (cutM xs lo hi) (cutV vs lo hi) := by
  unfold cutM cutV
  rw [l.length]
  exact (l.drop _).take _
def mSl (a : ME) (lo hi : MP) : ME := fun r S => (a r S).bind fun x S => (lo r S).bind fun l S => (hi r S).bind fun h S => slM x l h S
theorem slm_rel {K : Fg} {F H : Hp} {p : As} {S : So} {x : MV} {v : V} {lo hi : Option Int} {σ : L2.St} {Q : VK} (hS : RS K F p S H) (l1 : RV K F p x v) (h : fine K (RV K) F p H σ W Q (slM x lo hi S)) :
    (rSlL K v lo hi H Q ∨ rSlA K v lo hi H Q) ∨ rSlS v lo hi H Q := by
  have main : ∀ xs, seqOf S x = some xs → isTup x = false → fine K (RV K) F p H σ W Q (.ok (.lst (cutM xs lo hi)) S) → (rSlL K v lo hi H Q ∨ rSlA K v lo hi H Q) ∨ rSlS v lo hi H Q := by
    intro xs e ht h
    obtain ⟨a, vs, rfl, h1, hz, h2⟩ := seq_ok hS l1 e
    rcases h1 with ⟨_, h1⟩ | ⟨z, _⟩
    · exact .inl (.inl ⟨a, vs, rfl, h1, fun q hq => h _ _ _ _ (hS.frozenE hq) (hS.frozen hq) ⟨q, _, rfl, upd_same, Nat.le_trans (cutV_length _ _ _) hz, RVs.mono (Same.updF (hS.free hq)) (Px.refl _) _ (cutM_rel h2)⟩⟩)
    · rw [ht] at z; cases z
  cases x with
  | str z =>
    cases l1
    have h' : fine K (RV K) F p H σ W Q (if z.length ≤ SZ then .ok (.str (cutS z lo hi)) S else .bad) := h
    split at h'
    · rename_i hz
      exact .inr ⟨z, rfl, by rw [← sz_line]; exact hz, fine.done h' hS rfl⟩
    · exact h'.elim
  | tup xs =>
    obtain ⟨a, vs, rfl, h1, hz, h2⟩ := l1
    have hT := Same.seqT hS.sub h1
    refine .inl (.inr ⟨a, vs, rfl, hT, fun he => ?_, fun _ q hq => ?_⟩)
    · have ev : cutV vs lo hi = vs := by
        unfold cutV
        rw [he.1, he.2]
        simp
      refine fine.done (x := .tup (cutM xs lo hi)) h hS ⟨a, vs, rfl, h1, hz, ?_⟩
      have := cutM_rel (lo := lo) (hi := hi) h2
      rwa [ev] at this
    · exact h _ _ _ _ (hS.frozenE hq) (hS.frozen hq) ⟨q, _, rfl, .inl (.inl upd_same), Nat.le_trans (cutV_length _ _ _) hz, RVs.mono (Same.updF (hS.free hq)) (Px.refl _) _ (cutM_rel h2)⟩
  | lst ys => exact main ys rfl rfl h
  | scr ys => exact main ys rfl rfl h
  | ref n =>
    have h' : fine K (RV K) F p H σ W Q (match seqOf S (.ref n) with
      | some xs => .ok (.lst (cutM xs lo hi)) S
      | none => .bad) := h
    cases e : seqOf S (.ref n) with
    | none => rw [e] at h'; exact h'.elim
    | some xs => rw [e] at h'; exact main xs e rfl h'
  | _ => exact h.elim
theorem mp_sl {lo hi : Option Expr} {ml mh : MP} {p2 : Pos} (ha : PEm X W a ma) (hl : POm X W lo ml) (hh : POm X W hi mh) : PEm X W (.Subscript a (.Slice lo hi none p2) pos) (mSl ma ml mh) :=
  pe_weak (pe_slice ((SlR.or (SlR.or sl_list sl_tupA) sl_str)) ha hl hh) fun σ H Q ⟨r, S, F, p, hE, hS, h⟩ => by
    refine ⟨r, S, F, p, hE, hS, fine.bind h fun x S1 F1 p1 H1 v _ e1 s1 l1 h1 => ?_⟩
    refine ⟨r, S1, F1, p1, hE.ext e1, s1, fine.bind h1 fun y S2 F2 p2 H2 w _ e2 s2 l2 h2 => ?_⟩
    refine ⟨r, S2, F2, p2, (hE.ext e1).ext e2, s2, fine.bind h2 fun z S3 F3 p3 H3 u _ e3 s3 l3 h3 => ?_⟩
    cases (show y = w from l2)
    cases (show z = u from l3)
    exact slm_rel s3 (RV.mono e3.f e3.x x (RV.mono e2.f e2.x x l1)) h3
end
def lookN (f : Str) : List Str → List MV → Option MV
  | n :: ns, x :: xs => if (f == n) = true then some x else lookN f ns xs
  | _, _ => none
def clsOf : MV → So → Option (Str × List Str × List MV)
  | .obj c ns xs, _ => some (c, ns, xs)
  | .ref n, S => match S[n]? with
    | some (.ins c ns xs) => some (c, ns, xs)
    | _ => none
  | _, _ => none
theorem look_rel {K : Fg} {F : Hp} {p : As} {f : Str} {y : MV} : ∀ {fs : List (Str × V)} {ns : List Str} {xs : List MV}, fs.map (·.1) = ns → RVs K F p xs (fs.map (·.2)) → lookN f ns xs = some y → ∃ v, fs.lookup f = some v ∧ RV K F p y v
  | [], _, _, h, _, e => by subst h; cases e
  | (g, w) :: fs, _, [], h, l, _ => by
    have := l.length
    simp at this
  | (g, w) :: fs, _, x :: xs, h, l, e => by
    subst h
    obtain ⟨u, r, e2, l1, l2⟩ := l
    have e3 : w = u ∧ fs.map (·.2) = r := by simpa using e2
    obtain ⟨rfl, rfl⟩ := e3
    rw [List.lookup_cons]
    unfold lookN at e
    simp only [List.map_cons] at e
    cases q : (f == g) with
    | true =>
      rw [q] at e
      have ex : x = y := by simpa using e
      subst ex
      exact ⟨w, rfl, l1⟩
    | false =>
      rw [q] at e
      exact look_rel rfl l2 (by simpa using e)
theorem cls_rel {K : Fg} {F H : Hp} {p : As} {S : So} {x : MV} {v : V} {c : Str} {ns : List Str} {xs : List MV} (hS : RS K F p S H) (l : RV K F p x v) (h : clsOf x S = some (c, ns, xs)) :
    ∃ a dx fs, v = .ref a ∧ H a = some (.ins (He.ga K c) dx fs) ∧ fs.map (·.1) = ns ∧ RVs K F p xs (fs.map (·.2)) := by
  cases x with
  | obj d ms ys =>
    cases h
    obtain ⟨a, dx, fs, e, h1, h2, h3⟩ := l
    exact ⟨a, dx, fs, e, hS.sub _ _ h1, h2, h3⟩
  | ref n =>
    unfold clsOf at h
    simp only at h
    split at h
    · rename_i d ms ys e
      cases h
      obtain ⟨a, u, e1, _, e2, _, dx, fs, rfl, h2, h3⟩ := ref_at hS l e (by intro z; cases z)
      exact ⟨a, dx, fs, e1, e2, h2, h3⟩
    · cases h
  | _ => cases h
def mFld (c f : Str) (mo : ME) : ME := fun r S => (mo r S).bind fun x S => match clsOf x S with
  | some (d, ns, xs) => if d = c then (match lookN f ns xs with
    | some y => .ok y S
    | none => .bad) else .bad
  | none => .bad
/-- a def that lets nothing out -/
def noX : R MV → R MV
  | .exc _ _ _ => .bad
  | z => z
def mProp (c : Str) (g : DF) (mo : ME) : ME := fun r S => (mo r S).bind fun x S => match clsOf x S with
  | some (d, _, _) => if d = c then noX (g [x] S) else .bad
  | none => .bad
section
variable {X : Cx} {W : WX} {e o : Expr} {m mo mv : ME} {pos : Pos}
theorem mp_fld {c f : Str} (he : PEm X W e m) (cl : Cls X.K (He.ga X.K c)) (na : NoAttr X.K (He.ga X.K c) f) (hb : attributeBase e f X.env (eval e X.env) = eval e X.env := by rfl) : PEm X W (.Attribute e f pos) (mFld c f m) :=
  pe_weak (pe_fld he hb) fun σ H Q ⟨r, S, F, p, hE, hS, h⟩ => by
    refine ⟨r, S, F, p, hE, hS, fine.bind h fun x S1 F1 p1 H1 v _ e1 s1 l1 h1 => ?_⟩
    cases q : clsOf x S1 with
    | none => rw [q] at h1; exact h1.elim
    | some t =>
      obtain ⟨d, ns, xs⟩ := t
      rw [q] at h1
      simp only at h1
      split at h1
      · rename_i hd
        subst hd
        obtain ⟨a, dx, fs, rfl, h2, h3, h4⟩ := cls_rel s1 l1 q
        cases q2 : lookN f ns xs with
        | none => rw [q2] at h1; exact h1.elim
        | some y =>
          rw [q2] at h1
          obtain ⟨w, h5, h6⟩ := look_rel h3 h4 q2
          exact ⟨a, _, dx, fs, w, rfl, h2, cl, na, h5, fine.done h1 s1 h6⟩
      · exact h1.elim
theorem in1_guard {A : Around} (h : A.guards = some []) : A.in1.guards = some [] := h
theorem prop_core {pins : List (Addr × Obj)} {σ : L2.St} {H : Hp} {s : Shared} {Q : VK} {b : Bool} {k : Nat} {C pa ga a dx : Addr} {fs : List (Str × V)} {f : Str} {fd : FuncData} {ps : List Str} {sp : Sp} (I : Inv X pins σ H s) (ea : H a = some (.ins C dx fs)) (c : Cls X.K C) (hp : PropOf X.K C f pa ga)
    (G : FnG X.prog X.w X.K X.mg X.base k ga fd ps sp) (hgd : X.A.guards = some []) (hr : Room (k + 1) X.A) (hb : Binds X.K fd ps []) (h : sp [.ref a] H Q E0) :
    wpAny (model X.prog X.w) X.A (getAttr (.ref a) f b) (EP X pins σ Q) X.xe s := by
  obtain ⟨mA, O, _⟩ := ins_get I.hok ea
  obtain ⟨od, J, _⟩ := O.look
  obtain ⟨rest, hrec⟩ := hp.rec_
  have I1 := I.tok (s.toks + 1)
  have hl : ([Value.ref a] ++ []).length = ps.length := (G.len _ _ _ _ h)
  obtain ⟨cd, hcd, _⟩ := PySem.W.any_some c.hd
  refine PySem.W.get_bind I.kIn J (PySem.W.plainGet_of (c.get f)).1 (PySem.W.findObj_data (by rw [hcd]; rfl) hp.at_ hp.get hp.tak) (PySem.W.plainGet_of (c.get f)).2 (wpAny_call (PySem.W.prop_get (s := { s with toks := s.toks + 1 }) I.kIn hrec ?_))
  refine codeAny_mono (G.go X.A.in1 X.stack { s with toks := s.toks + 1 } H ⟨[Value.ref a], []⟩ ([Value.ref a] ++ []) [V.ref a] Q E0 (in1_guard hgd) hr.in1 I1.env0.in1 (hb _ [Value.ref a] I1.kIn hl) (.cons (show RelV (V.ref a) (Value.ref a) from rfl) .nil) h) fun res s' hq => ?_
  match res, hq with
  | .error er, hq => exact (passL (X := X.nox) pins σ H { s with toks := s.toks + 1 } er s' (I1.wish _) hq).elim
  | .ok (.ret u), hq =>
    obtain ⟨v, H', I3, rv, q3⟩ := I1.after hq
    show wpAny _ _ (handedOut u) _ _ _
    rw [PySem.W.handedOut_of (handed_of rv)]
    exact wpAny_pure ⟨v, H', I3, rv, q3⟩
theorem mp_prop {c f : Str} {g : DF} {k : Nat} {pa ga : Addr} {fd : FuncData} {ps : List Str} (he : PEm X W e m) (cl : Cls X.K (He.ga X.K c)) (hp : PropOf X.K (He.ga X.K c) f pa ga) (G : FnG X.prog X.w X.K X.mg X.base k ga fd ps (spM X.K 1 g)) (hgd : X.A.guards = some []) (hr : Room (k + 1) X.A) (hbd : Binds X.K fd ps [])
    (hb : attributeBase e f X.env (eval e X.env) = eval e X.env := by rfl) : PEm X W (.Attribute e f pos) (mProp c g m) := by
  refine ⟨fun pins s σ H Q I ⟨r, S, F, p, hE, hS, h⟩ => ?_⟩
  refine attr_of hb (thn (he.run pins s σ H (fun v H1 => ∃ a dx fs, v = .ref a ∧ H1 a = some (.ins (He.ga X.K c) dx fs) ∧ spM X.K 1 g [.ref a] H1 Q E0) I ⟨r, S, F, p, hE, hS, fine.bind h fun x S1 F1 p1 H1 v _ e1 s1 l1 h1 => ?_⟩) fun u s1 ⟨v, H1, I1, rv, a, dx, fs, ev, ea, q⟩ => ?_)
  · cases q : clsOf x S1 with
    | none => rw [q] at h1; exact h1.elim
    | some t =>
      obtain ⟨d, ns, xs⟩ := t
      rw [q] at h1
      simp only at h1
      split at h1
      · rename_i hd
        subst hd
        obtain ⟨a, dx, fs, rfl, h2, h3, h4⟩ := cls_rel s1 l1 q
        refine ⟨a, dx, fs, rfl, h2, rfl, [x], S1, F1, p1, RVs.one l1, s1, ?_⟩
        cases q3 : g [x] S1 with
        | bad => rw [q3] at h1; exact h1.elim
        | exc c y S2 => rw [q3] at h1; exact h1.elim
        | ok y S2 => rw [q3] at h1; exact h1
      · exact h1.elim
  · subst ev
    obtain rfl : u = Value.ref a := rv
    exact prop_core I1 ea cl hp G hgd hr hbd q
def putN (f : Str) (y : MV) : List Str → List MV → List Str × List MV
  | n :: ns, x :: xs => if n = f then (n :: ns, y :: xs) else (n :: (putN f y ns xs).1, x :: (putN f y ns xs).2)
  | _, _ => ([f], [y])
theorem put_rel {K : Fg} {F : Hp} {p : As} {f : Str} {y : MV} {v : V} (r : RV K F p y v) : ∀ {fs : List (Str × V)} {ns : List Str} {xs : List MV}, fs.map (·.1) = ns → RVs K F p xs (fs.map (·.2)) →
    (putF f v fs).map (·.1) = (putN f y ns xs).1 ∧ RVs K F p (putN f y ns xs).2 ((putF f v fs).map (·.2))
  | [], _, [], h, _ => by subst h; exact ⟨rfl, RVs.one r⟩
  | [], _, _ :: _, h, l => by
    have := l.length
    simp at this
  | (g, w) :: fs, _, [], h, l => by
    have := l.length
    simp at this
  | (g, w) :: fs, _, x :: xs, h, l => by
    subst h
    obtain ⟨u, q, e2, l1, l2⟩ := l
    have e3 : w = u ∧ fs.map (·.2) = q := by simpa using e2
    obtain ⟨rfl, rfl⟩ := e3
    obtain ⟨i1, i2⟩ := put_rel r (fs := fs) rfl l2
    by_cases c : g = f
    · rw [show putF f v ((g, w) :: fs) = (g, v) :: fs from if_pos c, show putN f y (((g, w) :: fs).map (·.1)) (x :: xs) = (g :: fs.map (·.1), y :: xs) from if_pos c]
      exact ⟨rfl, _, _, rfl, r, l2⟩
    · rw [show putF f v ((g, w) :: fs) = (g, w) :: putF f v fs from if_neg c, show putN f y (((g, w) :: fs).map (·.1)) (x :: xs) = (g :: (putN f y (fs.map (·.1)) xs).1, x :: (putN f y (fs.map (·.1)) xs).2) from if_neg c]
      exact ⟨by rw [List.map_cons, i1], _, _, rfl, l1, i2⟩
def stFld (c f : Str) (y x : MV) (S : So) : Option So := match x with
  | .ref n => match S[n]? with
    | some (.ins d ns xs) => if d = c ∧ ns.length < 1000 then some (S.set n (.ins d (putN f y ns xs).1 (putN f y ns xs).2)) else none
    | _ => none
  | _ => none
def sFldM (c f : Str) (mo mv : ME) : MS := fun r S => (mv r S).to r fun y S => (mo r S).to r fun x S => match stFld c f y x S with
  | some S => .nxt r S
  | none => .bad
theorem ms_fld {c f : Str} {pos' : Pos} {value : Expr} (ho : PEm X W o mo) (hv : PEm X W value mv) (cl : Cls X.K (He.ga X.K c)) (na : NoAttr X.K (He.ga X.K c) f) (hs : swapsWith value (some (.Attribute o f pos')) pos.line X.env = pure false := by rfl) :
    PSm X W (.Assign [.Attribute o f pos'] value pos) (sFldM c f mo mv) := ps_weak (ps_fld ho hv hs) fun D σ H ⟨r, S, F, p, hE, hS, h⟩ => by
  refine ⟨r, S, F, p, hE, hS, fine.to hE h fun y S1 F1 p1 H1 v _ e1 s1 l1 E1 h1 => ?_⟩
  refine ⟨r, S1, F1, p1, E1, s1, fine.to E1 h1 fun x S2 F2 p2 H2 w _ e2 s2 l2 E2 h2 => ?_⟩
  cases q : stFld c f y x S2 with
  | none => rw [q] at h2; exact h2.elim
  | some S3 =>
    rw [q] at h2
    cases x with
    | ref n =>
      unfold stFld at q
      simp only at q
      split at q
      · rename_i d ns xs e
        split at q
        · rename_i hc
          obtain ⟨hd, hl⟩ := hc
          subst hd
          cases q
          obtain ⟨a, u, rfl, ea, e3, hF, dx, fs, rfl, h3, h4⟩ := ref_at s2 l2 e (by intro z; cases z)
          obtain ⟨i1, i2⟩ := put_rel (f := f) (RV.mono e2.f e2.x y l1) h3 h4
          refine ⟨a, _, dx, fs, rfl, e3, cl, na, by rw [← h3] at hl; simpa using hl, ?_⟩
          exact h2 F2 p2 _ σ (RS.writeE ea) (s2.write ea hF ⟨dx, _, rfl, i1, i2⟩) E2
        · cases q
      · cases q
    | _ => cases q
end
def mMake (c : Str) (g : DF) (ds : List MV) (ms : List ME) : ME := fun r S => (mArgs ms r S).bind fun xs S => (g (.ref S.length :: (xs ++ ds)) (S ++ [.ins c [] []])).bind fun v S1 => match v with
  | .non => .ok (.ref S.length) S1
  | _ => .bad
def mTrim (m : ME) : ME := fun r S => trim S (m r S)
section
variable {X : Cx} {W : WX} {k n : Nat} {f : Addr} {fd : FuncData} {ps : List Str} {g : DF} {dvs : List V} {ds : List Value} {mds : List MV} {x : Str} {p pos : Pos} {e : Expr} {es : List Expr} {ms : List ME} {m : ME} {c : Str}
theorem mp_trim (h : PEm X W e m) : PEm X W e (mTrim m) := pe_weak h fun σ H Q ⟨r, S, F, p, hE, hS, h⟩ => ⟨r, S, F, p, hE, hS, trim_fine hS h⟩
theorem make_guard {A : Around} {C : Addr} {us : List Value} {kw : List (Str × Value)} (h : A.guards = some []) : (A.under (.builtin "type.__call__" ⟨.ref C :: us, kw⟩)).guards = some [] := by
  show pushGuards (Code.guards (.builtin "type.__call__" ⟨.ref C :: us, kw⟩)) A.guards = some []
  rw [h]
  rfl
theorem make_core {pins : List (Addr × Obj)} {σ : L2.St} {H : Hp} {s : Shared} {Q : VK} {us : List Value} {vs : List V} {C : Addr} {sp : Sp} {E : XK} (M : Mk X.K C f) (F : FnG X.prog X.w X.K X.mg X.base k f fd ps sp) (hgd : X.A.guards = some []) (hr : Room (k + 1) X.A) (hb : Binds X.K fd ps ds) (hd : Vals dvs ds)
    (hx : PassesAt (L2.CX X.prog X.w) X σ E) (I : Inv X pins σ H s) (r : Vals vs us)
    (h : ∀ x dx, H x = none → H dx = none → dx ≠ x → sp (.ref x :: (vs ++ dvs)) (upd (upd H dx (.own x)) x (.ins C dx [])) (fun v H2 => v = .non ∧ Q (.ref x) H2) E) :
    wpAny (model X.prog X.w) X.A (call (.ref C) us) (EP X pins σ Q) X.xe s := by
  have hq := h (s.heap.objs.size + 1) s.heap.objs.size (I.hok.fresh (Nat.le_succ _)) (I.hok.fresh (Nat.le_refl _)) (Nat.ne_of_lt (Nat.lt_succ_self _))
  have J := Inv.made (C := C) I
  have rr : Vals (V.ref (s.heap.objs.size + 1) :: (vs ++ dvs)) (Value.ref (s.heap.objs.size + 1) :: (us ++ ds)) := .cons rfl (r.append hd)
  have hl : (Value.ref (s.heap.objs.size + 1) :: us ++ ds).length = ps.length := by
    have e := rr.length
    rw [F.len _ _ _ _ hq] at e
    exact e.symm
  refine wpAny_call (make_map (f := f) I.kIn M.makes M.init (beq_iff_eq.mp M.fn) (codeAny_mono (F.go _ X.stack _ _ ⟨Value.ref (s.heap.objs.size + 1) :: us, []⟩ (Value.ref (s.heap.objs.size + 1) :: (us ++ ds)) _ _ E (make_guard hgd) (hr.make C us [])
    (J.env0.make C us []) (hb _ (Value.ref (s.heap.objs.size + 1) :: us) J.kIn hl) rr hq) fun res s' hq' => ?_))
  match res, hq' with
  | .error er, hq' => exact hx pins _ _ er s' J hq'
  | .ok (.ret u), hq' =>
    obtain ⟨v, H', I3, rv, ev, q3⟩ := J.after hq'
    subst ev
    exact ⟨rv, ⟨V.ref (s.heap.objs.size + 1), H', I3, rfl, q3⟩⟩
/-- the new instance, into the store -/
theorem made_rs {K : Fg} {F H : Hp} {p : As} {S : So} {C x dx : Addr} (hC : C = He.ga K c) (hS : RS K F p S H) (hx : H x = none) (hd : H dx = none) (ne : dx ≠ x) :
    Ext F p H F (p ++ [x]) (upd (upd H dx (.own x)) x (.ins C dx [])) ∧ RS K F (p ++ [x]) (S ++ [.ins c [] []]) (upd (upd H dx (.own x)) x (.ins C dx [])) := by
  have hx1 : upd H dx (.own x) x = none := by rw [upd_ne (Ne.symm ne)]; exact hx
  have s1 : RS K F p S (upd H dx (.own x)) := ⟨fun b o e => by rw [upd_ne (ne_of_none (hS.sub b o e) hd)]; exact hS.sub b o e, hS.len, hS.inj, fun i o a e1 e2 => by
    obtain ⟨u, h1, h2⟩ := hS.ob i o a e1 e2
    exact ⟨u, by rw [upd_ne (ne_of_none h1 hd)]; exact h1, h2⟩⟩
  have x1 : Ext F p H F p (upd H dx (.own x)) := ⟨Same.refl _, Px.refl _, fun b o e _ => by rw [upd_ne (ne_of_none e hd)]; exact e, fun _ a b => absurd a b, fun _ _ _ z => z⟩
  subst hC
  exact ⟨x1.trans (s1.freshE hx1), s1.fresh hx1 ⟨dx, [], rfl, rfl, rfl⟩⟩
theorem make_rel {F : Hp} {pp : As} {H : Hp} {σ : L2.St} {Q : VK} {S : So} {xs : List MV} {vs : List V} (hn : ms.length + mds.length + 1 = n) (hl : vs.length = ms.length) (hdm : ∀ F p, RVs X.K F p mds dvs) (hS : RS X.K F pp S H) (l : RVs X.K F pp xs vs)
    (h : fine X.K (RV X.K) F pp H σ W Q ((g (.ref S.length :: (xs ++ mds)) (S ++ [.ins c [] []])).bind fun v S1 => match v with
      | .non => .ok (.ref S.length) S1
      | _ => .bad)) (x dx : Addr) (hx : H x = none) (hd : H dx = none) (ne : dx ≠ x) :
    spM X.K n g (.ref x :: (vs ++ dvs)) (upd (upd H dx (.own x)) x (.ins (He.ga X.K c) dx [])) (fun v H2 => v = .non ∧ Q (.ref x) H2) (WE W σ) := by
  obtain ⟨x1, s1⟩ := made_rs (c := c) rfl hS hx hd ne
  have dl := (hdm F pp).length
  refine ⟨by rw [List.length_cons, List.length_append, hl, dl]; exact hn, .ref S.length :: (xs ++ mds), S ++ [.ins c [] []], F, pp ++ [x], ⟨_, _, rfl, ⟨x, rfl, hS.refAt⟩, RVs.mono (Same.refl _) (Px.app _ _) _ (l.app (hdm F pp))⟩, s1, fine_w (σ := σ) ?_⟩
  refine fine.bind (fine.mono h x1) fun y S1 F1 p1 H1 v _ e1 s1 l1 h1 => ?_
  cases y with
  | non => cases l1; exact ⟨rfl, h1 _ _ _ _ (Ext.refl _ _ _) s1 ⟨x, rfl, e1.x _ _ hS.refAt⟩⟩
  | _ => exact h1.elim
theorem mp_make (tk : Takes X W) (M : Mk X.K (He.ga X.K c) f) (F : FnG X.prog X.w X.K X.mg X.base k f fd ps (spM X.K n g)) (hgd : X.A.guards = some []) (hr : Room (k + 1) X.A) (hg : Gl X x) (hm : X.mg x = some (.ref (He.ga X.K c))) (hb : Binds X.K fd ps ds) (hd : Vals dvs ds)
    (hdm : ∀ F p, RVs X.K F p mds dvs) (hn : ms.length + mds.length + 1 = n) (ha : PAm X W (e :: es) (mArgs ms)) (hdb : (x == ("__debug__" : Str)) = false := by decide) (he : starEach (e :: es) X.env = (false, eval e X.env) :: starEach es X.env := by rfl) (hpl : (backTo pos (starEach es X.env)).any (·.1) = false := by rfl) :
    PEm X W (.Call (.Name x p) (e :: es) [] pos) (mMake c g mds ms) := by
  refine ⟨fun pins s σ H Q I ⟨r, S, F', p', hE, hS, h⟩ => ?_⟩
  refine wpAny_Call_Name_kw (ld_glob I hg hm ?_ hdb)
  refine PySem.W.callWith_K (h₀ := X.base) I.ok.mod.kin M.kp (thn (ha.run pos pins s σ H _ I ⟨r, S, F', p', hE, hS, fine.bind h fun xs S2 F2 p2 H2 vs e2 x2 s2 l2 h2 =>
      (⟨by rw [l2.length, mArgs_length e2], xs, S2, F2, p2, s2, l2, h2⟩ : vs.length = ms.length ∧ ∃ xs S2 F2 p2, RS X.K F2 p2 S2 H2 ∧ RVs X.K F2 p2 xs vs ∧ fine X.K (RV X.K) F2 p2 H2 σ W Q ((g (.ref S2.length :: (xs ++ mds)) (S2 ++ [.ins c [] []])).bind fun v S1 => match v with
      | .non => .ok (.ref S2.length) S1
      | _ => .bad))⟩) fun us s1 ⟨vs, H1, I1, r1, hl, xs, S2, F2, p2, hS2, l2, h2⟩ => ⟨I1.kIn, ?_⟩) he hpl
  exact make_core M F hgd hr hb hd (passAt tk σ) I1 r1 fun x dx a b d => make_rel hn hl hdm hS2 l2 h2 x dx a b d
end
end Mi

set_option maxHeartbeats 4000000
namespace Mi
open PySem PySem.Spec PyProof.Rows L2
abbrev W0 : WX := fun _ _ _ _ => False
/-- a sequence that is written no more -/
def pureSeq : MV → Option (List MV)
  | .tup xs => some xs
  | .lst xs => some xs
  | .scr xs => some xs
  | _ => none
section
variable {K : Fg} {F H : Hp} {p : As} {S : So} {x : MV} {v : V} {xs : List MV}
/-- where a pure sequence lies, now and ever -/
theorem pure_at (l : RV K F p x v) (h : pureSeq x = some xs) : ∃ a vs, v = .ref a ∧ vs.length ≤ sizeLine ∧ RVs K F p xs vs ∧
    ((isTup x = false ∧ ∀ F' H', Same F F' → Same F' H' → SqL K H' a vs) ∨ (isTup x = true ∧ ∀ F' H', Same F F' → Same F' H' → SqT K H' a vs)) := by
  cases x with
  | tup ys =>
    cases h
    obtain ⟨a, vs, e, h1, h2, h3⟩ := l
    exact ⟨a, vs, e, h2, h3, .inr ⟨rfl, fun F' H' s t => Same.seqT t (Same.seqT s h1)⟩⟩
  | lst ys =>
    cases h
    obtain ⟨a, vs, e, h1, h2, h3⟩ := l
    exact ⟨a, vs, e, h2, h3, .inl ⟨rfl, fun F' H' s t => SqL.of (t _ _ (s _ _ h1))⟩⟩
  | scr ys =>
    cases h
    obtain ⟨a, vs, e, h1, h2, h3⟩ := l
    exact ⟨a, vs, e, h2, h3, .inl ⟨rfl, fun F' H' s t => t.seq (s.seq h1)⟩⟩
  | _ => cases h
theorem it_l {a : Addr} {vs : List V} (l : RVs K F p xs vs) (h : ∀ F' H', Same F F' → Same F' H' → SqL K H' a vs) : ItOk K F p H (Itl K a) xs := by
  intro F' p' H' S' ef ex s i
  have q := h F' H' ef s.sub
  refine ⟨fun x hx => ?_, fun hge => ⟨vs, q, by rw [l.length]; exact hge⟩⟩
  obtain ⟨w, h1, h2⟩ := l.get hx
  refine ⟨⟨vs, w, q, h1⟩, fun v H2 y => ?_⟩
  obtain ⟨rfl, y⟩ := y
  have ev : v = w := by
    have z := y vs q
    rw [h1] at z
    exact (Option.some.inj z).symm
  subst ev
  exact ⟨F', Ext.refl _ _ _, s, RV.mono ef ex x h2⟩
theorem it_t {a : Addr} {vs : List V} (l : RVs K F p xs vs) (h : ∀ F' H', Same F F' → Same F' H' → SqT K H' a vs) : ItOk K F p H (Itt K a) xs := by
  intro F' p' H' S' ef ex s i
  have q := h F' H' ef s.sub
  refine ⟨fun x hx => ?_, fun hge => ⟨vs, q, by rw [l.length]; exact hge⟩⟩
  obtain ⟨w, h1, h2⟩ := l.get hx
  refine ⟨⟨vs, w, q, h1⟩, fun v H2 y => ?_⟩
  obtain ⟨rfl, y⟩ := y
  have ev : v = w := by
    have z := y vs q
    rw [h1] at z
    exact (Option.some.inj z).symm
  subst ev
  exact ⟨F', Ext.refl _ _ _, s, RV.mono ef ex x h2⟩
def rngM (lo : Int) (n : Nat) : List MV := (List.range n).map fun i => .int (lo + (i : Nat))
theorem rngM_length (lo : Int) (n : Nat) : (rngM lo n).length = n := by simp [rngM]
theorem it_r {lo : Int} {n : Nat} : ItOk K F p H (Itr lo n) (rngM lo n) := by
  intro F' p' H' S' ef ex s i
  refine ⟨fun x hx => ?_, fun hge => by rw [rngM_length] at hge; exact hge⟩
  have hi : i < n := by
    have := (List.getElem?_eq_some_iff.mp hx).1
    rwa [rngM_length] at this
  refine ⟨hi, fun v H2 y => ?_⟩
  obtain ⟨rfl, rfl⟩ := y
  have ex : x = .int (lo + (i : Nat)) := by
    unfold rngM at hx
    rw [List.getElem?_map, List.getElem?_range hi] at hx
    exact (Option.some.inj hx).symm
  subst ex
  exact ⟨F', Ext.refl _ _ _, s, rfl⟩
def enumM (n : Nat) : List MV → List MV
  | [] => []
  | x :: xs => .tup [.int (n : Nat), x] :: enumM (n + 1) xs
theorem enumM_length : ∀ (n : Nat) (xs : List MV), (enumM n xs).length = xs.length
  | _, [] => rfl
  | n, x :: xs => congrArg Nat.succ (enumM_length (n + 1) xs)
theorem enumM_get : ∀ {n : Nat} {xs : List MV} {i : Nat} {y : MV}, (enumM n xs)[i]? = some y → ∃ x, xs[i]? = some x ∧ y = .tup [.int ((n + i : Nat) : Int), x]
  | _, [], _, _, h => by simp [enumM] at h
  | n, x :: xs, 0, y, h => ⟨x, rfl, by simpa [enumM] using h.symm⟩
  | n, x :: xs, i + 1, y, h => by
    have h2 : (enumM (n + 1) xs)[i]? = some y := by simpa [enumM] using h
    obtain ⟨z, h3, h4⟩ := enumM_get h2
    exact ⟨z, by simpa using h3, by rw [h4, show n + 1 + i = n + (i + 1) by omega]⟩
theorem two_line {a b : V} : [a, b].length ≤ sizeLine := small_line (by decide : 2 ≤ 1000)
theorem it_e {a : Addr} {vs : List V} (l : RVs K F p xs vs) (h : ∀ F' H', Same F F' → Same F' H' → SqL K H' a vs) : ItOk K F p H (Ite K a) (enumM 0 xs) := by
  intro F' p' H' S' ef ex s i
  have q := h F' H' ef s.sub
  refine ⟨fun x hx => ?_, fun hge => ⟨vs, q, by rw [l.length]; rw [enumM_length] at hge; exact hge⟩⟩
  obtain ⟨y, h1, rfl⟩ := enumM_get hx
  obtain ⟨w, h2, h3⟩ := l.get h1
  refine ⟨⟨vs, w, q, h2⟩, fun v H2 z => ?_⟩
  obtain ⟨T, u, rfl, hT, rfl, z⟩ := z
  have eu : u = w := by
    have z := z vs q
    rw [h2] at z
    exact (Option.some.inj z).symm
  subst eu
  refine ⟨upd F' T _, s.frozenE hT, s.frozen hT, T, _, rfl, .inl (.inl upd_same), two_line, _, _, rfl, ?_, RVs.one ((RV.mono (Same.updF (s.free hT)) (Px.refl _) y) (RV.mono ef ex y h3))⟩
  show V.int _ = V.int _
  rw [Nat.zero_add]
def zipM : List MV → List MV → List MV
  | x :: xs, y :: ys => .tup [x, y] :: zipM xs ys
  | _, _ => []
theorem zipM_get : ∀ {xs ys : List MV} {i : Nat} {z : MV}, (zipM xs ys)[i]? = some z → ∃ x y, xs[i]? = some x ∧ ys[i]? = some y ∧ z = .tup [x, y]
  | [], _, _, _, h => by simp [zipM] at h
  | _ :: _, [], _, _, h => by simp [zipM] at h
  | x :: xs, y :: ys, 0, z, h => ⟨x, y, rfl, rfl, by simpa [zipM] using h.symm⟩
  | x :: xs, y :: ys, i + 1, z, h => by
    have h2 : (zipM xs ys)[i]? = some z := by simpa [zipM] using h
    obtain ⟨u, w, h3, h4, h5⟩ := zipM_get h2
    exact ⟨u, w, by simpa using h3, by simpa using h4, h5⟩
theorem zipM_end : ∀ {xs ys : List MV} {i : Nat}, (zipM xs ys).length ≤ i → xs.length ≤ i ∨ ys.length ≤ i
  | [], _, _, _ => .inl (Nat.zero_le _)
  | _ :: _, [], _, _ => .inr (Nat.zero_le _)
  | x :: xs, y :: ys, 0, h => by simp [zipM] at h
  | x :: xs, y :: ys, i + 1, h => by
    have h2 : (zipM xs ys).length ≤ i := by simpa [zipM] using h
    rcases zipM_end h2 with h3 | h3
    · exact .inl (by simpa using h3)
    · exact .inr (by simpa using h3)
theorem it_z {ys : List MV} {a b : Addr} {vs ws : List V} (l : RVs K F p xs vs) (l' : RVs K F p ys ws) (h : ∀ F' H', Same F F' → Same F' H' → SqL K H' a vs) (h' : ∀ F' H', Same F F' → Same F' H' → SqL K H' b ws) : ItOk K F p H (Itz K a b) (zipM xs ys) := by
  intro F' p' H' S' ef ex s i
  have q := h F' H' ef s.sub
  have q' := h' F' H' ef s.sub
  refine ⟨fun x hx => ?_, fun hge => ⟨vs, ws, q, q', by rw [l.length, l'.length]; exact zipM_end hge⟩⟩
  obtain ⟨y, y', h1, h1', rfl⟩ := zipM_get hx
  obtain ⟨w, h2, h3⟩ := l.get h1
  obtain ⟨w', h2', h3'⟩ := l'.get h1'
  refine ⟨⟨vs, ws, w, w', q, q', h2, h2'⟩, fun v H2 z => ?_⟩
  obtain ⟨T, u, u', rfl, hT, rfl, z, z'⟩ := z
  have eu : u = w := by
    have z := z vs q
    rw [h2] at z
    exact (Option.some.inj z).symm
  have eu' : u' = w' := by
    have z := z' ws q'
    rw [h2'] at z
    exact (Option.some.inj z).symm
  subst eu
  subst eu'
  have m := Same.updF (u := .tup [u, u']) (s.free hT)
  exact ⟨upd F' T _, s.frozenE hT, s.frozen hT, T, _, rfl, .inl (.inl upd_same), two_line, _, _, rfl, RV.mono m (Px.refl _) y (RV.mono ef ex y h3), RVs.one (RV.mono m (Px.refl _) y' (RV.mono ef ex y' h3'))⟩
theorem it_zT {ys : List MV} {a b : Addr} {vs ws : List V} (l : RVs K F p xs vs) (l' : RVs K F p ys ws) (h : ∀ F' H', Same F F' → Same F' H' → SqT K H' a vs) (h' : ∀ F' H', Same F F' → Same F' H' → SqT K H' b ws) : ItOk K F p H (RZ.ItzT K a b) (zipM xs ys) := by
  intro F' p' H' S' ef ex s i
  have q := h F' H' ef s.sub
  have q' := h' F' H' ef s.sub
  refine ⟨fun x hx => ?_, fun hge => ⟨vs, ws, q, q', by rw [l.length, l'.length]; exact zipM_end hge⟩⟩
  obtain ⟨y, y', h1, h1', rfl⟩ := zipM_get hx
  obtain ⟨w, h2, h3⟩ := l.get h1
  obtain ⟨w', h2', h3'⟩ := l'.get h1'
  refine ⟨⟨vs, ws, w, w', q, q', h2, h2'⟩, fun v H2 z => ?_⟩
  obtain ⟨T, u, u', rfl, hT, rfl, z, z'⟩ := z
  have eu : u = w := by
    have z := z vs q
    rw [h2] at z
    exact (Option.some.inj z).symm
  have eu' : u' = w' := by
    have z := z' ws q'
    rw [h2'] at z
    exact (Option.some.inj z).symm
  subst eu
  subst eu'
  have m := Same.updF (u := .tup [u, u']) (s.free hT)
  exact ⟨upd F' T _, s.frozenE hT, s.frozen hT, T, _, rfl, .inl (.inl upd_same), two_line, _, _, rfl, RV.mono m (Px.refl _) y (RV.mono ef ex y h3), RVs.one (RV.mono m (Px.refl _) y' (RV.mono ef ex y' h3'))⟩
end
def iSeq (m : ME) : MI := fun r S => (m r S).bind fun x S => match pureSeq x with
  | some xs => .ok xs S
  | none => .bad
abbrev B62 : Int := 4611686018427387904
def iRng (m : ME) : MI := fun r S => (m r S).bind fun x S => match x with
  | .int j => if -B62 ≤ j ∧ j < B62 then .ok (rngM 0 j.toNat) S else .bad
  | _ => .bad
def iRng2' (a b : ME) : MI := fun r S => (a r S).bind fun x S => (b r S).bind fun y S => match x, y with
  | .int i, .int j => if (-B62 ≤ i ∧ i < B62) ∧ -B62 ≤ j ∧ j < B62 then .ok (rngM i (j - i).toNat) S else .bad
  | _, _ => .bad
def iEnumM (m : ME) : MI := fun r S => (m r S).bind fun x S => if isTup x = true then .bad else match pureSeq x with
  | some xs => .ok (enumM 0 xs) S
  | none => .bad
def iZipM (a b : ME) : MI := fun r S => (a r S).bind fun x S => (b r S).bind fun y S => if (isTup x == isTup y) = true then (match pureSeq x, pureSeq y with
  | some xs, some ys => .ok (zipM xs ys) S
  | _, _ => .bad) else .bad
section
variable {X : Cx} {W : WX} {tg e e2 : Expr} {m m2 : ME} {p pos tpos : Pos} {elts : List Expr} {kk : Nat}
theorem mi_seq (he : PEm X W e m) : PIm X W tg e (iSeq m) := pi_weak (pi_or (pi_list he) (pi_tup he)) fun σ H R ⟨r, S, F, p, hE, hS, h⟩ => by
  have go : ∀ b : Bool, (∀ x S1, m r S = .ok x S1 → isTup x = b) → (b = false → iList X.K (tE X.K W m) σ H R) ∧ (b = true → iTup X.K (tE X.K W m) σ H R) := by
    intro b hb
    refine ⟨fun eb => ⟨r, S, F, p, hE, hS, fineI.bind h fun x S1 F1 p1 H1 v em e1 s1 l1 h1 => ?_⟩, fun eb => ⟨r, S, F, p, hE, hS, fineI.bind h fun x S1 F1 p1 H1 v em e1 s1 l1 h1 => ?_⟩⟩
    all_goals
      cases q : pureSeq x with
      | none => rw [q] at h1; exact h1.elim
      | some xs =>
        rw [q] at h1
        obtain ⟨a, vs, rfl, hz, l2, h3⟩ := pure_at l1 q
        have ht := hb x S1 em
        rw [eb] at ht
        rcases h3 with ⟨h3, h4⟩ | ⟨h3, h4⟩
        all_goals first
          | (rw [h3] at ht; cases ht; done)
          | exact ⟨a, rfl, ⟨vs, h4 F1 H1 (Same.refl _) s1.sub⟩, h1 F1 p1 H1 _ (Ext.refl _ _ _) s1 (it_l l2 h4)⟩
          | exact ⟨a, rfl, ⟨vs, h4 F1 H1 (Same.refl _) s1.sub⟩, h1 F1 p1 H1 _ (Ext.refl _ _ _) s1 (it_t l2 h4)⟩
  cases q : m r S with
  | ok x S1 =>
    cases ht : isTup x with
    | false => exact .inl ((go false fun y S2 ey => by rw [q] at ey; cases ey; exact ht).1 rfl)
    | true => exact .inr ((go true fun y S2 ey => by rw [q] at ey; cases ey; exact ht).2 rfl)
  | exc c x S1 => exact .inl ((go false fun y S2 ey => by rw [q] at ey; cases ey).1 rfl)
  | bad => exact .inl ((go false fun y S2 ey => by rw [q] at ey; cases ey).1 rfl)
theorem fineI.args1 {K : Fg} {F H : Hp} {p : As} {σ : L2.St} {Q : It → Hp → Prop} {r : En} {S : So} {k : MV → So → R (List MV)} {Q1 : List V → Hp → Prop} (h : fineI K F p H σ W Q ((m r S).bind k))
    (g : ∀ x S F1 p1 H1 v, Ext F p H F1 p1 H1 → RS K F1 p1 S H1 → RV K F1 p1 x v → fineI K F1 p1 H1 σ W Q (k x S) → Q1 [v] H1) : fine K (RVs K) F p H σ W Q1 (mArgs [m] r S) := by
  show fine K (RVs K) F p H σ W Q1 ((m r S).bind fun x S => (mArgs [] r S).bind fun xs S => .ok (x :: xs) S)
  cases q : m r S with
  | bad => rw [q] at h; exact h.elim
  | exc c x S1 => rw [q] at h; exact h
  | ok x S1 =>
    rw [q] at h
    intro F1 p1 H1 vs e1 s1 l1
    obtain ⟨v, w, rfl, l2, l3⟩ := l1
    cases l3
    exact g x S1 F1 p1 H1 v e1 s1 l2 (fineI.mono h e1)
theorem fineI.args2 {K : Fg} {F H : Hp} {p : As} {σ : L2.St} {Q : It → Hp → Prop} {r : En} {S : So} {k : MV → MV → So → R (List MV)} {Q1 : List V → Hp → Prop} (h : fineI K F p H σ W Q ((m r S).bind fun x S => (m2 r S).bind fun y S => k x y S))
    (g : ∀ x y S F1 p1 H1 v w, Ext F p H F1 p1 H1 → RS K F1 p1 S H1 → RV K F1 p1 x v → RV K F1 p1 y w → fineI K F1 p1 H1 σ W Q (k x y S) → Q1 [v, w] H1) : fine K (RVs K) F p H σ W Q1 (mArgs [m, m2] r S) := by
  show fine K (RVs K) F p H σ W Q1 ((m r S).bind fun x S => ((m2 r S).bind fun x S => (mArgs [] r S).bind fun xs S => .ok (x :: xs) S).bind fun xs S => .ok (x :: xs) S)
  cases q : m r S with
  | bad => rw [q] at h; exact h.elim
  | exc c x S1 => rw [q] at h; exact h
  | ok x S1 =>
    rw [q] at h
    simp only [R.bind_ok] at h ⊢
    cases q2 : m2 r S1 with
    | bad => rw [q2] at h; exact h.elim
    | exc c y S2 => rw [q2] at h; exact h
    | ok y S2 =>
      rw [q2] at h
      intro F1 p1 H1 vs e1 s1 l1
      obtain ⟨v, w, rfl, l2, u, w', rfl, l3, l4⟩ := l1
      cases l4
      exact g x y S2 F1 p1 H1 v u e1 s1 l2 l3 (fineI.mono h e1)
theorem mi_rng (hg : Gl X "range") (hm : X.mg "range" = none) (he : PEm X W e m) (hs : starEach [e] X.env = [(false, eval e X.env)] := by rfl) : PIm X W tg (.Call (.Name "range" p) [e] [] pos) (iRng m) :=
  pi_weak (pi_range1 hg hm (ma_cons he ma_nil hs) hs) fun σ H R ⟨r, S, F, p, hE, hS, h⟩ => by
    refine ⟨r, S, F, p, hE, hS, fineI.args1 h fun x S1 F1 p1 H1 v e1 s1 l1 h1 => ?_⟩
    cases x with
    | int j =>
      cases l1
      have h1' : fineI X.K F1 p1 H1 σ W R (if -B62 ≤ j ∧ j < B62 then .ok (rngM 0 j.toNat) S1 else .bad) := h1
      split at h1'
      · rename_i hb
        exact ⟨j, rfl, hb.1, hb.2, h1' F1 p1 H1 _ (Ext.refl _ _ _) s1 it_r⟩
      · exact h1'.elim
    | _ => exact h1.elim
theorem mi_rng2 (hg : Gl X "range") (hm : X.mg "range" = none) (he : PEm X W e m) (he2 : PEm X W e2 m2) (hs2 : starEach [e2] X.env = [(false, eval e2 X.env)] := by rfl) (hs : starEach [e, e2] X.env = (false, eval e X.env) :: starEach [e2] X.env := by rfl) (hpl : (backTo pos (starEach [e2] X.env)).any (·.1) = false := by rfl) : PIm X W tg (.Call (.Name "range" p) [e, e2] [] pos) (iRng2' m m2) :=
  pi_weak (pi_range2 hg hm (ma_cons he (ma_cons he2 ma_nil hs2) hs) (by rw [hs, hs2]) hs2) fun σ H R ⟨r, S, F, p, hE, hS, h⟩ => by
    refine ⟨r, S, F, p, hE, hS, fineI.args2 h fun x y S1 F1 p1 H1 v w e1 s1 l1 l2 h1 => ?_⟩
    cases x with
    | int i =>
      cases y with
      | int j =>
        cases l1; cases l2
        have h1' : fineI X.K F1 p1 H1 σ W R (if (-B62 ≤ i ∧ i < B62) ∧ -B62 ≤ j ∧ j < B62 then .ok (rngM i (j - i).toNat) S1 else .bad) := h1
        split at h1'
        · rename_i hb
          exact ⟨i, j, rfl, ⟨hb.1.1, hb.1.2, hb.2.1, hb.2.2⟩, h1' F1 p1 H1 _ (Ext.refl _ _ _) s1 it_r⟩
        · exact h1'.elim
      | _ => exact h1.elim
    | _ => exact h1.elim
theorem mi_enum (hg : Gl X "enumerate") (hm : X.mg "enumerate" = none) (he : PEm X W e m) (hs : starEach [e] X.env = [(false, eval e X.env)] := by rfl) : PIm X W (.Tuple elts kk tpos) (.Call (.Name "enumerate" p) [e] [] pos) (iEnumM m) :=
  pi_weak (pi_enum hg hm (ma_cons he ma_nil hs) hs) fun σ H R ⟨r, S, F, p, hE, hS, h⟩ => by
    refine ⟨r, S, F, p, hE, hS, fineI.args1 h fun x S1 F1 p1 H1 v e1 s1 l1 h1 => ?_⟩
    split at h1
    · exact h1.elim
    · rename_i ht
      cases q : pureSeq x with
      | none => rw [q] at h1; exact h1.elim
      | some xs =>
        rw [q] at h1
        obtain ⟨a, vs, rfl, hz, l2, h3⟩ := pure_at l1 q
        rcases h3 with ⟨h3, h4⟩ | ⟨h3, h4⟩
        · exact ⟨a, vs, rfl, h4 F1 H1 (Same.refl _) s1.sub, h1 F1 p1 H1 _ (Ext.refl _ _ _) s1 (it_e l2 h4)⟩
        · exact absurd h3 ht
theorem mi_zip (hg : Gl X "zip") (hm : X.mg "zip" = none) (he : PEm X W e m) (he2 : PEm X W e2 m2) (hs2 : starEach [e2] X.env = [(false, eval e2 X.env)] := by rfl) (hs : starEach [e, e2] X.env = (false, eval e X.env) :: starEach [e2] X.env := by rfl) (hpl : (backTo pos (starEach [e2] X.env)).any (·.1) = false := by rfl) : PIm X W (.Tuple elts kk tpos) (.Call (.Name "zip" p) [e, e2] [] pos) (iZipM m m2) :=
  pi_weak (RZ.pi_zipA hg hm (ma_cons he (ma_cons he2 ma_nil hs2) hs) hs hpl) fun σ H R ⟨r, S, F, p, hE, hS, h⟩ => by
    refine ⟨r, S, F, p, hE, hS, fineI.args2 h fun x y S1 F1 p1 H1 v w e1 s1 l1 l2 h1 => ?_⟩
    split at h1
    · rename_i ht
      cases q : pureSeq x with
      | none => rw [q] at h1; exact h1.elim
      | some xs =>
        cases q2 : pureSeq y with
        | none => rw [q, q2] at h1; exact h1.elim
        | some ys =>
          rw [q, q2] at h1
          obtain ⟨a, vs, rfl, hz, l3, h3⟩ := pure_at l1 q
          obtain ⟨b, ws, rfl, hz2, l4, h5⟩ := pure_at l2 q2
          have et := beq_iff_eq.mp ht
          refine ⟨a, b, vs, ws, rfl, ?_⟩
          rcases h3 with ⟨h3, h4⟩ | ⟨h3, h4⟩
          · rcases h5 with ⟨h5, h6⟩ | ⟨h5, h6⟩
            · exact .inl ⟨h4 F1 H1 (Same.refl _) s1.sub, h6 F1 H1 (Same.refl _) s1.sub, h1 F1 p1 H1 _ (Ext.refl _ _ _) s1 (it_z l3 l4 h4 h6)⟩
            · rw [h3, h5] at et; cases et
          · rcases h5 with ⟨h5, h6⟩ | ⟨h5, h6⟩
            · rw [h3, h5] at et; cases et
            · exact .inr ⟨h4 F1 H1 (Same.refl _) s1.sub, h6 F1 H1 (Same.refl _) s1.sub, h1 F1 p1 H1 _ (Ext.refl _ _ _) s1 (it_zT l3 l4 h4 h6)⟩
    · exact h1.elim
end
end Mi

set_option maxHeartbeats 4000000
namespace Mi
open PySem PySem.Spec PyProof.Rows L2
def wipeM (r : En) : List Nat → En
  | [] => r
  | v :: vs => (wipeM r vs).set v none
theorem RE.wipes {K : Fg} {F : Hp} {p : As} {r : En} {σ : L2.St} (h : RE K F p r σ) : ∀ vs : List Nat, RE K F p (wipeM r vs) (L2.wipe σ vs)
  | [] => h
  | v :: vs => (RE.wipes h vs).wipe v none
theorem wipe_at {σ σ' : L2.St} {l : List Nat} (hl : σ'.length = σ.length) : ∀ {vs : List Nat}, (∀ j : Nat, j ∉ vs → σ'[j]? = σ[j]?) → wipe σ' vs = wipe σ vs := by
  intro vs h
  have go : ∀ (ws : List Nat) (τ τ' : L2.St), τ'.length = τ.length → ∀ j : Nat, (j ∉ ws → τ'[j]? = τ[j]?) → (wipe τ' ws)[j]? = (wipe τ ws)[j]? := by
    intro ws
    induction ws with
    | nil => intro τ τ' _ j hj; exact hj (by simp)
    | cons w ws ih =>
      intro τ τ' hl j hj
      show ((wipe τ' ws).set w none)[j]? = ((wipe τ ws).set w none)[j]?
      by_cases hw : w = j
      · subst hw
        rw [List.getElem?_set, List.getElem?_set, if_pos rfl, if_pos rfl, wipe_length, wipe_length, hl]
      · rw [List.getElem?_set_ne hw, List.getElem?_set_ne hw]
        exact ih τ τ' hl j fun hm => hj (by simp [hm]; exact fun e => hw e.symm)
  exact List.ext_getElem? fun j => go vs σ σ' hl j (h j)
theorem wipe_twice (σ : L2.St) (vs : List Nat) : wipe (wipe σ vs) vs = wipe σ vs := by
  refine wipe_at (l := []) (wipe_length _ _) fun j hj => ?_
  have go : ∀ (ws : List Nat), j ∉ ws → (wipe σ ws)[j]? = σ[j]? := by
    intro ws
    induction ws with
    | nil => intro _; rfl
    | cons w ws ih =>
      intro h
      rw [List.mem_cons, not_or] at h
      show ((wipe σ ws).set w none)[j]? = _
      rw [List.getElem?_set_ne (fun e => h.1 e.symm)]
      exact ih h.2
  exact go vs hj
theorem but_wipe {σ σ' : L2.St} {l vs : List Nat} (h : But l (wipe σ vs) σ') (hs : ∀ i ∈ l, i ∈ vs) : wipe σ' vs = wipe σ vs :=
  (wipe_at (l := l) h.1 fun j hj => h.2 j fun z => hj (hs j z)).trans (wipe_twice σ vs)
/-- nothing is raised -/
def nx {α : Type} : R α → R α
  | .exc _ _ _ => .bad
  | z => z
theorem nx_fine {K : Fg} {F H : Hp} {p : As} {σ : L2.St} {W : WX} {α β : Type} {L : Rl α β} {Q : β → Hp → Prop} {r : R α} (h : fine K L F p H σ W0 Q (nx r)) : fine K L F p H σ W Q r := by
  cases r <;> first | exact h | exact h.elim
theorem nx_bind {α β : Type} {r : R α} {k : α → So → R β} : (nx r).bind k = .bad ∨ ∃ x S, r = .ok x S ∧ (nx r).bind k = k x S := by
  cases r with
  | ok x S => exact .inr ⟨x, S, rfl, rfl⟩
  | exc c x S => exact .inl rfl
  | bad => exact .inl rfl
def lcL (vs : List Nat) (g : MG) (t : MT) (m : ME) : List MV → En → So → R (List MV)
  | [], _, S => .ok [] S
  | x :: xs, r, S => match g x (wipeM r vs) with
    | none => .bad
    | some r1 => (nx (t r1 S)).bind fun b S => if b = true then (nx (m r1 S)).bind fun y S => (lcL vs g t m xs r S).bind fun ys S => .ok (y :: ys) S else lcL vs g t m xs r S
def mLc (i : MI) (vs : List Nat) (g : MG) (t : MT) (m : ME) : ME := fun r S => (i r S).bind fun xs S => (lcL vs g t m xs r S).bind fun ys S => .ok (.lst ys) S
def mLcM (i : MI) (vs : List Nat) (g : MG) (t : MT) (m : ME) : ME := fun r S => (i r S).bind fun xs S => (lcL vs g t m xs r S).bind fun ys S => .ok (.ref S.length) (S ++ [.lst ys])
def tYesM : MT := fun _ S => .ok true S
theorem RS.priv {K : Fg} {F H : Hp} {p : As} {S : So} {D : Addr} {u : HO} (h : RS K F p S H) (hF : F D = none) (hp : D ∉ p) : RS K F p S (upd H D u) :=
  ⟨fun b o e => by rw [upd_ne (ne_of_none e hF)]; exact h.sub b o e, h.len, h.inj, fun i o a e1 e2 => by
    obtain ⟨w, h1, h2⟩ := h.ob i o a e1 e2
    exact ⟨w, by rw [upd_ne (fun z => hp (by rw [← z]; exact List.mem_of_getElem? e2))]; exact h1, h2⟩⟩
theorem Ext.priv {F H F' H' : Hp} {p p' : As} {D : Addr} {u : HO} (h : Ext F p H F' p' H') (hH : H D = none) : Ext F p H F' p' (upd H' D u) :=
  ⟨h.f, h.x, fun b o e m => by rw [upd_ne (ne_of_none e hH)]; exact h.k b o e m, h.n, h.g⟩
/-- what stands privately at D stays -/
theorem Ext.mine {F H F' H' : Hp} {p p' : As} {D : Addr} {u : HO} (h : Ext F p H F' p' H') (hD : H D = some u) (hp : D ∉ p) (hF : F D = none) : H' D = some u ∧ D ∉ p' ∧ F' D = none :=
  ⟨h.k D u hD hp, fun m => (by have z := h.n D m hp; rw [hD] at z; cases z), h.g D (by rw [hD]; simp) hp hF⟩
section
variable {X : Cx} {W : WX} {elt tg iter : Expr} {ifs : List Expr} {scope : Scope} {own : List (Str × Nat)} {pos : Pos} {mi : MI} {g : MG} {t : MT} {m : ME} {l : List Nat}
/-- the walk of a comprehension; at the end the list stands privately at D -/
theorem lc_go {σ : L2.St} {H0 : Hp} {vs : List Nat} {xs : List MV} {J : It} {r : En} {S0 : So} {F0 : Hp} {p0 : As} {D : Addr} {Fin : List MV → So → Hp → As → Hp → Prop} {Qd : Hp → Prop} (hl : ∀ i ∈ l, i ∈ vs) (hE : RE X.K F0 p0 r σ) (hS : RS X.K F0 p0 S0 H0) (hJ : ItOk X.K F0 p0 H0 J xs) (hD : H0 D = none) (hz : xs.length ≤ sizeLine)
    (ok : ∀ (i : Nat), i ≤ xs.length → ∀ S, (∃ ys S', lcL vs g t m (xs.drop i) r S = .ok ys S') → True) {zs : List MV} {Sz : So} (hrun : lcL vs g t m xs r S0 = .ok zs Sz)
    (fin : ∀ S F p H vz, Ext F0 p0 H0 F p H → RS X.K F p S H → H D = some (.lst vz) → D ∉ p → F D = none → vz.length ≤ sizeLine → RVs X.K F p zs vz → S = Sz → Qd H) :
    ∃ W : Nat → Nat → Hp → Prop, (∃ m, W 0 m (upd H0 D (.lst []))) ∧ ∀ i k H, W i k H →
      (J.stop i H ∧ Qd H) ∨ (J.go i H ∧ ∃ Nx : Hp → Prop, (∀ H', Nx H' → ∃ m', m' < k ∧ W (i + 1) m' H') ∧ ∀ x H', J.yld i H x H' → tG X.K l g x (wipe σ vs) H' fun σ2 H2 => wipe σ2 vs = wipe σ vs ∧ tT X.K W0 t σ2 H2 fun b H3 =>
        if b = true then tE X.K W0 m σ2 H3 fun y H4 => ∃ acc, H4 D = some (.lst acc) ∧ acc.length < sizeLine ∧ Nx (upd H4 D (.lst (acc ++ [y]))) else Nx H3) := by
  have nDp : D ∉ p0 := hS.notIn hD
  have nDF : F0 D = none := hS.free hD
  refine ⟨fun i k H => ∃ S F p acc vz ys, k = xs.length - i ∧ i ≤ xs.length ∧ Ext F0 p0 H0 F p H ∧ RS X.K F p S H ∧ H D = some (.lst vz) ∧ D ∉ p ∧ F D = none ∧ RVs X.K F p acc vz ∧ acc.length ≤ i ∧ lcL vs g t m (xs.drop i) r S = .ok ys Sz ∧ acc ++ ys = zs,
    ⟨xs.length, S0, F0, p0, [], [], zs, rfl, Nat.zero_le _, (Ext.refl _ _ _).priv hD, hS.priv nDF nDp, upd_same, nDp, nDF, rfl, Nat.le_refl _, hrun, rfl⟩, ?_⟩
  rintro i k H ⟨S, F, p, acc, vz, ys, rfl, hi, e, s, hH, hp, hF, la, hacc, hrun, hy⟩
  by_cases hlt : i < xs.length
  · have hx : xs[i]? = some xs[i] := List.getElem?_eq_getElem hlt
    obtain ⟨hgo, hyl⟩ := (hJ F p H S e.f e.x s i).1 xs[i] hx
    refine .inr ⟨hgo, fun H' => ∃ S F p acc vz ys, i + 1 ≤ xs.length ∧ Ext F0 p0 H0 F p H' ∧ RS X.K F p S H' ∧ H' D = some (.lst vz) ∧ D ∉ p ∧ F D = none ∧ RVs X.K F p acc vz ∧ acc.length ≤ i + 1 ∧ lcL vs g t m (xs.drop (i + 1)) r S = .ok ys Sz ∧ acc ++ ys = zs,
      fun H' ⟨S, F, p, acc, vz, ys, a1, a2, a3, a4, a5, a6, a7, a8, a9, a10⟩ => ⟨xs.length - (i + 1), by omega, S, F, p, acc, vz, ys, rfl, a1, a2, a3, a4, a5, a6, a7, a8, a9, a10⟩, fun v H' y => ?_⟩
    obtain ⟨F1, e1, s1, l1⟩ := hyl v H' y
    rw [List.drop_eq_getElem_cons hlt] at hrun
    have hrun' : (match g xs[i] (wipeM r vs) with
      | none => R.bad
      | some r1 => (nx (t r1 S)).bind fun b S => if b = true then (nx (m r1 S)).bind fun y S => (lcL vs g t m (xs.drop (i + 1)) r S).bind fun ys S => .ok (y :: ys) S else lcL vs g t m (xs.drop (i + 1)) r S) = .ok ys Sz := hrun
    cases eg : g xs[i] (wipeM r vs) with
    | none => rw [eg] at hrun'; cases hrun'
    | some r1 =>
      rw [eg] at hrun'
      simp only at hrun'
      have E1 : RE X.K F1 p (wipeM r vs) (wipe σ vs) := ((hE.ext e).ext e1).wipes vs
      refine ⟨xs[i], wipeM r vs, S, F1, p, r1, E1, s1, l1, eg, fun σ2 E2 b2 => ⟨but_wipe b2 hl, r1, S, F1, p, E2, s1, ?_⟩⟩
      rcases nx_bind (r := t r1 S) (k := fun b S => if b = true then (nx (m r1 S)).bind fun y S => (lcL vs g t m (xs.drop (i + 1)) r S).bind fun ys S => .ok (y :: ys) S else lcL vs g t m (xs.drop (i + 1)) r S) with hb | ⟨b, S2, hb1, hb2⟩
      · rw [hb] at hrun'; cases hrun'
      rw [hb2] at hrun'
      rw [hb1]
      intro F2 p2 H2 b' e2 s2 eb
      have eb' : b = b' := eb
      subst eb'
      have e02 := (e.trans e1).trans e2
      obtain ⟨d1, d2, d3⟩ := e1.mine hH hp hF
      obtain ⟨d4, d5, d6⟩ := e2.mine d1 d2 d3
      cases b with
      | false =>
        refine iteF ⟨S2, F2, p2, acc, vz, ys, hlt, e02, s2, d4, d5, d6, RVs.mono (e1.trans e2).f (e1.trans e2).x _ la, by omega, hrun', hy⟩
      | true =>
        rw [if_pos rfl] at hrun'
        refine iteT ⟨r1, S2, F2, p2, E2.ext e2, s2, ?_⟩
        rcases nx_bind (r := m r1 S2) (k := fun y S => (lcL vs g t m (xs.drop (i + 1)) r S).bind fun ys S => .ok (y :: ys) S) with hc | ⟨z, S3, hc1, hc2⟩
        · rw [hc] at hrun'; cases hrun'
        rw [hc2] at hrun'
        rw [hc1]
        intro F3 p3 H3 w e3 s3 l3
        obtain ⟨d7, d8, d9⟩ := e3.mine d4 d5 d6
        have hvl : vz.length = acc.length := la.length
        refine ⟨vz, d7, by omega, ?_⟩
        cases q : lcL vs g t m (xs.drop (i + 1)) r S3 with
        | bad => rw [q] at hrun'; cases hrun'
        | exc c y S4 => rw [q] at hrun'; cases hrun'
        | ok ys2 S4 =>
          rw [q] at hrun'
          have eys : z :: ys2 = ys ∧ S4 = Sz := by
            have h2 : (R.ok (z :: ys2) S4 : R (List MV)) = .ok ys Sz := hrun'
            injection h2 with h3 h4
            exact ⟨h3, h4⟩
          obtain ⟨rfl, rfl⟩ := eys
          refine ⟨S3, F3, p3, acc ++ [z], vz ++ [w], ys2, hlt, (e02.trans e3).priv hD, s3.priv d9 d8, upd_same, d8, d9, (RVs.mono ((e1.trans e2).trans e3).f ((e1.trans e2).trans e3).x _ la).app (RVs.one l3), by simp; omega, q, by rw [List.append_assoc]; exact hy⟩
  · have hge : xs.length ≤ i := Nat.le_of_not_lt hlt
    rw [List.drop_of_length_le hge] at hrun
    have hys : ys = [] ∧ S = Sz := by
      have h2 : (R.ok [] S : R (List MV)) = .ok ys Sz := hrun
      injection h2 with h3 h4
      exact ⟨h3.symm, h4⟩
    obtain ⟨rfl, rfl⟩ := hys
    rw [List.append_nil] at hy
    subst hy
    exact .inl ⟨(hJ F p H S e.f e.x s i).2 hge, fin S F p H vz e s hH hp hF (by rw [la.length]; omega) la rfl⟩
theorem lcL_noexc {vs : List Nat} : ∀ {xs : List MV} {r : En} {S : So}, (∃ ys S', lcL vs g t m xs r S = .ok ys S') ∨ lcL vs g t m xs r S = .bad
  | [], _, S => .inl ⟨[], S, rfl⟩
  | x :: xs, r, S => by
    show (∃ ys S', (match g x (wipeM r vs) with
      | none => R.bad
      | some r1 => (nx (t r1 S)).bind fun b S => if b = true then (nx (m r1 S)).bind fun y S => (lcL vs g t m xs r S).bind fun ys S => .ok (y :: ys) S else lcL vs g t m xs r S) = .ok ys S') ∨ (match g x (wipeM r vs) with
      | none => R.bad
      | some r1 => (nx (t r1 S)).bind fun b S => if b = true then (nx (m r1 S)).bind fun y S => (lcL vs g t m xs r S).bind fun ys S => .ok (y :: ys) S else lcL vs g t m xs r S) = .bad
    cases g x (wipeM r vs) with
    | none => exact .inr rfl
    | some r1 =>
      simp only
      rcases nx_bind (r := t r1 S) (k := fun b S => if b = true then (nx (m r1 S)).bind fun y S => (lcL vs g t m xs r S).bind fun ys S => .ok (y :: ys) S else lcL vs g t m xs r S) with hb | ⟨b, S2, hb1, hb2⟩
      · exact .inr hb
      · rw [hb2]
        cases b with
        | false => rw [if_neg (by decide)]; exact lcL_noexc
        | true =>
          rw [if_pos rfl]
          rcases nx_bind (r := m r1 S2) (k := fun y S => (lcL vs g t m xs r S).bind fun ys S => .ok (y :: ys) S) with hc | ⟨z, S3, hc1, hc2⟩
          · exact .inr hc
          · rw [hc2]
            rcases lcL_noexc (vs := vs) (xs := xs) (r := r) (S := S3) with ⟨ys, S4, q⟩ | q
            · rw [q]; exact .inl ⟨_, _, rfl⟩
            · rw [q]; exact .inr rfl
/-- a walk's length is a sequence's -/
def ItLine (K : Fg) (mi : MI) : Prop := ∀ r S xs S' F p H, mi r S = .ok xs S' → RS K F p S H → True
theorem mt_nil : ∀ {X : Cx}, PTs X [] (tT X.K W0 tYesM) := fun {X} => ⟨fun pins s σ H Q I ⟨r, S, F, p, hE, hS, h⟩ => pts_nil.run pins s σ H Q I (h F p H true (Ext.refl _ _ _) hS rfl)⟩
theorem lc_rel {σ : L2.St} {H : Hp} {Q : VK} {vs : List Nat} (hl : ∀ i ∈ l, i ∈ vs) (h : tE X.K W (mLc (fun r S => (mi r S).bind fun xs S => if xs.length ≤ SZ then .ok xs S else .bad) vs g t m) σ H Q) : tLc (tI X.K W mi) (tG X.K l g) (tT X.K W0 t) (tE X.K W0 m) vs σ H Q := by
  obtain ⟨r, S, F, p, hE, hS, h⟩ := h
  refine ⟨r, S, F, p, hE, hS, ?_⟩
  have h' : fine X.K (RV X.K) F p H σ W Q (((mi r S).bind fun xs S => if xs.length ≤ SZ then .ok xs S else .bad).bind fun xs S => (lcL vs g t m xs r S).bind fun ys S => .ok (.lst ys) S) := h
  cases q : mi r S with
  | bad => rw [q] at h'; exact h'.elim
  | exc c x S1 => rw [q] at h'; exact h'
  | ok xs S1 =>
    rw [q] at h'
    simp only [R.bind_ok] at h'
    split at h'
    · rename_i hz
      simp only [R.bind_ok] at h'
      intro F1 p1 H1 J e1 s1 hJ D hD
      rcases lcL_noexc (vs := vs) (g := g) (t := t) (m := m) (xs := xs) (r := r) (S := S1) with ⟨ys, S2, q2⟩ | q2
      · rw [q2] at h'
        refine lc_go (Fin := fun _ _ _ _ _ => True) hl (hE.ext e1) s1 hJ hD (by rw [← sz_line]; exact hz) (fun _ _ _ _ => trivial) q2 fun S F p H vz e s hH hp hF hzv lv eS => ?_
        subst eS
        have hu : Same F (upd F D (.lst vz)) := Same.updF hF
        refine h' (upd F D (.lst vz)) p H (.ref D) (e1.trans ⟨e.f.trans hu, e.x, e.k, e.n, fun b a1 a2 a3 => by
          rw [upd_ne (fun z => a1 (by rw [z]; exact hD))]; exact e.g b a1 a2 a3⟩) ⟨fun b o eo => ?_, s.len, s.inj, fun i o a ea1 ea2 => ?_⟩ ⟨D, vz, rfl, upd_same, hzv, RVs.mono hu (Px.refl _) _ lv⟩
        · by_cases hb : b = D
          · rw [hb, upd_same] at eo; rw [hb, hH]; exact eo
          · rw [upd_ne hb] at eo; exact s.sub b o eo
        · obtain ⟨u, b1, b2⟩ := s.ob i o a ea1 ea2
          exact ⟨u, b1, b2.imp id fun ⟨c1, c2⟩ => ⟨by rw [upd_ne (fun z => hp (by rw [← z]; exact List.mem_of_getElem? ea2))]; exact c1, c2.mono hu (Px.refl _)⟩⟩
      · rw [q2] at h'; exact h'.elim
    · exact h'.elim
def capI (mi : MI) : MI := fun r S => (mi r S).bind fun xs S => if xs.length ≤ SZ then .ok xs S else .bad
theorem mp_lc (hc : X.calm = true) (hN : X.N.Nodup) (hi : PIm X W tg iter mi) (ok : BlkOk X.N X.env.scope scope own) (hl : ∀ i ∈ l, i ∈ own.map (·.2))
    (hg : ∀ (s : Shared) (H : Hp) (C : Addr) (cl : List (Str × Addr)) (fp : List Addr), PGm (X.blk s H scope (compEnvC scope cl C X.env) fp) tg l g) (ht : ∀ (s : Shared) (H : Hp) (C : Addr) (cl : List (Str × Addr)) (fp : List Addr), PTs (X.blk s H scope (compEnvC scope cl C X.env) fp) ifs (tT X.K W0 t))
    (he : ∀ (s : Shared) (H : Hp) (C : Addr) (cl : List (Str × Addr)) (fp : List Addr), PEm (X.blk s H scope (compEnvC scope cl C X.env) fp) W0 elt m) (hs : ∀ x, foldedSetIterable iter X.env x = pure x := by intro _; rfl) :
    PEm X W (.ListComp elt [⟨tg, iter, ifs, 0⟩] scope pos) (mLc (capI mi) (own.map (·.2)) g t m) := pe_weak (pe_lc hc hN hi ok hg ht he hs) fun _ _ _ h => lc_rel hl h
theorem ms_lc {i : Nat} {y : Str} {py spos : Pos} (hc : X.calm = true) (hN : X.N.Nodup) (hy : X.N[i]? = some y) (hyl : X.env.scope.names.lookup y = some .local)
    (hsw : swapsWith (.ListComp elt [⟨tg, iter, ifs, 0⟩] scope pos) (some (.Name y py)) spos.line X.env = pure true) (hi : PIm X W tg iter mi) (ok : BlkOk X.N X.env.scope scope own) (hl : ∀ i ∈ l, i ∈ own.map (·.2))
    (hg : ∀ (s : Shared) (H : Hp) (C : Addr) (cl : List (Str × Addr)) (fp : List Addr), PGm (X.blk s H scope (compEnvC scope cl C X.env) fp) tg l g) (ht : ∀ (s : Shared) (H : Hp) (C : Addr) (cl : List (Str × Addr)) (fp : List Addr), PTs (X.blk s H scope (compEnvC scope cl C X.env) fp) ifs (tT X.K W0 t))
    (he : ∀ (s : Shared) (H : Hp) (C : Addr) (cl : List (Str × Addr)) (fp : List Addr), PEm (X.blk s H scope (compEnvC scope cl C X.env) fp) W0 elt m) (hs : ∀ x, foldedSetIterable iter X.env x = pure x := by intro _; rfl) :
    PSm X W (.Assign [.Name y py] (.ListComp elt [⟨tg, iter, ifs, 0⟩] scope pos) spos) (sAsg (gN i) (mLc (capI mi) (own.map (·.2)) g t m)) := ps_weak (ps_setLc hc hN hy hyl hsw hi ok hg ht he hs) fun D σ H ⟨r, S, F, p, hE, hS, h⟩ => by
  refine lc_rel hl ⟨r, S, F, p, hE, hS, fine.to hE h fun y S1 F1 p1 H1 v _ e1 s1 l1 E1 h1 => ?_⟩
  obtain ⟨r', e2, h2⟩ := gGo_ok h1
  cases e2
  exact h2 F1 p1 H1 _ (Ext.refl _ _ _) s1 (E1.set l1 i)
end
end Mi

set_option maxHeartbeats 4000000
namespace Mi
open PySem PySem.Spec PyProof.Rows L2
def tx (e : Int × Value) : Str := match e.2 with
  | .str x _ => x
  | _ => Str.empty
/-- at a stands a set of texts, these (told perhaps more than once) -/
def TxS (w : World) (h : Heap) (a : Addr) (L : List Str) : Prop := ∃ o es ep t, h.get? a = some o ∧ o.ExactSet ∧ o.data = .set es ep t ∧ (∀ e ∈ es.toList, ∃ x u, e = (hashStr w x, Value.str x u)) ∧ (es.toList.map tx).Nodup ∧ (∀ x, x ∈ es.toList.map tx ↔ x ∈ L) ∧
  es.size ≤ L.length ∧ L.length < scanBound ∧ t.fits es.size = true ∧ Ris t.place.toList ∧ (w.params.followText "set-order" = true ∨ t.led = true)
section
variable {P : Program} {w : World} {A : Around} {E : Value → Shared → Prop} {s : Shared} {h h' : Heap} {a : Addr} {L : List Str}
theorem TxS.keep (R : TxS w h a L) (k : ∀ o, h.get? a = some o → h'.get? a = some o) : TxS w h' a L := by
  obtain ⟨o, es, ep, t, ho, q⟩ := R
  exact ⟨o, es, ep, t, k o ho, q⟩
theorem tx_elems {l : List (Int × Value)} (g : ∀ e ∈ l, ∃ x u, e = (hashStr w x, Value.str x u)) : ElemsOf (PySem.strKind P w) l := fun e he => by
  obtain ⟨x, u, rfl⟩ := g e he
  exact ⟨⟨x, strKind_is P w x u, rfl⟩, rfl⟩
theorem tx_is {l : List (Int × Value)} (g : ∀ e ∈ l, ∃ x u, e = (hashStr w x, Value.str x u)) {e : Int × Value} (he : e ∈ l) (k : Str) : (PySem.strKind P w).is k e.2 = true ↔ tx e = k := by
  obtain ⟨x, u, rfl⟩ := g e he
  show Value.isStrOf k (Value.str x u) = true ↔ x = k
  constructor
  · intro z
    obtain ⟨v, q⟩ := Value.isStrOf_shape z
    injection q
  · rintro rfl
    exact strKind_is P w x u
/-- the new state of a set is laid down, perhaps over again -/
theorem tx_lay {g : Bool → Sem Unit} (hg : ∀ (b : Bool) (z : Shared) (Y : Unit → Shared → Prop), Y () z → wpAny (model P w) A (g b) Y E z)
    {o : Obj} {es es1 : Array (Int × Value)} {ep : Nat} {t t2 : SetTable} (ho : s.heap.get? a = some o) (hex : o.ExactSet) (hd : o.data = .set es ep t) (g1 : ∀ e ∈ es1.toList, ∃ x u, e = (hashStr w x, Value.str x u)) (nd : (es1.toList.map tx).Nodup) (hm : ∀ x, x ∈ es1.toList.map tx ↔ x ∈ L)
    (hz : es1.size ≤ L.length) (hb : L.length < scanBound) (hf : t2.fits es1.size = true) (hr : Ris t2.place.toList) (hl : w.params.followText "set-order" = true ∨ t2.led = true) {dm : Bool} {R : Option Bool → Shared → Prop}
    (hR : ∀ h', Heap.SameBut a s.heap h' → TxS w h' a L → R (some true) { s with heap := h' }) :
    wpAny (model P w) A (do
        storeSet a es1 t2
        if (!dm && t2.tooFull) = true then do
            g (relayAll t2 es1 (SetTable.grown es1.size)).2.2
            storeSet a (relayAll t2 es1 (SetTable.grown es1.size)).1 (relayAll t2 es1 (SetTable.grown es1.size)).2.1
            pure (some true)
          else pure (some true)) R E s := by
  have hb1 : es1.size < scanBound := Nat.lt_of_le_of_lt hz hb
  have at1 := L2.store_at (es' := es1) (t' := t2) ho hd
  have one := Heap.SameBut.update s.heap a (Obj.putSet es1 t2)
  refine wpAny_bind (wpAny_storeSet_of ho hd ?_ (fits_of_scanBound hb1))
  split
  · have pm := relayAll_perm t2 es1 (SetTable.grown es1.size)
    have f3 := relayAll_fits t2 es1 (SetTable.grown es1.size)
    have r3 := L2.relayAll_ris t2 es1 (SetTable.grown es1.size)
    have l3 := L2.relayAll_led t2 es1 (SetTable.grown es1.size)
    generalize relayAll t2 es1 (SetTable.grown es1.size) = Z at pm f3 r3 l3 ⊢
    obtain ⟨es2, t3, gave⟩ := Z
    dsimp only at pm f3 r3 l3 ⊢
    have ez : es2.size = es1.size := by rw [← Array.length_toList, pm.length_eq, Array.length_toList]
    refine wpAny_bind (hg _ _ _ (wpAny_bind (wpAny_storeSet_of at1 rfl ?_ (fits_of_scanBound (by rw [ez]; exact hb1)))))
    refine wpAny_pure (hR _ (one.trans (Heap.SameBut.update _ a _)) ⟨_, es2, _, t3, L2.store_at (es' := es2) (t' := t3) at1 rfl, hex, rfl, fun e he => g1 e (pm.mem_iff.mp he), (pm.map tx).nodup_iff.mpr nd, fun x => (pm.map tx).mem_iff.trans (hm x), by rw [ez]; exact hz, hb, f3, r3, ?_⟩)
    exact hl.imp id fun q => by rw [l3]; exact q
  · exact wpAny_pure (hR _ one ⟨_, es1, _, t2, at1, hex, rfl, g1, nd, hm, hz, hb, hf, hr, hl⟩)
theorem tx_hashed {k : Str} {u : Tok} {Q : Bool → Shared → Prop} (R : TxS w s.heap a L) (room : L.length + 1 < scanBound)
    (hQ : ∀ b h', Heap.SameBut a s.heap h' → TxS w h' a (k :: L) → Q b { s with heap := h' }) : wpAny (model P w) A (setAddHashed a (.str k u) ((PySem.strKind P w).hash k)) Q E s := by
  obtain ⟨o, es, ep, t, ho, hex, hd, g, nd, hm, hz, hb, hf, hr, hl⟩ := R
  have hel : ElemsOf (PySem.strKind P w) es.toList := tx_elems g
  unfold setAddHashed setAddHashedIn
  refine wpAny_holding (wpAny_bind (wpAny_setState_of ho hd hf ?_))
  dsimp only
  rw [byScan_of (show (Value.str k u).scannable = true from rfl) (Nat.lt_of_le_of_lt hz hb) hel]
  simp only [↓reduceIte]
  unfold setAddByScan
  refine wpAny_bind (wpAny_bind (wpAny_rule (wpAny_bind (wpAny_setScan_of (strKind_is P w k u) ho hd hf hel ?_))))
  cases hfi : List.findIdx? (fun e => (PySem.strKind P w).is k e.2) es.toList with
  | some j =>
    dsimp only
    obtain ⟨hj, pj, _⟩ := List.findIdx?_eq_some_iff_getElem.mp hfi
    have hk : k ∈ es.toList.map tx := List.mem_map.mpr ⟨_, List.getElem_mem hj, (tx_is g (List.getElem_mem hj) k).1 pj⟩
    refine wpAny_pure (wpAny_pure (hQ _ s.heap (Heap.SameBut.refl a s.heap) ⟨o, es, ep, t, ho, hex, hd, g, nd, fun x => (hm x).trans ⟨fun z => List.mem_cons_of_mem _ z, fun z => ?_⟩, Nat.le_succ_of_le hz, room, hf, hr, hl⟩))
    rcases List.mem_cons.mp z with z | z
    · rw [z]; exact (hm k).1 hk
    · exact z
  | none =>
    dsimp only
    have hk : k ∉ es.toList.map tx := fun z => by
      obtain ⟨e, he, q⟩ := List.mem_map.mp z
      have c := List.findIdx?_eq_none_iff.mp hfi e he
      rw [(tx_is g he k).2 q] at c
      cases c
    have pm := layNew_perm t es ((PySem.strKind P w).hash k) (.str k u)
    have f1 := layNew_fits t es ((PySem.strKind P w).hash k) (.str k u)
    have r1 := L2.layNew_ris t es ((PySem.strKind P w).hash k) (.str k u) hr
    have l1 := L2.layNew_led t es ((PySem.strKind P w).hash k) (.str k u)
    generalize layNew t es ((PySem.strKind P w).hash k) (.str k u) = Z at pm f1 r1 l1 ⊢
    obtain ⟨es1, t1, dm, gave⟩ := Z
    dsimp only at pm f1 r1 l1 ⊢
    rw [Array.toList_push] at pm
    have pc : es1.toList.Perm (((PySem.strKind P w).hash k, Value.str k u) :: es.toList) := pm.trans (List.perm_append_singleton _ _)
    have pk : (es1.toList.map tx).Perm (k :: es.toList.map tx) := pc.map tx
    have g1 : ∀ e ∈ es1.toList, ∃ x u, e = (hashStr w x, Value.str x u) := fun e he => (List.mem_cons.mp (pc.mem_iff.mp he)).elim (fun z => ⟨k, u, z⟩) (g e)
    have nd1 : (es1.toList.map tx).Nodup := pk.nodup_iff.mpr (List.nodup_cons.mpr ⟨hk, nd⟩)
    have m1 : ∀ x, x ∈ es1.toList.map tx ↔ x ∈ k :: L := fun x => by rw [pk.mem_iff, List.mem_cons, List.mem_cons, hm x]
    have ez : es1.size = es.size + 1 := by rw [← Array.length_toList, pc.length_eq, List.length_cons, Array.length_toList]
    have hl1 : w.params.followText "set-order" = true ∨ t1.led = true := hl.imp id fun z => by rw [l1]; exact z
    have way : ∀ (b : Bool) (z : Shared) (Y : Unit → Shared → Prop), Y () z → wpAny (model P w) A (match b with
      | true => rule "set.scan.the-table-gave-way"
      | false => pure ()) Y E z := fun b z Y q => by cases b <;> first | exact wpAny_pure q | exact wpAny_rule q
    refine wpAny_bind (way _ _ _ ?_)
    all_goals split
    all_goals first
      | (refine wpAny_bind ?_
         rw [hashByValue_scannable 8 (show (Value.str k u).scannable = true from rfl)]
         refine wpAny_pure (tx_lay (L := k :: L) (fun b z Y q => by cases b <;> first | exact wpAny_pure q | exact wpAny_rule q) ho hex hd g1 nd1 m1 (by rw [ez]; exact Nat.succ_le_succ hz) room ?_ ?_ ?_ fun h' sb r => (by dsimp only; exact wpAny_pure (hQ _ h' sb r)))
         · first | (split <;> first | exact f1 | exact SetTable.fits_plain_off f1) | exact f1
         · first | (split <;> exact r1) | exact r1
         · first | (split <;> exact hl1) | exact hl1)
      | (refine wpAny_bind (wpAny_pure ?_)
         simp only [↓reduceIte]
         exact tx_lay (L := k :: L) (fun b z Y q => by cases b <;> first | exact wpAny_pure q | exact wpAny_rule q) ho hex hd g1 nd1 m1 (by rw [ez]; exact Nat.succ_le_succ hz) room f1 r1 hl1 fun h' sb r => (by dsimp only; exact wpAny_pure (hQ _ h' sb r)))
end
def TxO (w : World) (a : Addr) (L : List Str) : HO := .ext fun h => TxS w h a L
section
variable {P : Program} {w : World} {A : Around} {E : Value → Shared → Prop} {s : Shared} {a : Addr} {L : List Str}
theorem txs_type (R : TxS w s.heap a L) : s.TypeIs (.ref a) "set" := by
  obtain ⟨o, es, ep, t, ho, hex, _⟩ := R
  exact ⟨o, ho, hex.1⟩
theorem tx_add {k : Str} {u : Tok} {Q : Value → Shared → Prop} (R : TxS w s.heap a L) (room : L.length + 1 < scanBound)
    (hQ : ∀ h', Heap.SameBut a s.heap h' → TxS w h' a (k :: L) → Q .none { s with heap := h', toks := s.toks + 1 }) :
    wpAny (model P w) A (call (.builtin "set.add") [.ref a, .str k u]) Q E s := by
  refine wpAny_call_entry F.slot_set_add (txs_type R) F.entry_set_add ?_ (F.args_set_add_2 _ _)
  unfold Builtin.«set.add» Builtin.Frozenset.oneOther
  simp only [List.isEmpty_nil, bind_assoc]
  unfold Builtin.Frozenset.addrOf setAdd
  refine wpAny_bind (wpAny_pure ?_)
  try dsimp only
  refine wpAny_bind (wpAny_pure ?_)
  try dsimp only
  refine wpAny_bind (wpAny_holding (wpAny_bind ((PySem.strKind P w).pyHash (strKind_is P w k u) ?_)))
  refine tx_hashed (s := { s with toks := s.toks + 1 }) R room fun b h' sb r => ?_
  show wpAny _ _ (ret Value.none) _ _ _
  exact wpAny_pure ⟨_, rfl, hQ h' sb r⟩
theorem tx_fresh {h : Heap} (w : World) : TxS w (h.push { cls := .type "set", dict := none, data := .set #[] 0 (.fresh 0 0 (!w.params.followText "set-order")) }) h.objs.size [] :=
  ⟨_, #[], 0, _, Heap.get?_push_size _ rfl, ⟨rfl, rfl, rfl⟩, rfl, (fun e he => by simp at he), (by simp), (fun k => by simp), (by decide), (by decide), (by rfl), List.Pairwise.nil, by
    show _ ∨ (!w.params.followText "set-order") = true
    cases w.params.followText "set-order"
    · exact .inr rfl
    · exact .inl rfl⟩
theorem txO_new {H : Hp} {h : Heap} (R : TxS w h a L) : ObjOk P w H h a (TxO w a L) := by
  have ⟨o, _, _, _, ho, _⟩ := R
  exact ⟨R, ⟨o, ho⟩, fun h1 h2 pp k => TxS.keep pp k⟩
end
section
variable {X : Cx}
theorem txO_get {pins : List (Addr × Obj)} {σ : L2.St} {H : Hp} {s : Shared} {a : Addr} {L : List Str} (I : Inv X pins σ H s) (ha : H a = some (TxO X.w a L)) : TxS X.w s.heap a L := (I.hok a _ ha).1
theorem addT_ok {pins : List (Addr × Obj)} {σ : L2.St} {H : Hp} {s : Shared} {E : Value → Shared → Prop} {D : Addr} {L : List Str} {k : Str} {u : Tok} {Q : Value → Shared → Prop} (I : Inv X pins σ H s) (hD : H D = some (TxO X.w D L)) (room : L.length + 1 < scanBound)
    (h : ∀ s', Inv X pins σ (upd H D (TxO X.w D (k :: L))) s' → Q .none s') : wpAny (model X.prog X.w) X.A (call (.builtin "set.add") [.ref D, .str k u]) Q E s := by
  refine tx_add (txO_get I hD) room fun h' sb new => ?_
  have he : ∃ z, h'.get? D = some z := by
    have ⟨o, _, _, _, ho, _⟩ := new
    exact ⟨o, ho⟩
  exact h _ (I.write (e := D) (t' := s.toks + 1) (by rw [hD]; trivial) (.inl rfl) (fun b z hb hz => (sb.2 b hb).trans hz) he (txO_new new))
end
open PpSet (newSet_ok eval_SetComp codeAny_compStart_set)
theorem tTurnO (el t0 i0 t1 i1 : Expr) (ifs0 cb : List Expr) (sp : Scope) (pos : Pos) (it acc : Value) (ev : Env) :
    compTurn (.SetComp el [⟨t0, i0, ifs0, 0⟩, ⟨t1, i1, cb, 0⟩] sp pos) 0 it acc ev = (do
      standAt i0.pos
      match ← pyNext it with
      | none => pure (.done .next)
      | some v =>
        letOwnedTupleGo t0 it v
        assign t0 ev v
        let mut ok := true
        for c in ifs0 do
          if ok then ok ← isTrue c ev (eval c ev)
        if ok then
          let x ← eval i1 ev
          standAt i1.pos
          let x ← foldedSetIterable i1 ev x
          let _ ← runOwn (.compStart (.SetComp el [⟨t0, i0, ifs0, 0⟩, ⟨t1, i1, cb, 0⟩] sp pos) 1 (← holding [x] (pyIter x)) acc ev) ev
        again (.compLoop (.SetComp el [⟨t0, i0, ifs0, 0⟩, ⟨t1, i1, cb, 0⟩] sp pos) 0 it acc ev)) := by rfl
theorem tTurnI (el t0 i0 t1 i1 : Expr) (ifs0 cb : List Expr) (sp : Scope) (pos : Pos) (it acc : Value) (ev : Env) :
    compTurn (.SetComp el [⟨t0, i0, ifs0, 0⟩, ⟨t1, i1, cb, 0⟩] sp pos) 1 it acc ev = (do
      standAt i1.pos
      match ← pyNext it with
      | none => pure (.done .next)
      | some v =>
        letOwnedTupleGo t1 it v
        assign t1 ev v
        let mut ok := true
        for c in cb do
          if ok then ok ← isTrue c ev (eval c ev)
        if ok then
          (do let v ← eval el ev; standAt el.pos; let _ ← call (.builtin "set.add") [acc, v])
        again (.compLoop (.SetComp el [⟨t0, i0, ifs0, 0⟩, ⟨t1, i1, cb, 0⟩] sp pos) 1 it acc ev)) := by rfl

section
variable {pg : Program} {w : World} {A : Around} {R : Result → Shared → Prop} {s : Shared} {el t0 i0 t1 i1 : Expr} {ifs0 cb : List Expr} {sp : Scope} {pos : Pos} {it acc : Value} {ev : Env}
theorem tLoopO (hs : ∀ x, foldedSetIterable i1 ev x = pure x) (I : Nat → Shared → Prop)
    (turn : ∀ n s, I n s → wpAny (model pg w) A (pyNext it) (fun r s₁ => match r with
      | none => R (.ok .next) s₁
      | some v => wpAny (model pg w) A (letOwnedTupleGo t0 it v) (fun _ s₁' => wpAny (model pg w) A (assign t0 ev v) (fun _ s₂ =>
          wpAny (model pg w) A (forIn ifs0 true fun c r => if r = true then do let ok ← isTrue c ev (eval c ev); pure (ForInStep.yield ok) else pure (ForInStep.yield r)) (fun ok s₃ =>
            if ok = true then wpAny (model pg w) A (eval i1 ev) (fun x s₄ => wpAny (model pg w) A (pyIter x) (fun it1 s₅ =>
              codeAny (model pg w) A (.compStart (.SetComp el [⟨t0, i0, ifs0, 0⟩, ⟨t1, i1, cb, 0⟩] sp pos) 1 it1 acc ev) (fun r s' => match r with
                | .ok _ => ∃ m, m < n ∧ I m s'
                | .error _ => False) s₅) (notedBy (model pg w) A ev fun e s' => R (.error e) s') s₄) (notedBy (model pg w) A ev fun e s' => R (.error e) s') s₃
            else ∃ m, m < n ∧ I m s₃) (notedBy (model pg w) A ev fun e s' => R (.error e) s') s₂) (notedBy (model pg w) A ev fun e s' => R (.error e) s') s₁') (notedBy (model pg w) A ev fun e s' => R (.error e) s') s₁) (notedBy (model pg w) A ev fun e s' => R (.error e) s') s)
    (n : Nat) (h : I n s) :
    codeAny (model pg w) A (.compLoop (.SetComp el [⟨t0, i0, ifs0, 0⟩, ⟨t1, i1, cb, 0⟩] sp pos) 0 it acc ev) R s := by
  refine codeAny_loop rfl I (fun n s hI => ?_) n h
  show wpAny _ A ((compTurn (.SetComp el [⟨t0, i0, ifs0, 0⟩, ⟨t1, i1, cb, 0⟩] sp pos) 0 it acc ev).onRaise (fun x => do noteFrame x ev; theTreesLotGoes x)) _ _ s
  refine wpAny_noted ?_
  rw [tTurnO]
  refine wpAny_bind (wpAny_standAt (wpAny_bind (wpAny_mono (turn n s hI) (fun r s₁ h₁ => ?_) fun _ _ h' => h')))
  cases r with
  | none => exact wpAny_pure h₁
  | some v =>
    refine wpAny_bind (wpAny_mono h₁ (fun _ s₁' h₁' => ?_) fun _ _ h' => h')
    refine wpAny_bind (wpAny_mono h₁' (fun _ s₂ h₂ => wpAny_bind (wpAny_mono h₂ (fun ok s₃ h₃ => ?_) fun _ _ h' => h')) fun _ _ h' => h')
    cases ok with
    | false => exact wpAny_pure ⟨rfl, h₃⟩
    | true =>
      refine wpAny_bind (wpAny_mono h₃ (fun x s₄ h₄ => ?_) fun _ _ h' => h')
      refine wpAny_bind (wpAny_standAt (wpAny_bind (wpAny_of_eq (hs x) (wpAny_bind (wpAny_holding (wpAny_mono h₄ (fun it1 s₅ h₅ => ?_) fun _ _ h' => h'))))))
      refine wpAny_bind (wpAny_runOwn ?_)
      rw [Around.mark_none]
      refine codeAny_mono h₅ fun r s' hr => ?_
      cases r with
      | ok f =>
        first
          | exact wpAny_pure ⟨rfl, hr⟩
          | exact wpAny_bind (wpAny_pure (wpAny_pure ⟨rfl, hr⟩))
      | error e => exact hr.elim
theorem tLoopI (I : Nat → Shared → Prop)
    (turn : ∀ n s, I n s → wpAny (model pg w) A (pyNext it) (fun r s₁ => match r with
      | none => R (.ok .next) s₁
      | some v => wpAny (model pg w) A (letOwnedTupleGo t1 it v) (fun _ s₁' => wpAny (model pg w) A (assign t1 ev v) (fun _ s₂ =>
          wpAny (model pg w) A (forIn cb true fun c r => if r = true then do let ok ← isTrue c ev (eval c ev); pure (ForInStep.yield ok) else pure (ForInStep.yield r)) (fun ok s₃ =>
            if ok = true then wpAny (model pg w) A (eval el ev) (fun x s₄ =>
              wpAny (model pg w) A (call (.builtin "set.add") [acc, x]) (fun _ s₅ => ∃ m, m < n ∧ I m s₅) (notedBy (model pg w) A ev fun e s' => R (.error e) s') s₄) (notedBy (model pg w) A ev fun e s' => R (.error e) s') s₃
            else ∃ m, m < n ∧ I m s₃) (notedBy (model pg w) A ev fun e s' => R (.error e) s') s₂) (notedBy (model pg w) A ev fun e s' => R (.error e) s') s₁') (notedBy (model pg w) A ev fun e s' => R (.error e) s') s₁) (notedBy (model pg w) A ev fun e s' => R (.error e) s') s)
    (n : Nat) (h : I n s) :
    codeAny (model pg w) A (.compLoop (.SetComp el [⟨t0, i0, ifs0, 0⟩, ⟨t1, i1, cb, 0⟩] sp pos) 1 it acc ev) R s := by
  refine codeAny_loop rfl I (fun n s hI => ?_) n h
  show wpAny _ A ((compTurn (.SetComp el [⟨t0, i0, ifs0, 0⟩, ⟨t1, i1, cb, 0⟩] sp pos) 1 it acc ev).onRaise (fun x => do noteFrame x ev; theTreesLotGoes x)) _ _ s
  refine wpAny_noted ?_
  rw [tTurnI]
  refine wpAny_bind (wpAny_standAt (wpAny_bind (wpAny_mono (turn n s hI) (fun r s₁ h₁ => ?_) fun _ _ h' => h')))
  cases r with
  | none => exact wpAny_pure h₁
  | some v =>
    refine wpAny_bind (wpAny_mono h₁ (fun _ s₁' h₁' => ?_) fun _ _ h' => h')
    refine wpAny_bind (wpAny_mono h₁' (fun _ s₂ h₂ => wpAny_bind (wpAny_mono h₂ (fun ok s₃ h₃ => ?_) fun _ _ h' => h')) fun _ _ h' => h')
    cases ok with
    | false => exact wpAny_pure ⟨rfl, h₃⟩
    | true =>
      exact wpAny_bind (wpAny_bind (wpAny_mono h₃ (fun x s₄ h₄ => wpAny_bind (wpAny_standAt (wpAny_bind (wpAny_mono h₄ (fun _ s₅ h₅ => wpAny_pure (wpAny_pure ⟨rfl, h₅⟩)) fun _ _ h' => h')))) fun _ _ h' => h'))
theorem tStart1 (h0 : codeAny (model pg w) A (.compLoop (.SetComp el [⟨t0, i0, ifs0, 0⟩, ⟨t1, i1, cb, 0⟩] sp pos) 1 it acc ev) R s)
    (h : wpAny (model pg w) A (pyIter it) (fun it' s' => codeAny (model pg w) A (.compLoop (.SetComp el [⟨t0, i0, ifs0, 0⟩, ⟨t1, i1, cb, 0⟩] sp pos) 1 it' acc ev) R s')
      (notedBy (model pg w) A ev fun x s' => R (.error x) s') s) :
    codeAny (model pg w) A (.compStart (.SetComp el [⟨t0, i0, ifs0, 0⟩, ⟨t1, i1, cb, 0⟩] sp pos) 1 it acc ev) R s := by
  refine codeAny_of_tree ?_
  show wpAny _ _ ((compStart (.SetComp el [⟨t0, i0, ifs0, 0⟩, ⟨t1, i1, cb, 0⟩] sp pos) 1 it acc ev).onRaise (fun x => do noteFrame x ev; standAt theWindowsPlace)) _ _ s
  refine wpAny_notedAt ?_
  unfold compStart
  show wpAny _ _ (ask >>= _) _ _ s
  refine wpAny_bind (wpAny_askSetting (wpAny_ite ?_))
  split
  · first
      | exact wpAny_bind (wpAny_pure (wpAny_pure (And.intro rfl h0)))
      | exact wpAny_pure (And.intro rfl h0)
  · first
      | exact wpAny_bind (wpAny_rule (wpAny_bind (wpAny_standAt (wpAny_bind (wpAny_mono h (fun it' s' h' => wpAny_pure (And.intro rfl h')) fun _ _ x => x)))))
      | (refine wpAny_bind (wpAny_rule ?_); show wpAny _ _ (standAt i1.pos >>= _) _ _ s; exact wpAny_bind (wpAny_standAt (wpAny_bind (wpAny_mono h (fun it' s' h' => wpAny_pure (And.intro rfl h')) fun _ _ x => x))))
end

section
variable {X : Cx}
def tSc2 (w : World) (wi : TI) (g : TG) (tt : TT) (wi1 : TI) (g1 : TG) (tt1 : TT) (te : TE) (vs vs1 : List Nat) : TE := fun ρ H Q => wi ρ H fun J H1 => ∀ D, H1 D = none → ∃ W : Nat → Nat → Hp → Prop, (∃ m, W 0 m (upd H1 D (TxO w D []))) ∧ ∀ i m H, W i m H →
  (J.stop i H ∧ Q (.ref D) H) ∨ (J.go i H ∧ ∃ Nx : Hp → Prop, (∀ H', Nx H' → ∃ m', m' < m ∧ W (i + 1) m' H') ∧ ∀ x H', J.yld i H x H' → g x (wipe ρ vs) H' fun σ2 H2 => wipe σ2 vs = wipe ρ vs ∧ tt σ2 H2 fun b H3 =>
    if b = true then wi1 σ2 H3 fun J1 H4 => ∃ W1 : Nat → Nat → Hp → Prop, (∃ m, W1 0 m H4) ∧ ∀ j k H, W1 j k H →
      (J1.stop j H ∧ Nx H) ∨ (J1.go j H ∧ ∃ Nx1 : Hp → Prop, (∀ H', Nx1 H' → ∃ k', k' < k ∧ W1 (j + 1) k' H') ∧ ∀ x H', J1.yld j H x H' → g1 x (wipe σ2 vs1) H' fun σ3 H5 => wipe σ3 vs1 = wipe σ2 vs1 ∧ tt1 σ3 H5 fun b H6 =>
        if b = true then te σ3 H6 fun y H7 => ∃ (c : Str) (L : List Str), y = .str c ∧ H7 D = some (TxO w D L) ∧ L.length + 1 < scanBound ∧ Nx1 (upd H7 D (TxO w D (c :: L))) else Nx1 H6)
    else Nx H3)
theorem sc2_core {pins : List (Addr × Obj)} {s : Shared} {ρ : L2.St} {H : Hp} {Q : VK} {el tg ita tb itb : Expr} {ca cb : List Expr} {sp : Scope} {ow : List (PySem.Str × Nat)} {vs1 : List Nat} {pos pos' : Pos} {wi wi1 : TI} {g g1 : TG} {tt tt1 : TT} {te : TE} {use : Option (Value → Sem Unit)} {Qf : Value → Shared → Prop}
    (hc : X.calm = true) (hN : X.N.Nodup) (I : Inv X pins ρ H s) (hi : PI X tg ita wi) (ok : BlkOk X.N X.env.scope sp ow) (hv : ∀ i ∈ vs1, i ∈ ow.map (·.2))
    (hg : ∀ (s : Shared) (H : Hp) (C : Addr) (cl : List (PySem.Str × Addr)) (fp : List Addr), PG (X.blk s H sp (compEnvC sp cl C X.env) fp) tg g) (ht : ∀ (s : Shared) (H : Hp) (C : Addr) (cl : List (PySem.Str × Addr)) (fp : List Addr), PTs (X.blk s H sp (compEnvC sp cl C X.env) fp) ca tt)
    (he : ∀ (s : Shared) (H : Hp) (C : Addr) (cl : List (PySem.Str × Addr)) (fp : List Addr), PE (X.blk s H sp (compEnvC sp cl C X.env) fp) el te) (hs : ∀ x, foldedSetIterable ita X.env x = pure x)
    (hi1 : ∀ (s : Shared) (H : Hp) (C : Addr) (cl : List (PySem.Str × Addr)) (fp : List Addr), PI (X.blk s H sp (compEnvC sp cl C X.env) fp) tb itb wi1)
    (hg1 : ∀ (s : Shared) (H : Hp) (C : Addr) (cl : List (PySem.Str × Addr)) (fp : List Addr), PG (X.blk s H sp (compEnvC sp cl C X.env) fp) tb g1)
    (ht1 : ∀ (s : Shared) (H : Hp) (C : Addr) (cl : List (PySem.Str × Addr)) (fp : List Addr), PTs (X.blk s H sp (compEnvC sp cl C X.env) fp) cb tt1)
    (hs1 : ∀ ev x, foldedSetIterable itb ev x = pure x)
    (h : tSc2 X.w wi g tt wi1 g1 tt1 te (ow.map (·.2)) vs1 ρ H Q)
    (hRR : ∀ D C s' m H', Inv X pins ρ H' s' → Q (.ref D) H' → s'.heap.Ns C m → FpOk X pins H' C → compPost (model X.prog X.w) X.A X.xe use Qf (.ref D) C (.ok .next) s') :
    wpAny (model X.prog X.w) X.A (comprehension (.SetComp el [⟨tg, ita, ca, 0⟩, ⟨tb, itb, cb, 0⟩] sp pos) sp X.env pos' (newSet (.type "set")) false (eval ita X.env) use) Qf X.xe s := by
  have hfree : ∀ y ∈ sp.names, y.2 = .free → ∃ c, X.env.cells.lookup y.1 = some c := fun y hy e => by
    rcases ok.free y hy e with k | k
    · exact I.ok.has _ (.inl k)
    · exact I.ok.has _ (.inr k)
  refine wpAny_comprehension_free (use := use) rfl hs (closure_ok hfree) ok.kind (fun y hy e => by rw [ok.uniq y hy, e])
    (thn (hi.run pins s ρ H _ I h) fun xv s1 hx => thn hx fun itv s2 h2 => ?_)
  obtain ⟨it, fp, tn, J, H2, e, I2, T, st2, f2, q⟩ := h2
  subst e
  refine newSet_ok (newEnv_comp ?_)
  generalize hD : s2.heap.objs.size = D
  have hDn : H2 D = none := I2.hok.fresh (Nat.le_of_eq hD)
  obtain ⟨W, ⟨m0, w0⟩, turn⟩ := q D hDn
  generalize hs3 : ({ s2 with heap := s2.heap.push { cls := .type "set", dict := none, data := .set #[] 0 (.fresh 0 0 (!X.w.params.followText "set-order")) } } : Shared) = s3
  have I3 : Inv X pins ρ (upd H2 D (TxO X.w D [])) s3 := by
    rw [← hs3]
    refine I2.laid (t' := s2.toks) (fun b o e => Heap.get?_push_of_some _ e) (Nat.le_of_eq hD) ?_
    rw [← hD]
    exact txO_new (tx_fresh X.w)
  have h3 : s3.heap = s2.heap.push { cls := .type "set", dict := none, data := .set #[] 0 (.fresh 0 0 (!X.w.params.followText "set-order")) } := by rw [← hs3]
  have sz : ∀ b ∈ fp, b < s2.heap.objs.size := fun b hb => by
    obtain ⟨o, e, _⟩ := T.obj _ _ st2 b hb
    exact Heap.lt_size e
  have f3 : ∀ b ∈ fp, FpOk X pins (upd H2 D (TxO X.w D [])) b ∧ b < s3.heap.objs.size := fun b hb => by
    have hlt := sz b hb
    refine ⟨⟨?_, (f2 b hb).2⟩, by rw [h3, Heap.size_push]; exact Nat.lt_succ_of_lt hlt⟩
    rw [upd_ne (by rw [← hD]; exact Nat.ne_of_lt hlt)]
    exact (f2 b hb).1
  have st3 : tn 0 s3.heap := T.keep _ _ _ st2 fun b _ o e => by rw [h3]; exact Heap.get?_push_of_some _ e
  have I4 := block_start I3 ok hN f3
  have pg := hg s3 (upd H2 D (TxO X.w D [])) s3.heap.objs.size (cellsFrom (s3.heap.objs.size + 1) sp.names (cloFrom X.env.cells sp.names [])) fp
  have pt := ht s3 (upd H2 D (TxO X.w D [])) s3.heap.objs.size (cellsFrom (s3.heap.objs.size + 1) sp.names (cloFrom X.env.cells sp.names [])) fp
  have pe := he s3 (upd H2 D (TxO X.w D [])) s3.heap.objs.size (cellsFrom (s3.heap.objs.size + 1) sp.names (cloFrom X.env.cells sp.names [])) fp
  have pi1 := hi1 s3 (upd H2 D (TxO X.w D [])) s3.heap.objs.size (cellsFrom (s3.heap.objs.size + 1) sp.names (cloFrom X.env.cells sp.names [])) fp
  have pg1 := hg1 s3 (upd H2 D (TxO X.w D [])) s3.heap.objs.size (cellsFrom (s3.heap.objs.size + 1) sp.names (cloFrom X.env.cells sp.names [])) fp
  have pt1 := ht1 s3 (upd H2 D (TxO X.w D [])) s3.heap.objs.size (cellsFrom (s3.heap.objs.size + 1) sp.names (cloFrom X.env.cells sp.names [])) fp
  show codeAny _ _ (.compStart (.SetComp el [⟨tg, ita, ca, 0⟩, ⟨tb, itb, cb, 0⟩] sp pos) 0 (.ref it) (.ref D) (compEnvC sp (cellsFrom (s3.heap.objs.size + 1) sp.names (cloFrom X.env.cells sp.names [])) s3.heap.objs.size X.env)) (compPost (model X.prog X.w) X.A X.xe use Qf (.ref D) s3.heap.objs.size) { s3 with heap := pushCells (s3.heap.push { cls := .type "dict", data := .dict #[] }) sp.names }
  have nfp : ∀ b ∈ fp, (upd H2 D (TxO X.w D [])) b = none := fun b hb => (f3 b hb).1.1
  generalize hce : compEnvC sp (cellsFrom (s3.heap.objs.size + 1) sp.names (cloFrom X.env.cells sp.names [])) s3.heap.objs.size X.env = ce at I4 pg pt pe pi1 pg1 pt1 ⊢
  have cL : ce.locals = s3.heap.objs.size := by subst hce; rfl
  generalize hH3 : upd H2 D (TxO X.w D []) = H3 at I3 I4 pg pt pe pi1 pg1 pt1 w0 nfp f3
  generalize hs4 : ({ s3 with heap := pushCells (s3.heap.push { cls := .type "dict", data := .dict #[] }) sp.names } : Shared) = s4 at I4 ⊢
  have st4 : tn 0 s4.heap := T.keep _ _ _ st3 fun b _ o e => by rw [← hs4]; exact pushCells_keeps _ _ _ _ (Heap.get?_push_of_some _ e)
  have sa1 : ∀ {ρ' : St} {H' : Hp} {s' : Shared}, Inv (X.blk s3 H3 sp ce fp) [] ρ' H' s' → (∀ b ∈ fp, H' b = none) → ∀ b ∈ fp, FpOk (X.blk s3 H3 sp ce fp) [] H' b := fun {ρ' H' s'} I' hn b hb =>
    ⟨hn b hb, (I'.ok.exf b hb).1, I'.ok.exfs b hb, .inl hb, fun x c e => (I'.ok.exf b hb).2 x c e, fun p hp => absurd (show p ∈ ([] : List (Addr × Obj)) ++ [] from hp) (by simp)⟩
  have loop : codeAny (model X.prog X.w) X.A (.compLoop (.SetComp el [⟨tg, ita, ca, 0⟩, ⟨tb, itb, cb, 0⟩] sp pos) 0 (.ref it) (.ref D) ce) (compPost (model X.prog X.w) X.A X.xe use Qf (.ref D) s3.heap.objs.size) s4 := by
    refine tLoopO (hs1 ce) (fun n s' => ∃ i H', Inv (X.blk s3 H3 sp ce fp) [] (wipe ρ (ow.map (·.2))) H' s' ∧ tn i s'.heap ∧ (∀ b ∈ fp, H' b = none) ∧ W i n H') ?_ m0 ⟨0, H3, I4, st4, nfp, w0⟩
    rintro n s5 ⟨i, H5, I5, st5, n5, w5⟩
    rcases turn i n H5 w5 with ⟨stop, qq⟩ | ⟨go, Nx, hNx, step⟩
    · have td := T.done (X.blk s3 H3 sp ce fp) rfl rfl rfl hc i [] s5 _ H5 (fun _ _ => False) I5 (sa1 I5 n5) st5 stop
      refine thnF td fun r s6 ⟨hr, I6⟩ => ?_
      subst hr
      have I7 : Inv X pins ρ H5 s6 := I3.call' (ch := fp) I6.os I6.base I6.hok I6.bare fun b hb => ⟨(f3 b hb).1.2.2.2.1, (f3 b hb).1.2.1, (f3 b hb).1.2.2.2.2.1, (f3 b hb).1.2.2.2.2.2⟩
      have nC : H5 s3.heap.objs.size = none := by
        have z : H5 ce.locals = none := I6.free
        rw [cL] at z
        exact z
      obtain ⟨m, hn, _⟩ := I6.loc
      have hn : s6.heap.Ns ce.locals m := hn
      rw [cL] at hn
      exact hRR D s3.heap.objs.size s6 m H5 I7 qq hn (I3.fpOk (Nat.le_refl _) nC)
    · have ti := T.item (X.blk s3 H3 sp ce fp) rfl rfl rfl hc i [] s5 _ H5 (fun _ _ => False) I5 (sa1 I5 n5) st5 go
      refine thnF ti fun r s6 ⟨u, hr, h6⟩ => ?_
      subst hr
      refine thnF h6 fun _ s7 ⟨x, H7, I7, r7, y7, st7, n7⟩ => ?_
      have I7' := I7.pinned (sa1 I7 n7) (T.obj _ _ st7)
      refine thnF (pg.run _ s7 _ H7 x u _ I7' r7 (step x H7 y7)) fun _ s8 ⟨σ8, H8, I8, hw8, q8⟩ => ?_
      refine thnF (pt.run _ s8 σ8 H8 _ I8 q8) fun b s9 ⟨H9, I9, q9⟩ => ?_
      have fin : ∀ {σ9 : L2.St} {s' : Shared} {H' : Hp}, Inv (X.blk s3 H3 sp ce fp) ([] ++ pinsAt fp s7.heap) σ9 H' s' → (wipe ρ (ow.map (·.2))).length = σ9.length → (∀ (j : Nat) v, (wipe ρ (ow.map (·.2)))[j]? = some (some v) → σ9[j]? = some (some v)) → Nx H' →
          ∃ m, m < n ∧ ∃ i H', Inv (X.blk s3 H3 sp ce fp) [] (wipe ρ (ow.map (·.2))) H' s' ∧ tn i s'.heap ∧ (∀ b ∈ fp, H' b = none) ∧ W i m H' := fun {σ9 s' H'} I' hl hk nx => by
        obtain ⟨m', hm, w'⟩ := hNx H' nx
        have pin' : ∀ b ∈ fp, ∀ o, s7.heap.get? b = some o → s'.heap.get? b = some o ∧ H' b = none := fun b hb o e =>
          let z := I'.pin (b, o) (List.mem_append_right _ (List.mem_append_right _ (mem_pinsAt hb e)))
          ⟨z.1, z.2.1⟩
        refine ⟨m', hm, i + 1, H', (I'.unpinned (pins := [])).weak hl hk, T.keep _ _ _ st7 fun b hb o e => (pin' b hb o e).1, fun b hb => ?_, w'⟩
        obtain ⟨o, e, _⟩ := T.obj _ _ st7 b hb
        exact (pin' b hb o e).2
      have hl8 : (wipe ρ (ow.map (·.2))).length = σ8.length := by rw [← hw8, wipe_length]
      have hk8 : ∀ (j : Nat) v, (wipe ρ (ow.map (·.2)))[j]? = some (some v) → σ8[j]? = some (some v) := fun j v e => by
        rw [← hw8] at e
        exact (wipe_some e).1
      have hk9 : ∀ (j : Nat) v, (wipe ρ (ow.map (·.2)))[j]? = some (some v) → (wipe σ8 vs1)[j]? = some (some v) := fun j v e => by
        rw [← hw8] at e
        obtain ⟨e1, e2⟩ := wipe_some e
        rw [wipe_out fun z => e2 (hv j z)]
        exact e1
      cases b with
      | false =>
        simp only [Bool.false_eq_true, if_false] at q9 ⊢
        exact fin I9 hl8 hk8 q9
      | true =>
        simp only [if_true] at q9 ⊢
        refine thnF (pi1.run _ s9 σ8 H9 _ I9 q9) fun xv s10 hx => thnF hx fun itv s11 h11 => ?_
        obtain ⟨it1, fp1, tn1, J1, H11, e1, I11, T1, st11, f11, W1, ⟨m1, w1⟩, turn1⟩ := h11
        subst e1
        have sb1 : ∀ {H' : Hp}, (∀ b ∈ fp1, H' b = none) → ∀ b ∈ fp1, FpOk (X.blk s3 H3 sp ce fp) ([] ++ pinsAt fp s7.heap) H' b := fun hn b hb => ⟨hn b hb, (f11 b hb).2⟩
        have loop1 : codeAny (model X.prog X.w) X.A (.compLoop (.SetComp el [⟨tg, ita, ca, 0⟩, ⟨tb, itb, cb, 0⟩] sp pos) 1 (.ref it1) (.ref D) ce)
            (fun r s' => match r with
              | .ok _ => ∃ m, m < n ∧ ∃ i H', Inv (X.blk s3 H3 sp ce fp) [] (wipe ρ (ow.map (·.2))) H' s' ∧ tn i s'.heap ∧ (∀ b ∈ fp, H' b = none) ∧ W i m H'
              | .error _ => False) s11 := by
          refine tLoopI (fun k s' => ∃ j H', Inv (X.blk s3 H3 sp ce fp) ([] ++ pinsAt fp s7.heap) (wipe σ8 vs1) H' s' ∧ tn1 j s'.heap ∧ (∀ b ∈ fp1, H' b = none) ∧ W1 j k H') ?_ m1 ⟨0, H11, I11.weak (wipe_length _ _) (fun j v e => (wipe_some e).1), st11, fun b hb => (f11 b hb).1, w1⟩
          rintro k s12 ⟨j, H12, I12, st12, n12, w12⟩
          rcases turn1 j k H12 w12 with ⟨stop1, nx1⟩ | ⟨go1, Nx1, hNx1, step1⟩
          · refine thnF (T1.done (X.blk s3 H3 sp ce fp) rfl rfl rfl hc j _ s12 (wipe σ8 vs1) H12 (fun _ _ => False) I12 (sb1 n12) st12 stop1) fun r s13 ⟨hr, I13⟩ => ?_
            subst hr
            exact fin I13 (hl8.trans (wipe_length σ8 vs1).symm) hk9 nx1
          · refine thnF (T1.item (X.blk s3 H3 sp ce fp) rfl rfl rfl hc j _ s12 (wipe σ8 vs1) H12 (fun _ _ => False) I12 (sb1 n12) st12 go1) fun r s13 ⟨u1, hr, h13⟩ => ?_
            subst hr
            refine thnF h13 fun _ s14 ⟨x1, H14, I14, r14, y14, st14, n14⟩ => ?_
            have I14' := I14.pinned (sb1 n14) (T1.obj _ _ st14)
            refine thnF (pg1.run _ s14 (wipe σ8 vs1) H14 x1 u1 _ I14' r14 (step1 x1 H14 y14)) fun _ s15 ⟨σ15, H15, I15, hw15, q15⟩ => ?_
            refine thnF (pt1.run _ s15 σ15 H15 _ I15 q15) fun b1 s16 ⟨H16, I16, q16⟩ => ?_
            have fin1 : ∀ {s' : Shared} {H' : Hp}, Inv (X.blk s3 H3 sp ce fp) (([] ++ pinsAt fp s7.heap) ++ pinsAt fp1 s14.heap) σ15 H' s' → Nx1 H' → ∃ m, m < k ∧ ∃ j H', Inv (X.blk s3 H3 sp ce fp) ([] ++ pinsAt fp s7.heap) (wipe σ8 vs1) H' s' ∧ tn1 j s'.heap ∧ (∀ b ∈ fp1, H' b = none) ∧ W1 j m H' := fun {s' H'} I' nx => by
              obtain ⟨m', hm, w'⟩ := hNx1 H' nx
              have pin' : ∀ b ∈ fp1, ∀ o, s14.heap.get? b = some o → s'.heap.get? b = some o ∧ H' b = none := fun b hb o e =>
                let z := I'.pin (b, o) (List.mem_append_right _ (List.mem_append_right _ (mem_pinsAt hb e)))
                ⟨z.1, z.2.1⟩
              refine ⟨m', hm, j + 1, H', I'.unpinned.weak (by rw [← hw15, wipe_length]) (fun j v e => by rw [← hw15] at e; exact (wipe_some e).1), T1.keep _ _ _ st14 fun b hb o e => (pin' b hb o e).1, fun b hb => ?_, w'⟩
              obtain ⟨o, e, _⟩ := T1.obj _ _ st14 b hb
              exact (pin' b hb o e).2
            cases b1 with
            | false =>
              simp only [Bool.false_eq_true, if_false] at q16 ⊢
              exact fin1 I16 q16
            | true =>
              simp only [if_true] at q16 ⊢
              refine thnF (pe.run _ s16 σ15 H16 _ I16 q16) fun z s17 ⟨yv, H17, I17, r17, cc, L0, ey, hD17, hz17, nx⟩ => ?_
              subst ey
              obtain ⟨tk, rfl⟩ := r17
              exact addT_ok (X := X.blk s3 H3 sp ce fp) I17 hD17 hz17 fun s18 I18 => fin1 I18 nx
        exact tStart1 loop1 (T1.self X.A 0 _ _ _ st11 loop1)
  exact codeAny_compStart_set loop (T.self X.A 0 _ _ _ st4 loop)
theorem pe_sc2 {el tg ita tb itb : Expr} {ca cb : List Expr} {sp : Scope} {ow : List (PySem.Str × Nat)} {vs1 : List Nat} {pos : Pos} {wi wi1 : TI} {g g1 : TG} {tt tt1 : TT} {te : TE} (hc : X.calm = true) (hN : X.N.Nodup) (hi : PI X tg ita wi) (ok : BlkOk X.N X.env.scope sp ow) (hv : ∀ i ∈ vs1, i ∈ ow.map (·.2))
    (hg : ∀ (s : Shared) (H : Hp) (C : Addr) (cl : List (PySem.Str × Addr)) (fp : List Addr), PG (X.blk s H sp (compEnvC sp cl C X.env) fp) tg g) (ht : ∀ (s : Shared) (H : Hp) (C : Addr) (cl : List (PySem.Str × Addr)) (fp : List Addr), PTs (X.blk s H sp (compEnvC sp cl C X.env) fp) ca tt)
    (hi1 : ∀ (s : Shared) (H : Hp) (C : Addr) (cl : List (PySem.Str × Addr)) (fp : List Addr), PI (X.blk s H sp (compEnvC sp cl C X.env) fp) tb itb wi1)
    (hg1 : ∀ (s : Shared) (H : Hp) (C : Addr) (cl : List (PySem.Str × Addr)) (fp : List Addr), PG (X.blk s H sp (compEnvC sp cl C X.env) fp) tb g1) (ht1 : ∀ (s : Shared) (H : Hp) (C : Addr) (cl : List (PySem.Str × Addr)) (fp : List Addr), PTs (X.blk s H sp (compEnvC sp cl C X.env) fp) cb tt1)
    (he : ∀ (s : Shared) (H : Hp) (C : Addr) (cl : List (PySem.Str × Addr)) (fp : List Addr), PE (X.blk s H sp (compEnvC sp cl C X.env) fp) el te) (hs : ∀ x, foldedSetIterable ita X.env x = pure x := by intro _; rfl) (hs1 : ∀ ev x, foldedSetIterable itb ev x = pure x := by intro _ _; rfl) :
    PE X (.SetComp el [⟨tg, ita, ca, 0⟩, ⟨tb, itb, cb, 0⟩] sp pos) (tSc2 X.w wi g tt wi1 g1 tt1 te (ow.map (·.2)) vs1) := by
  refine ⟨fun pins s ρ H Q I h => ?_⟩
  rw [eval_SetComp]
  refine sc2_core hc hN I hi ok hv hg ht he hs hi1 hg1 ht1 hs1 h fun D C s' m H' I' q hn f => ⟨m, hn, fun h'' sb => ?_⟩
  obtain ⟨f0, f1, f2, f3, f4, f5⟩ := f
  exact ⟨.ref D, H', I'.turned (t' := s'.toks) (fun b o hb e => (sb.2 b hb).trans e) f0 f1 f3 f4 f5, rfl, q⟩
end

def insU (x : Str) : List Str → List Str
  | [] => [x]
  | y :: ys => if x = y then y :: ys else if x.cps.toList < y.cps.toList then x :: y :: ys else y :: insU x ys
def sortU (L : List Str) : List Str := L.foldr insU []
abbrev AscT (l : List Str) : Prop := l.Pairwise fun a b => a.cps.toList < b.cps.toList
theorem insU_mem (x z : Str) : ∀ l : List Str, z ∈ insU x l ↔ z = x ∨ z ∈ l
  | [] => by simp [insU]
  | y :: ys => by
    unfold insU
    split
    · rename_i e; subst e; simp
    · split
      · simp
      · rw [List.mem_cons, insU_mem x z ys, List.mem_cons]
        constructor
        · rintro (h | h | h)
          · exact .inr (.inl h)
          · exact .inl h
          · exact .inr (.inr h)
        · rintro (h | h | h)
          · exact .inr (.inl h)
          · exact .inl h
          · exact .inr (.inr h)
theorem str_tri {x y : Str} (h : x ≠ y) (h2 : ¬ x.cps.toList < y.cps.toList) : y.cps.toList < x.cps.toList := by
  refine Classical.byContradiction fun h3 => h ?_
  have e : x.cps.toList = y.cps.toList := List.le_antisymm (List.not_lt.mp h3) (List.not_lt.mp h2)
  cases x; cases y
  exact congrArg Str.mk (Array.toList_inj.mp e)
theorem insU_asc (x : Str) : ∀ {l : List Str}, AscT l → AscT (insU x l)
  | [], _ => List.pairwise_singleton _ _
  | y :: ys, h => by
    unfold insU
    split
    · exact h
    · rename_i ne
      obtain ⟨h1, h2⟩ := List.pairwise_cons.mp h
      split
      · rename_i lt
        refine List.pairwise_cons.mpr ⟨fun z hz => ?_, h⟩
        rcases List.mem_cons.mp hz with e | e
        · rw [e]; exact lt
        · exact List.lt_trans lt (h1 z e)
      · rename_i nlt
        refine List.pairwise_cons.mpr ⟨fun z hz => ?_, insU_asc x h2⟩
        rcases (insU_mem x z ys).mp hz with e | e
        · rw [e]; exact str_tri ne nlt
        · exact h1 z e
theorem sortU_asc : ∀ L : List Str, AscT (sortU L)
  | [] => List.Pairwise.nil
  | x :: L => insU_asc x (sortU_asc L)
theorem sortU_mem (z : Str) : ∀ L : List Str, z ∈ sortU L ↔ z ∈ L
  | [] => Iff.rfl
  | x :: L => by
    show z ∈ insU x (sortU L) ↔ _
    rw [insU_mem, sortU_mem z L, List.mem_cons]
theorem asc_eq : ∀ {l m : List Str}, AscT l → AscT m → (∀ z, z ∈ l ↔ z ∈ m) → l = m
  | [], [], _, _, _ => rfl
  | [], y :: m, _, _, h => by have := (h y).mpr List.mem_cons_self; simp at this
  | x :: l, [], _, _, h => by have := (h x).mp List.mem_cons_self; simp at this
  | x :: l, y :: m, hl, hm, h => by
    obtain ⟨l1, l2⟩ := List.pairwise_cons.mp hl
    obtain ⟨m1, m2⟩ := List.pairwise_cons.mp hm
    have e : x = y := by
      rcases List.mem_cons.mp ((h x).mp List.mem_cons_self) with a | a
      · exact a
      · rcases List.mem_cons.mp ((h y).mpr List.mem_cons_self) with b | b
        · exact b.symm
        · exact absurd (List.lt_trans (m1 x a) (l1 y b)) (List.lt_irrefl _)
    subst e
    refine congrArg (x :: ·) (asc_eq l2 m2 fun z => ⟨fun a => ?_, fun a => ?_⟩)
    · rcases List.mem_cons.mp ((h z).mp (List.mem_cons_of_mem _ a)) with b | b
      · subst b; exact absurd (l1 z a) (List.lt_irrefl _)
      · exact b
    · rcases List.mem_cons.mp ((h z).mpr (List.mem_cons_of_mem _ a)) with b | b
      · subst b; exact absurd (m1 z a) (List.lt_irrefl _)
      · exact b
theorem rising_asc : ∀ (p : Str) (l : List Str), risingS p l = true → (p :: l).Nodup → AscT (p :: l)
  | p, [], _, _ => List.pairwise_singleton _ _
  | p, x :: r, h, nd => by
    have h' : (!ltCps x.cps.toList p.cps.toList && risingS x r) = true := h
    obtain ⟨h1, h2⟩ := Bool.and_eq_true_iff.mp h'
    obtain ⟨n1, n2⟩ := List.nodup_cons.mp nd
    have ih := rising_asc x r h2 n2
    have lt : p.cps.toList < x.cps.toList := by
      rw [ltCps_eq] at h1
      refine str_tri (fun e => n1 (by rw [e]; exact List.mem_cons_self)) fun z => ?_
      rw [decide_eq_true z] at h1; cases h1
    refine List.pairwise_cons.mpr ⟨fun z hz => ?_, ih⟩
    rcases List.mem_cons.mp hz with e | e
    · rw [e]; exact lt
    · exact List.lt_trans lt ((List.pairwise_cons.mp ih).1 z e)
theorem sorted_asc {l : List Str} (h : sortedS l = true) (nd : l.Nodup) : AscT l := by
  cases l with
  | nil => exact List.Pairwise.nil
  | cons x r => exact rising_asc x r h nd
section
variable {P : Program} {w : World} {A : Around} {E : Value → Shared → Prop} {s : Shared} {a : Addr} {L : List Str}
theorem tx_strs : ∀ {vs : List Value}, (∀ v ∈ vs, ∃ x u, v = Value.str x u) → StrsAre vs (vs.map fun v => tx (0, v))
  | [], _ => .nil
  | v :: vs, h => by
    obtain ⟨x, u, rfl⟩ := h v List.mem_cons_self
    exact .cons x u (tx_strs fun z hz => h z (List.mem_cons_of_mem _ hz))
theorem sorted_tx {Q : Value → Shared → Prop} (R : TxS w s.heap a L) (hh : A.handled = none)
    (hQ : ∀ s' p (out : Array Value) (c : Nat), (∀ b o, s.heap.get? b = some o → s'.heap.get? b = some o) → s'.gens = s.gens → s'.os = s.os → s.heap.objs.size ≤ p →
      s'.heap.get? p = some (seqObj "list" out c) → StrsAre out.toList (sortU L) → Q (.ref p) s') :
    wpAny (model P w) A (call (.builtin "sorted") [.ref a]) Q E s := by
  obtain ⟨o, es, ep, t, ho, hex, hd, g, nd, hm, hz, hb, hf, hr, hl⟩ := R
  have hb1 : es.size < scanBound := Nat.lt_of_le_of_lt hz hb
  refine Calls.call_function_entry kind_sorted plain_sorted entry_sorted (args_sorted1 _) ?_
  unfold Builtin.«sorted»
  refine wpAny_bind (m := checkCount "sorted" 1 1 _) (wpAny_pure ?_)
  refine wpAny_bind (collect_set (A := A.in1) hh ⟨o, ho, hex.1, hd⟩ hf hb1 hr hl fun s1 vs k1 hzz g1 o1 pm => ?_)
  have hvl : vs.length = es.size := by rw [pm.length_eq, List.length_map, Array.length_toList]
  have hS : StrsAre vs (vs.map fun v => tx (0, v)) := tx_strs fun v hv => by
    obtain ⟨e, he, q⟩ := List.mem_map.mp (pm.mem_iff.mp hv)
    obtain ⟨x, u, rfl⟩ := g e he
    exact ⟨x, u, q.symm⟩
  have pk : (vs.map fun v => tx (0, v)).Perm (es.toList.map tx) := by
    have q := pm.map (fun v : Value => tx (0, v))
    rw [List.map_map] at q
    exact q
  have hvz : vs.length ≤ sizeLine := by rw [hvl]; exact fits_of_scanBound hb1
  refine wpAny_bind (wpAny_newList ?_ hvz)
  have hoL : (s1.heap.push (seqObj "list" vs.toArray 0)).get? s1.heap.objs.size = some (seqObj "list" vs.toArray 0) := Heap.get?_push_size _ rfl
  refine wpAny_bind (wpAny_holding (wpAny_call_entry slot_list_sort ⟨_, hoL, rfl⟩ entry_list_sort (list_sort_treeKAny strKind_oneLt hoL hS.keysOf (fun v₁ v₂ rest e => keyKind_strs (by rw [← e]; exact hS)) hvz fun st' hp hs => ⟨_, rfl, ?_⟩) (args_list_sort _)))
  obtain ⟨ys, a1, a2, a3⟩ := sorted_out_str hS hp hs
  obtain ⟨c, hc⟩ := sortedHeap_at (vs := vs) (out := (arrOf st').map (·.2)) hoL
  have pn : ys.Perm (es.toList.map tx) := a2.trans pk
  have ey : ys = sortU L := asc_eq (sorted_asc a3 (pn.nodup_iff.mpr nd)) (sortU_asc L) fun z => by rw [pn.mem_iff, hm z, sortU_mem]
  subst ey
  refine wpAny_pure ⟨_, rfl, hQ _ s1.heap.objs.size _ c (fun b u e => ?_) g1 o1 hzz hc a1⟩
  have q := k1 b u e
  have hlt := Heap.lt_size q
  show (sortedHeap (s1.heap.push (seqObj "list" vs.toArray 0)) s1.heap.objs.size vs _).get? b = some u
  rw [sortedHeap_old (Nat.ne_of_lt hlt) (by rw [size_push']; exact Nat.lt_succ_of_lt hlt)]
  exact Heap.get?_push_of_some _ q
end
def rSortedT (w : World) : List V → Hp → VK → Prop := fun vs H Q => ∃ (a : Addr) (L : List Str), vs = [V.ref a] ∧ H a = some (TxO w a L) ∧ (sortU L).length ≤ sizeLine ∧
  ∀ (p : Addr), H p = none → Q (.ref p) (upd H p (.lst ((sortU L).map V.str)))
theorem cr_sortedT {X : Cx} (hc : X.calm = true) : CallR X (.builtin "sorted") (rSortedT X.w) := by
  intro pins s σ H vs us Q I r h
  obtain ⟨a, L, rfl, ha, hzl, q⟩ := h
  have R := txO_get I ha
  rw [Vals.ref1 r]
  refine sorted_tx R (I.ok.hd hc) fun s' p out c k g o hp hg hi => ?_
  have hlen : ((sortU L).map V.str).length ≤ sizeLine := by rw [List.length_map]; exact hzl
  have hn : H p = none := I.hok.fresh hp
  have J : Inv X pins σ (upd H p (.lst ((sortU L).map V.str))) { s with heap := s'.heap, gens := s'.gens, drawn := s'.drawn, toks := s'.toks } :=
    I.call (ch := []) (Un.laid k hp hn) (I.hok.laid k hp ⟨hlen, out.toList, c, vals_of_strs hi, hg⟩) (by rw [g]; exact I.bare) (fun _ z => nomatch z)
  have e : s' = { s with heap := s'.heap, gens := s'.gens, drawn := s'.drawn, toks := s'.toks } := by
    cases s'
    cases s
    cases o
    rfl
  rw [e]
  exact ⟨.ref p, _, J, rfl, q p hn⟩
end Mi

set_option maxHeartbeats 4000000
namespace Mi
open PySem PySem.Spec PyProof.Rows L2
def scIn (vs1 : List Nat) (g1 : MG) (m : ME) : List MV → En → So → R (List Str)
  | [], _, S => .ok [] S
  | x :: xs, r, S => match g1 x (wipeM r vs1) with
    | none => .bad
    | some r1 => (nx (m r1 S)).bind fun y S => match y with
      | .str c => (scIn vs1 g1 m xs r S).bind fun cs S => .ok (c :: cs) S
      | _ => .bad
def scOut (vs : List Nat) (g : MG) (i1 : MI) (vs1 : List Nat) (g1 : MG) (m : ME) : List MV → En → So → R (List Str)
  | [], _, S => .ok [] S
  | x :: xs, r, S => match g x (wipeM r vs) with
    | none => .bad
    | some r1 => (nx (i1 r1 S)).bind fun ys S => (scIn vs1 g1 m ys r1 S).bind fun cs S => (scOut vs g i1 vs1 g1 m xs r S).bind fun ds S => .ok (cs ++ ds) S
def mSortSet (i : MI) (vs : List Nat) (g : MG) (i1 : MI) (vs1 : List Nat) (g1 : MG) (m : ME) : ME := fun r S => (i r S).bind fun xs S => match scOut vs g i1 vs1 g1 m xs r S with
  | .ok zs S => if zs.length < 4000 then .ok (.lst ((sortU zs).map MV.str)) S else .bad
  | _ => .bad
theorem bind_okv {α β : Type} {r : R α} {k : α → So → R β} {y : β} {S' : So} (h : r.bind k = .ok y S') : ∃ x S, r = .ok x S ∧ k x S = .ok y S' := by
  cases r with
  | ok x S => exact ⟨x, S, rfl, h⟩
  | exc c x S => cases h
  | bad => cases h
theorem nx_okv {α β : Type} {r : R α} {k : α → So → R β} {y : β} {S' : So} (h : (nx r).bind k = .ok y S') : ∃ x S, r = .ok x S ∧ k x S = .ok y S' := by
  cases r with
  | ok x S => exact ⟨x, S, rfl, h⟩
  | exc c x S => cases h
  | bad => cases h
theorem rvs_strs {K : Fg} {F : Hp} {p : As} : ∀ L : List Str, RVs K F p (L.map MV.str) (L.map V.str)
  | [] => rfl
  | x :: L => ⟨_, _, rfl, rfl, rvs_strs L⟩
theorem sortU_same {L M : List Str} (h : ∀ z, z ∈ L ↔ z ∈ M) : sortU L = sortU M := asc_eq (sortU_asc L) (sortU_asc M) fun z => by rw [sortU_mem, sortU_mem, h]
theorem insU_len (x : Str) : ∀ l : List Str, (insU x l).length ≤ l.length + 1
  | [] => Nat.le_refl _
  | y :: ys => by
    unfold insU
    split
    · exact Nat.le_succ _
    · split
      · exact Nat.le_refl _
      · exact Nat.succ_le_succ (insU_len x ys)
theorem sortU_len : ∀ l : List Str, (sortU l).length ≤ l.length
  | [] => Nat.le_refl _
  | x :: l => Nat.le_trans (insU_len x _) (Nat.succ_le_succ (sortU_len l))
section
variable {X : Cx} {W : WX} {el tg ita tb itb : Expr} {sc : Scope} {ow : List (PySem.Str × Nat)} {vs1 : List Nat} {pos : Pos} {mi i1 : MI} {g g1 : MG} {m : ME} {l l1 : List Nat}
theorem sc_in {ρ : L2.St} {D : Addr} {r1 : En} {S0 : So} {Fb F0 : Hp} {pb p0 : As} {Hb H0 : Hp} {J : It} {ys : List MV} {acc cs : List Str} {Sz : So} {L0 : List Str} {Nx : Hp → Prop}
    (hl1 : ∀ i ∈ l1, i ∈ vs1) (eb : Ext Fb pb Hb F0 p0 H0) (hD : Hb D = none) (hE : RE X.K F0 p0 r1 ρ) (hS : RS X.K F0 p0 S0 H0) (hJ : ItOk X.K F0 p0 H0 J ys) (hH : H0 D = some (TxO X.w D L0)) (hp : D ∉ p0) (hF : F0 D = none)
    (hm : ∀ z, z ∈ L0 ↔ z ∈ acc) (hlen : L0.length = acc.length) (hrun : scIn vs1 g1 m ys r1 S0 = .ok cs Sz) (hz : (acc ++ cs).length < 4000)
    (fin : ∀ F p H L, Ext Fb pb Hb F p H → Same F0 F → Px p0 p → RS X.K F p Sz H → H D = some (TxO X.w D L) → D ∉ p → F D = none → (∀ z, z ∈ L ↔ z ∈ acc ++ cs) → L.length = (acc ++ cs).length → Nx H) :
    ∃ W1 : Nat → Nat → Hp → Prop, (∃ m, W1 0 m H0) ∧ ∀ j k H, W1 j k H →
      (J.stop j H ∧ Nx H) ∨ (J.go j H ∧ ∃ Nx1 : Hp → Prop, (∀ H', Nx1 H' → ∃ k', k' < k ∧ W1 (j + 1) k' H') ∧ ∀ x H', J.yld j H x H' → tG X.K l1 g1 x (wipe ρ vs1) H' fun σ3 H5 => wipe σ3 vs1 = wipe ρ vs1 ∧ tT X.K W0 tYesM σ3 H5 fun b H6 =>
        if b = true then tE X.K W0 m σ3 H6 fun y H7 => ∃ (c : Str) (L : List Str), y = .str c ∧ H7 D = some (TxO X.w D L) ∧ L.length + 1 < scanBound ∧ Nx1 (upd H7 D (TxO X.w D (c :: L))) else Nx1 H6) := by
  refine ⟨fun j k H => ∃ S F p a L ds, k = ys.length - j ∧ j ≤ ys.length ∧ Ext Fb pb Hb F p H ∧ Same F0 F ∧ Px p0 p ∧ RS X.K F p S H ∧ H D = some (TxO X.w D L) ∧ D ∉ p ∧ F D = none ∧ (∀ z, z ∈ L ↔ z ∈ a) ∧ L.length = a.length ∧ scIn vs1 g1 m (ys.drop j) r1 S = .ok ds Sz ∧ a ++ ds = acc ++ cs,
    ⟨ys.length, S0, F0, p0, acc, L0, cs, rfl, Nat.zero_le _, eb, Same.refl _, Px.refl _, hS, hH, hp, hF, hm, hlen, hrun, rfl⟩, ?_⟩
  rintro j k H ⟨S, F, p, a, L, ds, rfl, hj, e, ef, ex, s, hH, hp, hF, hm, hlen, hrun, hy⟩
  by_cases hlt : j < ys.length
  · have hx : ys[j]? = some ys[j] := List.getElem?_eq_getElem hlt
    obtain ⟨hgo, hyl⟩ := (hJ F p H S ef ex s j).1 ys[j] hx
    refine .inr ⟨hgo, fun H' => ∃ S F p a L ds, j + 1 ≤ ys.length ∧ Ext Fb pb Hb F p H' ∧ Same F0 F ∧ Px p0 p ∧ RS X.K F p S H' ∧ H' D = some (TxO X.w D L) ∧ D ∉ p ∧ F D = none ∧ (∀ z, z ∈ L ↔ z ∈ a) ∧ L.length = a.length ∧ scIn vs1 g1 m (ys.drop (j + 1)) r1 S = .ok ds Sz ∧ a ++ ds = acc ++ cs,
      fun H' ⟨S, F, p, a, L, ds, a1, a2, b1, b2, a3, a4, a5, a6, a7, a8, a9, a10⟩ => ⟨ys.length - (j + 1), by omega, S, F, p, a, L, ds, rfl, a1, a2, b1, b2, a3, a4, a5, a6, a7, a8, a9, a10⟩, fun v H' y => ?_⟩
    obtain ⟨F1, e1, s1, lv⟩ := hyl v H' y
    rw [List.drop_eq_getElem_cons hlt] at hrun
    have hrun' : (match g1 ys[j] (wipeM r1 vs1) with
      | none => R.bad
      | some r2 => (nx (m r2 S)).bind fun y S => match y with
        | .str c => (scIn vs1 g1 m (ys.drop (j + 1)) r1 S).bind fun cs S => .ok (c :: cs) S
        | _ => .bad) = .ok ds Sz := hrun
    cases eg : g1 ys[j] (wipeM r1 vs1) with
    | none => rw [eg] at hrun'; cases hrun'
    | some r2 =>
      rw [eg] at hrun'
      simp only at hrun'
      obtain ⟨q, S2, q1, q2⟩ := nx_okv hrun'
      have E1 : RE X.K F1 p (wipeM r1 vs1) (wipe ρ vs1) := ((hE.mono ef ex).ext e1).wipes vs1
      refine ⟨ys[j], wipeM r1 vs1, S, F1, p, r2, E1, s1, lv, eg, fun σ2 E2 b2 => ⟨but_wipe b2 hl1, r2, S, F1, p, E2, s1, ?_⟩⟩
      intro F2 p2 H2 b' e2 s2 eb
      have eb' : true = b' := eb
      subst eb'
      obtain ⟨d1, d2, d3⟩ := e1.mine hH hp hF
      obtain ⟨d4, d5, d6⟩ := e2.mine d1 d2 d3
      refine iteT ⟨r2, S, F2, p2, E2.ext e2, s2, ?_⟩
      rw [q1]
      intro F3 p3 H3 w e3 s3 l3
      obtain ⟨d7, d8, d9⟩ := e3.mine d4 d5 d6
      cases q with
      | str c =>
        cases l3
        obtain ⟨cs2, S4, q3, q4⟩ := bind_okv q2
        cases q4
        have hz2 : (a ++ c :: cs2).length < 4000 := by rw [hy]; exact hz
        have hz3 : a.length + 1 < 4000 := by rw [List.length_append, List.length_cons] at hz2; omega
        have e13 := (e1.trans e2).trans e3
        refine ⟨c, L, rfl, d7, by rw [hlen]; exact Nat.lt_trans hz3 (by decide), S2, F3, p3, a ++ [c], c :: L, cs2, hlt, (e.trans e13).priv hD, ef.trans e13.f, ex.trans e13.x, s3.priv d9 d8, upd_same, d8, d9, fun z => ?_, by simp [hlen], q3, by simpa using hy⟩
        rw [List.mem_cons, List.mem_append, List.mem_singleton, hm z]
        exact Or.comm
      | _ => cases q2
  · have hge : ys.length ≤ j := Nat.le_of_not_lt hlt
    rw [List.drop_of_length_le hge] at hrun
    cases hrun
    rw [List.append_nil] at hy
    subst hy
    exact .inl ⟨(hJ F p H _ ef ex s j).2 hge, fin F p H L e ef ex s hH hp hF hm hlen⟩
theorem sc_rel {σ : L2.St} {H : Hp} {Q : VK} {vs : List Nat} (hl : ∀ i ∈ l, i ∈ vs) (hl1 : ∀ i ∈ l1, i ∈ vs1) (h : tE X.K W (mSortSet mi vs g i1 vs1 g1 m) σ H Q) :
    tSc2 X.w (tI X.K W mi) (tG X.K l g) (tT X.K W0 tYesM) (tI X.K W0 i1) (tG X.K l1 g1) (tT X.K W0 tYesM) (tE X.K W0 m) vs vs1 σ H (fun v H1 => rSortedT X.w [v] H1 Q) := by
  obtain ⟨r, S, F, p, hE, hS, h⟩ := h
  refine ⟨r, S, F, p, hE, hS, ?_⟩
  have h' : fine X.K (RV X.K) F p H σ W Q ((mi r S).bind fun xs S => match scOut vs g i1 vs1 g1 m xs r S with
    | .ok zs S => if zs.length < 4000 then .ok (.lst ((sortU zs).map MV.str)) S else .bad
    | _ => .bad) := h
  cases q : mi r S with
  | bad => rw [q] at h'; exact h'.elim
  | exc c x S1 => rw [q] at h'; exact h'
  | ok xs S1 =>
    rw [q] at h'
    simp only [R.bind_ok] at h'
    intro F0 p0 H0 J e0 hS0 hJ D hD
    cases q2 : scOut vs g i1 vs1 g1 m xs r S1 with
    | bad => rw [q2] at h'; exact h'.elim
    | exc c x S2 => rw [q2] at h'; exact h'.elim
    | ok zs Sz =>
      rw [q2] at h'
      simp only at h'
      split at h'
      · rename_i hz
        have nDp : D ∉ p0 := hS0.notIn hD
        have nDF : F0 D = none := hS0.free hD
        have hE0 := hE.ext e0
        refine ⟨fun i k H => ∃ S F p a L ds, k = xs.length - i ∧ i ≤ xs.length ∧ Ext F0 p0 H0 F p H ∧ RS X.K F p S H ∧ H D = some (TxO X.w D L) ∧ D ∉ p ∧ F D = none ∧ (∀ z, z ∈ L ↔ z ∈ a) ∧ L.length = a.length ∧ scOut vs g i1 vs1 g1 m (xs.drop i) r S = .ok ds Sz ∧ a ++ ds = zs,
          ⟨xs.length, S1, F0, p0, [], [], zs, rfl, Nat.zero_le _, (Ext.refl _ _ _).priv hD, hS0.priv nDF nDp, upd_same, nDp, nDF, fun _ => Iff.rfl, rfl, q2, rfl⟩, ?_⟩
        rintro i k H ⟨S, F, p, a, L, ds, rfl, hi, e, s, hH, hp, hF, hm, hlen, hrun, hy⟩
        by_cases hlt : i < xs.length
        · have hx : xs[i]? = some xs[i] := List.getElem?_eq_getElem hlt
          obtain ⟨hgo, hyl⟩ := (hJ F p H S e.f e.x s i).1 xs[i] hx
          refine .inr ⟨hgo, fun H' => ∃ S F p a L ds, i + 1 ≤ xs.length ∧ Ext F0 p0 H0 F p H' ∧ RS X.K F p S H' ∧ H' D = some (TxO X.w D L) ∧ D ∉ p ∧ F D = none ∧ (∀ z, z ∈ L ↔ z ∈ a) ∧ L.length = a.length ∧ scOut vs g i1 vs1 g1 m (xs.drop (i + 1)) r S = .ok ds Sz ∧ a ++ ds = zs,
            fun H' ⟨S, F, p, a, L, ds, a1, a2, a3, a4, a5, a6, a7, a8, a9, a10⟩ => ⟨xs.length - (i + 1), by omega, S, F, p, a, L, ds, rfl, a1, a2, a3, a4, a5, a6, a7, a8, a9, a10⟩, fun v H' y => ?_⟩
          obtain ⟨F1, e1, s1, lv⟩ := hyl v H' y
          rw [List.drop_eq_getElem_cons hlt] at hrun
          have hrun' : (match g xs[i] (wipeM r vs) with
            | none => R.bad
            | some r1 => (nx (i1 r1 S)).bind fun ys S => (scIn vs1 g1 m ys r1 S).bind fun cs S => (scOut vs g i1 vs1 g1 m (xs.drop (i + 1)) r S).bind fun ds S => .ok (cs ++ ds) S) = .ok ds Sz := hrun
          cases eg : g xs[i] (wipeM r vs) with
          | none => rw [eg] at hrun'; cases hrun'
          | some r1 =>
            rw [eg] at hrun'
            simp only at hrun'
            obtain ⟨ys, S2, w1, hrun2⟩ := nx_okv hrun'
            obtain ⟨cs, S3, w2, hrun3⟩ := bind_okv hrun2
            obtain ⟨ds2, S4, w3, w4⟩ := bind_okv hrun3
            cases w4
            have E1 : RE X.K F1 p (wipeM r vs) (wipe σ vs) := ((hE0.ext e).ext e1).wipes vs
            refine ⟨xs[i], wipeM r vs, S, F1, p, r1, E1, s1, lv, eg, fun σ2 E2 b2 => ⟨but_wipe b2 hl, r1, S, F1, p, E2, s1, ?_⟩⟩
            intro F2 p2 H2 b' e2 s2 eb
            have eb' : true = b' := eb
            subst eb'
            refine iteT ⟨r1, S, F2, p2, E2.ext e2, s2, ?_⟩
            rw [w1]
            intro F3 p3 H3 J1 e3 s3 hJ1
            have e13 := (e1.trans e2).trans e3
            obtain ⟨d1, d2, d3⟩ := e13.mine hH hp hF
            refine sc_in (Sz := S3) (acc := a) (cs := cs) hl1 (e.trans e13) hD ((E2.ext e2).ext e3) s3 hJ1 d1 d2 d3 hm hlen w2 ?_ fun F4 p4 H4 L4 e4 _ _ s4 k1 k2 k3 k4 k5 => ?_
            · have z := hz
              rw [← hy] at z
              simp only [List.length_append] at z ⊢
              omega
            · exact ⟨S3, F4, p4, a ++ cs, L4, ds2, hlt, e4, s4, k1, k2, k3, k4, k5, w3, by rw [← hy]; simp⟩
        · have hge : xs.length ≤ i := Nat.le_of_not_lt hlt
          rw [List.drop_of_length_le hge] at hrun
          cases hrun
          rw [List.append_nil] at hy
          subst hy
          have es : sortU L = sortU a := sortU_same hm
          have hzl : (sortU L).length ≤ sizeLine := Nat.le_trans (sortU_len L) (by rw [hlen]; exact Nat.le_trans (Nat.le_of_lt hz) (by decide))
          refine .inl ⟨(hJ F p H _ e.f e.x s i).2 hge, D, L, rfl, hH, hzl, fun P hP => ?_⟩
          refine h' _ _ _ _ ((e0.trans e).trans (s.frozenE hP)) (s.frozen hP) ⟨P, _, rfl, upd_same, by rw [List.length_map]; exact hzl, ?_⟩
          rw [es]
          exact rvs_strs _
      · exact h'.elim
theorem mp_sortSet {p2 cpos : Pos} (hc : X.calm = true) (hN : X.N.Nodup) (hgl : Gl X "sorted") (hmg : X.mg "sorted" = none) (hi : PIm X W tg ita mi) (ok : BlkOk X.N X.env.scope sc ow) (hv : ∀ i ∈ vs1, i ∈ ow.map (·.2)) (hl : ∀ i ∈ l, i ∈ ow.map (·.2)) (hl1 : ∀ i ∈ l1, i ∈ vs1)
    (hg : ∀ (s : Shared) (H : Hp) (C : Addr) (cl : List (PySem.Str × Addr)) (fp : List Addr), PGm (X.blk s H sc (compEnvC sc cl C X.env) fp) tg l g)
    (hi1 : ∀ (s : Shared) (H : Hp) (C : Addr) (cl : List (PySem.Str × Addr)) (fp : List Addr), PIm (X.blk s H sc (compEnvC sc cl C X.env) fp) W0 tb itb i1)
    (hg1 : ∀ (s : Shared) (H : Hp) (C : Addr) (cl : List (PySem.Str × Addr)) (fp : List Addr), PGm (X.blk s H sc (compEnvC sc cl C X.env) fp) tb l1 g1)
    (he : ∀ (s : Shared) (H : Hp) (C : Addr) (cl : List (PySem.Str × Addr)) (fp : List Addr), PEm (X.blk s H sc (compEnvC sc cl C X.env) fp) W0 el m)
    (hs : ∀ x, foldedSetIterable ita X.env x = pure x := by intro _; rfl) (hs1 : ∀ env x, foldedSetIterable itb env x = pure x := by intro _ _; rfl)
    (hst : starEach [(.SetComp el [⟨tg, ita, [], 0⟩, ⟨tb, itb, [], 0⟩] sc pos : Expr)] X.env = [(false, eval (.SetComp el [⟨tg, ita, [], 0⟩, ⟨tb, itb, [], 0⟩] sc pos) X.env)] := by rfl) :
    PEm X W (.Call (.Name "sorted" p2) [.SetComp el [⟨tg, ita, [], 0⟩, ⟨tb, itb, [], 0⟩] sc pos] [] cpos) (mSortSet mi (ow.map (·.2)) g i1 vs1 g1 m) :=
  pe_weak (pe_callB (cr_sortedT hc) hgl hmg (by decide +kernel) (pa_cons (pe_sc2 (vs1 := vs1) hc hN hi ok hv hg (fun _ _ _ _ _ => mt_nil) hi1 hg1 (fun _ _ _ _ _ => mt_nil) he hs hs1) pa_nil hst) (he := hst)) fun σ H Q h => sc_rel hl hl1 h
end
end Mi

set_option maxHeartbeats 4000000
namespace Mi
open PySem PySem.Spec PyProof.Rows L2
abbrev GA := List MV → So → R MV
def mBlt (g : GA) (ms : List ME) : ME := fun r S => (mArgs ms r S).bind g
/-- what g says, the rule takes -/
def CallOk (K : Fg) (W : WX) (g : GA) (r : List V → Hp → VK → Prop) : Prop := ∀ xs S F p vs H σ Q, RS K F p S H → RVs K F p xs vs → fine K (RV K) F p H σ W Q (g xs S) → r vs H Q
section
variable {X : Cx} {W : WX} {x : Str} {p pos : Pos} {e : Expr} {es : List Expr} {ms : List ME} {g g' : GA} {r r' : List V → Hp → VK → Prop} {id T : String}
theorem blt_weak {σ : L2.St} {H : Hp} {Q : VK} (i : CallOk X.K W g r) (h : tE X.K W (mBlt g ms) σ H Q) : tCB r (tA X.K W (mArgs ms)) σ H Q := by
  obtain ⟨en, S, F, p, hE, hS, h⟩ := h
  exact ⟨en, S, F, p, hE, hS, fine.bind h fun xs S1 F1 p1 H1 vs _ e1 s1 l1 h1 => i xs S1 F1 p1 vs H1 σ Q s1 l1 h1⟩
theorem mp_bi (hc : CallR X (.builtin id) r) (i : CallOk X.K W g r) (hg : Gl X x) (hm : X.mg x = none) (ha : PAm X W (e :: es) (mArgs ms)) (hv : bootBuiltins x = some (.builtin id) := by decide +kernel) (hn : x ≠ "__name__" := by decide) (hdb : (x == ("__debug__" : Str)) = false := by decide)
    (he : starEach (e :: es) X.env = (false, eval e X.env) :: starEach es X.env := by rfl) (hpl : (backTo pos (starEach es X.env)).any (·.1) = false := by rfl) : PEm X W (.Call (.Name x p) (e :: es) [] pos) (mBlt g ms) :=
  pe_weak (pe_callB hc hg hm hv ha hn hdb he hpl) fun _ _ _ h => blt_weak i h
theorem mp_ty (hc : CallR X (.type T) r) (i : CallOk X.K W g r) (hg : Gl X x) (hm : X.mg x = none) (ha : PAm X W (e :: es) (mArgs ms)) (hv : bootBuiltins x = some (.type T) := by decide +kernel) (hn : x ≠ "__name__" := by decide) (hdb : (x == ("__debug__" : Str)) = false := by decide)
    (he : starEach (e :: es) X.env = (false, eval e X.env) :: starEach es X.env := by rfl) (hpl : (backTo pos (starEach es X.env)).any (·.1) = false := by rfl) : PEm X W (.Call (.Name x p) (e :: es) [] pos) (mBlt g ms) :=
  pe_weak (pe_callTy hc hg hm hv ha hn hdb he hpl) fun _ _ _ h => blt_weak i h
def gaOr (g h : GA) : GA := fun xs S => match g xs S with
  | .bad => h xs S
  | r => r
theorem callR_or {f : Value} (h : CallR X f r) (h' : CallR X f r') : CallR X f (fun vs H Q => r vs H Q ∨ r' vs H Q) := fun pins s σ H vs us Q I rr q => q.elim (h pins s σ H vs us Q I rr) (h' pins s σ H vs us Q I rr)
theorem callOk_or {K : Fg} (h : CallOk K W g r) (h' : CallOk K W g' r') : CallOk K W (gaOr g g') (fun vs H Q => r vs H Q ∨ r' vs H Q) := fun xs S F p vs H σ Q hS l q => by
  unfold gaOr at q
  cases e : g xs S with
  | bad => rw [e] at q; exact .inr (h' xs S F p vs H σ Q hS l q)
  | ok z S' => exact .inl (h xs S F p vs H σ Q hS l (by rw [e] at q ⊢; exact q))
  | exc c z S' => exact .inl (h xs S F p vs H σ Q hS l (by rw [e] at q ⊢; exact q))
end
theorem rvs1 {K : Fg} {F : Hp} {p : As} {x : MV} {vs : List V} (l : RVs K F p [x] vs) : ∃ v, vs = [v] ∧ RV K F p x v := by
  obtain ⟨v, r, rfl, l1, l2⟩ := l
  cases l2
  exact ⟨v, rfl, l1⟩
theorem rvs2 {K : Fg} {F : Hp} {p : As} {x y : MV} {vs : List V} (l : RVs K F p [x, y] vs) : ∃ v w, vs = [v, w] ∧ RV K F p x v ∧ RV K F p y w := by
  obtain ⟨v, r, rfl, l1, l2⟩ := l
  obtain ⟨w, rfl, l3⟩ := rvs1 l2
  exact ⟨v, w, rfl, l1, l3⟩
def gAbs : GA := fun xs S => match xs with
  | [.int i] => .ok (.int (if i < 0 then -i else i)) S
  | _ => .bad
def gInt : GA := fun xs S => match xs with
  | [.int i] => .ok (.int i) S
  | [.bl b] => .ok (.int (if b then 1 else 0)) S
  | _ => .bad
def gBool : GA := fun xs S => match xs with
  | [.int i] => .ok (.bl (i != 0)) S
  | [.bl b] => .ok (.bl b) S
  | _ => .bad
def gMax : GA := fun xs S => match xs with
  | [.int i, .int j] => .ok (.int (if j > i then j else i)) S
  | _ => .bad
def gMin : GA := fun xs S => match xs with
  | [.int i, .int j] => .ok (.int (if j < i then j else i)) S
  | _ => .bad
section
variable {X : Cx} {W : WX} {p pos : Pos} {e e2 : Expr} {ms : List ME} {m m2 : ME}
theorem ok_abs {K : Fg} : CallOk K W gAbs (fun xs H Q => ∃ i, xs = [.int i] ∧ Q (.int (if i < 0 then -i else i)) H) := fun xs S F p vs H σ Q hS l q => by
  unfold gAbs at q
  split at q
  · obtain ⟨v, rfl, l1⟩ := rvs1 l
    cases l1
    exact ⟨_, rfl, fine.done q hS rfl⟩
  · exact q.elim
theorem ok_int {K : Fg} : CallOk K W gInt (fun xs H Q => (∃ i, xs = [.int i] ∧ Q (.int i) H) ∨ ∃ k, xs = [.bl k] ∧ Q (.int (if k then 1 else 0)) H) := fun xs S F p vs H σ Q hS l q => by
  unfold gInt at q
  split at q
  · obtain ⟨v, rfl, l1⟩ := rvs1 l
    cases l1
    exact .inl ⟨_, rfl, fine.done q hS rfl⟩
  · obtain ⟨v, rfl, l1⟩ := rvs1 l
    cases l1
    exact .inr ⟨_, rfl, fine.done q hS rfl⟩
  · exact q.elim
theorem ok_bool {K : Fg} : CallOk K W gBool (fun xs H Q => (∃ i, xs = [.int i] ∧ Q (.bl (i != 0)) H) ∨ ∃ k, xs = [.bl k] ∧ Q (.bl k) H) := fun xs S F p vs H σ Q hS l q => by
  unfold gBool at q
  split at q
  · obtain ⟨v, rfl, l1⟩ := rvs1 l
    cases l1
    exact .inl ⟨_, rfl, fine.done q hS rfl⟩
  · obtain ⟨v, rfl, l1⟩ := rvs1 l
    cases l1
    exact .inr ⟨_, rfl, fine.done q hS rfl⟩
  · exact q.elim
theorem ok_max {K : Fg} : CallOk K W gMax (fun xs H Q => ∃ i j, xs = [.int i, .int j] ∧ Q (.int (if j > i then j else i)) H) := fun xs S F p vs H σ Q hS l q => by
  unfold gMax at q
  split at q
  · obtain ⟨v, w, rfl, l1, l2⟩ := rvs2 l
    cases l1; cases l2
    exact ⟨_, _, rfl, fine.done q hS rfl⟩
  · exact q.elim
theorem ok_min {K : Fg} : CallOk K W gMin (fun xs H Q => ∃ i j, xs = [.int i, .int j] ∧ Q (.int (if j < i then j else i)) H) := fun xs S F p vs H σ Q hS l q => by
  unfold gMin at q
  split at q
  · obtain ⟨v, w, rfl, l1, l2⟩ := rvs2 l
    cases l1; cases l2
    exact ⟨_, _, rfl, fine.done q hS rfl⟩
  · exact q.elim
end
def gLen : GA := fun xs S => match xs with
  | [.str z] => if z.length ≤ SZ then .ok (.int z.length) S else .bad
  | [x] => match seqOf S x with
    | some ys => .ok (.int ys.length) S
    | none => .bad
  | _ => .bad
def gLenD : GA := fun xs S => match xs with
  | [.dic ks ys] => .ok (.int ks.length) S
  | [.ref n] => match S[n]? with
    | some (.dic ks ys) => .ok (.int ks.length) S
    | _ => .bad
  | _ => .bad
def gList : GA := fun xs S => match xs with
  | [x] => match seqOf S x with
    | some ys => .ok (.lst ys) S
    | none => .bad
  | _ => .bad
def gListM : GA := fun xs S => match xs with
  | [x] => match seqOf S x with
    | some ys => .ok (.ref S.length) (S ++ [.lst ys])
    | none => .bad
  | _ => .bad
def gTuple : GA := fun xs S => match xs with
  | [x] => match seqOf S x with
    | some ys => .ok (.tup ys) S
    | none => .bad
  | _ => .bad
def blsOf : List MV → Option (List Bool)
  | [] => some []
  | .bl b :: xs => (blsOf xs).map (b :: ·)
  | _ => none
def intsOf : List MV → Option (List Int)
  | [] => some []
  | .int b :: xs => (intsOf xs).map (b :: ·)
  | _ => none
def strsOf : List MV → Option (List Str)
  | [] => some []
  | .str b :: xs => (strsOf xs).map (b :: ·)
  | _ => none
def gAll : GA := fun xs S => match xs with
  | [x] => match pureSeq x with
    | some ys => if isTup x = true then .bad else match blsOf ys with
      | some bs => .ok (.bl (bs.all id)) S
      | none => .bad
    | none => .bad
  | _ => .bad
def gAny : GA := fun xs S => match xs with
  | [x] => match pureSeq x with
    | some ys => if isTup x = true then .bad else match blsOf ys with
      | some bs => .ok (.bl (bs.any id)) S
      | none => .bad
    | none => .bad
  | _ => .bad
def gSum : GA := fun xs S => match xs with
  | [x] => match pureSeq x with
    | some ys => if isTup x = true then .bad else match intsOf ys with
      | some bs => .ok (.int bs.sum) S
      | none => .bad
    | none => .bad
  | _ => .bad
section
variable {K : Fg} {F : Hp} {p : As}
theorem bls_rel : ∀ {ys : List MV} {vs : List V} {bs : List Bool}, RVs K F p ys vs → blsOf ys = some bs → vs = bs.map V.bl
  | [], _, _, l, e => by cases l; cases e; rfl
  | y :: ys, _, bs, l, e => by
    obtain ⟨v, r, rfl, l1, l2⟩ := l
    cases y with
    | bl b =>
      cases l1
      have e' : (blsOf ys).map (b :: ·) = some bs := e
      cases q : blsOf ys with
      | none => rw [q] at e'; cases e'
      | some cs => rw [q] at e'; cases e'; rw [bls_rel l2 q]; rfl
    | _ => cases e
theorem ints_rel : ∀ {ys : List MV} {vs : List V} {bs : List Int}, RVs K F p ys vs → intsOf ys = some bs → vs = bs.map V.int
  | [], _, _, l, e => by cases l; cases e; rfl
  | y :: ys, _, bs, l, e => by
    obtain ⟨v, r, rfl, l1, l2⟩ := l
    cases y with
    | int b =>
      cases l1
      have e' : (intsOf ys).map (b :: ·) = some bs := e
      cases q : intsOf ys with
      | none => rw [q] at e'; cases e'
      | some cs => rw [q] at e'; cases e'; rw [ints_rel l2 q]; rfl
    | _ => cases e
theorem strs_rel : ∀ {ys : List MV} {vs : List V} {bs : List Str}, RVs K F p ys vs → strsOf ys = some bs → vs = bs.map V.str
  | [], _, _, l, e => by cases l; cases e; rfl
  | y :: ys, _, bs, l, e => by
    obtain ⟨v, r, rfl, l1, l2⟩ := l
    cases y with
    | str b =>
      cases l1
      have e' : (strsOf ys).map (b :: ·) = some bs := e
      cases q : strsOf ys with
      | none => rw [q] at e'; cases e'
      | some cs => rw [q] at e'; cases e'; rw [strs_rel l2 q]; rfl
    | _ => cases e
end
section
variable {X : Cx} {W : WX} {K : Fg}
theorem fine_if {α β : Type} {L : Rl α β} {F : Hp} {p : As} {H : Hp} {σ : L2.St} {Q : β → Hp → Prop} {c : Prop} [Decidable c] {r : R α} (h : fine K L F p H σ W Q (if c then r else .bad)) : c ∧ fine K L F p H σ W Q r := by
  split at h
  · exact ⟨by assumption, h⟩
  · exact h.elim
theorem fine_seq {F : Hp} {p : As} {H : Hp} {σ : L2.St} {Q : VK} {S : So} {x : MV} {k : List MV → R MV} (h : fine K (RV K) F p H σ W Q (match seqOf S x with
    | some ys => k ys
    | none => .bad)) : ∃ ys, seqOf S x = some ys ∧ fine K (RV K) F p H σ W Q (k ys) := by
  split at h
  · exact ⟨_, by assumption, h⟩
  · exact h.elim
theorem ok_len : CallOk K W gLen (fun xs H Q => ∃ x n, xs = [x] ∧ LenV K x H n ∧ Q (.int n) H) := fun xs S F p vs H σ Q hS l q => by
  unfold gLen at q
  split at q
  · obtain ⟨v, rfl, l1⟩ := rvs1 l
    cases l1
    obtain ⟨hz, q⟩ := fine_if q
    exact ⟨_, _, rfl, ⟨by rw [← sz_line]; exact hz, rfl⟩, fine.done q hS rfl⟩
  · obtain ⟨v, rfl, l1⟩ := rvs1 l
    obtain ⟨ys, e, q⟩ := fine_seq q
    obtain ⟨a, us, rfl, h1, _, h2⟩ := seq_ok hS l1 e
    refine ⟨.ref a, ys.length, rfl, ?_, fine.done q hS rfl⟩
    rcases h1 with ⟨_, h1⟩ | ⟨_, h1⟩
    · exact .inl ⟨us, h1, h2.length.symm⟩
    · exact .inr ⟨us, h1, h2.length.symm⟩
  · exact q.elim
theorem ok_lenD : CallOk K W gLenD (fun xs H Q => ∃ a kvs, xs = [V.ref a] ∧ H a = some (.dK kvs) ∧ Q (.int kvs.length) H) := fun xs S F p vs H σ Q hS l q => by
  unfold gLenD at q
  split at q
  · obtain ⟨v, rfl, a, kvs, rfl, h1, h2, h3⟩ := rvs1 l
    refine ⟨a, kvs, rfl, hS.sub _ _ h1, ?_⟩
    have e : kvs.length = _ := (List.length_map _).symm.trans (congrArg List.length h2)
    rw [e]
    exact fine.done q hS rfl
  · obtain ⟨v, rfl, l1⟩ := rvs1 l
    split at q
    · rename_i n ks ys e
      obtain ⟨a, u, rfl, _, e3, hF, kvs, rfl, h2, h3⟩ := ref_at hS l1 e (by intro z; cases z)
      refine ⟨a, kvs, rfl, e3, ?_⟩
      have e : kvs.length = _ := (List.length_map _).symm.trans (congrArg List.length h2)
      rw [e]
      exact fine.done q hS rfl
    · exact q.elim
  · exact q.elim
theorem ok_list : CallOk K W gList (fun xs H Q => ∃ p ys, xs = [.ref p] ∧ (SqL K H p ys ∨ SqT K H p ys) ∧ ∀ l, H l = none → Q (.ref l) (upd H l (.lst ys))) := fun xs S F p vs H σ Q hS l q => by
  unfold gList at q
  split at q
  · obtain ⟨v, rfl, l1⟩ := rvs1 l
    obtain ⟨ys, e, q⟩ := fine_seq q
    obtain ⟨a, us, rfl, h1, hz, h2⟩ := seq_ok hS l1 e
    refine ⟨a, us, rfl, h1.imp And.right And.right, fun l hl => q _ _ _ _ (hS.frozenE hl) (hS.frozen hl) ⟨l, us, rfl, upd_same, hz, RVs.mono (Same.updF (hS.free hl)) (Px.refl _) _ h2⟩⟩
  · exact q.elim
theorem ok_listM : CallOk K W gListM (fun xs H Q => ∃ p ys, xs = [.ref p] ∧ (SqL K H p ys ∨ SqT K H p ys) ∧ ∀ l, H l = none → Q (.ref l) (upd H l (.lst ys))) := fun xs S F p vs H σ Q hS l q => by
  unfold gListM at q
  split at q
  · obtain ⟨v, rfl, l1⟩ := rvs1 l
    obtain ⟨ys, e, q⟩ := fine_seq q
    obtain ⟨a, us, rfl, h1, hz, h2⟩ := seq_ok hS l1 e
    refine ⟨a, us, rfl, h1.imp And.right And.right, fun l hl => q _ _ _ _ (hS.freshE hl) (hS.fresh hl ⟨us, rfl, hz, h2⟩) ⟨l, rfl, hS.refAt⟩⟩
  · exact q.elim
theorem tup_self {F : Hp} {p : As} {S : So} {x : MV} {v : V} {ys : List MV} (l : RV K F p x v) (e : seqOf S x = some ys) (ht : isTup x = true) : RV K F p (.tup ys) v := by
  cases x with
  | tup zs => cases e; exact l
  | _ => cases ht
theorem ok_tuple : CallOk K W gTuple (fun xs H Q => ∃ p ys, xs = [.ref p] ∧ ((SqL K H p ys ∧ ∀ l, H l = none → Q (.ref l) (upd H l (.tup ys))) ∨ (SqT K H p ys ∧ Q (.ref p) H))) := fun xs S F p vs H σ Q hS l q => by
  unfold gTuple at q
  split at q
  · obtain ⟨v, rfl, l1⟩ := rvs1 l
    obtain ⟨ys, e, q⟩ := fine_seq q
    obtain ⟨a, us, rfl, h1, hz, h2⟩ := seq_ok hS l1 e
    refine ⟨a, us, rfl, ?_⟩
    rcases h1 with ⟨_, h1⟩ | ⟨ht, h1⟩
    · exact .inl ⟨h1, fun l hl => q _ _ _ _ (hS.frozenE hl) (hS.frozen hl) ⟨l, us, rfl, .inl (.inl upd_same), hz, RVs.mono (Same.updF (hS.free hl)) (Px.refl _) _ h2⟩⟩
    · refine .inr ⟨h1, ?_⟩
      exact fine.done q hS (tup_self l1 e ht)
  · exact q.elim
theorem pure_l {F : Hp} {p : As} {S : So} {H : Hp} {x : MV} {v : V} {ys : List MV} (hS : RS K F p S H) (l : RV K F p x v) (h : pureSeq x = some ys) (ht : ¬ isTup x = true) : ∃ a us, v = .ref a ∧ SqL K H a us ∧ us.length ≤ sizeLine ∧ RVs K F p ys us := by
  obtain ⟨a, us, rfl, hz, l2, h3⟩ := pure_at l h
  rcases h3 with ⟨_, h4⟩ | ⟨h3, _⟩
  · exact ⟨a, us, rfl, h4 F H (Same.refl _) hS.sub, hz, l2⟩
  · exact absurd h3 ht
theorem ok_all : CallOk K W gAll (rAll K) := fun xs S F p vs H σ Q hS l q => by
  unfold gAll at q
  split at q
  · obtain ⟨v, rfl, l1⟩ := rvs1 l
    split at q
    · rename_i x ys e
      split at q
      · exact q.elim
      · rename_i ht
        split at q
        · rename_i bs e2
          obtain ⟨a, us, rfl, h1, _, h2⟩ := pure_l hS l1 e ht
          rw [bls_rel h2 e2] at h1
          exact ⟨a, bs, rfl, h1, fine.done q hS rfl⟩
        · exact q.elim
    · exact q.elim
  · exact q.elim
theorem ok_any : CallOk K W gAny (rAny K) := fun xs S F p vs H σ Q hS l q => by
  unfold gAny at q
  split at q
  · obtain ⟨v, rfl, l1⟩ := rvs1 l
    split at q
    · rename_i x ys e
      split at q
      · exact q.elim
      · rename_i ht
        split at q
        · rename_i bs e2
          obtain ⟨a, us, rfl, h1, _, h2⟩ := pure_l hS l1 e ht
          rw [bls_rel h2 e2] at h1
          exact ⟨a, bs, rfl, h1, fine.done q hS rfl⟩
        · exact q.elim
    · exact q.elim
  · exact q.elim
theorem ok_sum : CallOk K W gSum (rSum K) := fun xs S F p vs H σ Q hS l q => by
  unfold gSum at q
  split at q
  · obtain ⟨v, rfl, l1⟩ := rvs1 l
    split at q
    · rename_i x ys e
      split at q
      · exact q.elim
      · rename_i ht
        split at q
        · rename_i bs e2
          obtain ⟨a, us, rfl, h1, _, h2⟩ := pure_l hS l1 e ht
          rw [ints_rel h2 e2] at h1
          exact ⟨a, bs, rfl, h1, fine.done q hS rfl⟩
        · exact q.elim
    · exact q.elim
  · exact q.elim
end
end Mi

set_option maxHeartbeats 4000000
namespace Mi
open PySem PySem.Spec PyProof.Rows L2
def allSome {α : Type} : List (Option α) → Option (List α)
  | [] => some []
  | none :: _ => none
  | some x :: xs => (allSome xs).map (x :: ·)
def toD : Nat → So → MV → Option PyData
  | 0, _, _ => none
  | k + 1, S, x => match x with
    | .non => some .none
    | .bl b => some (.bool b)
    | .int i => some (.int i)
    | .str z => some (.str z)
    | .tup xs => (allSome (xs.map (toD k S))).map .tuple
    | .lst xs => (allSome (xs.map (toD k S))).map .list
    | .scr xs => (allSome (xs.map (toD k S))).map .list
    | .ref n => match S[n]? with
      | some (.lst xs) => (allSome (xs.map (toD k S))).map .list
      | _ => none
    | _ => none
section
variable {K : Fg} {F H : Hp} {p : As} {S : So}
theorem dps_of {k : Nat} (hS : RS K F p S H) (ih : ∀ {x : MV} {v : V} {d : PyData}, RV K F p x v → toD k S x = some d → Dp K H v d) : ∀ {xs : List MV} {vs : List V} {ds : List PyData}, RVs K F p xs vs → allSome (xs.map (toD k S)) = some ds → DpAll K H vs ds
  | [], _, _, l, e => by cases l; cases e; exact .nil
  | x :: xs, _, ds, l, e => by
    obtain ⟨v, r, rfl, l1, l2⟩ := l
    have e' : allSome (toD k S x :: xs.map (toD k S)) = some ds := e
    cases q : toD k S x with
    | none => rw [q] at e'; cases e'
    | some d =>
      rw [q] at e'
      have e2 : (allSome (xs.map (toD k S))).map (d :: ·) = some ds := e'
      cases q2 : allSome (xs.map (toD k S)) with
      | none => rw [q2] at e2; cases e2
      | some es =>
        rw [q2] at e2
        cases e2
        exact .cons (ih l1 q) (dps_of hS ih l2 q2)
theorem map_some {α β : Type} {f : α → β} {o : Option α} {y : β} (h : o.map f = some y) : ∃ x, o = some x ∧ y = f x := by
  cases o with
  | none => cases h
  | some x => cases h; exact ⟨x, rfl, rfl⟩
theorem dp_of (hS : RS K F p S H) : ∀ {k : Nat} {x : MV} {v : V} {d : PyData}, RV K F p x v → toD k S x = some d → Dp K H v d
  | 0, _, _, _, _, e => by cases e
  | k + 1, x, v, d, l, e => by
    cases x with
    | non => cases l; cases e; exact .non
    | bl b => cases l; cases e; exact .bl b
    | int i => cases l; cases e; exact .int i
    | str z => cases l; cases e; exact .str z
    | tup xs =>
      obtain ⟨ds, e1, rfl⟩ := map_some (show (allSome (xs.map (toD k S))).map .tuple = some d from e)
      obtain ⟨a, us, rfl, h1, hz, h2⟩ := l
      exact .tup (Same.seqT hS.sub h1) (dps_of hS (dp_of hS) h2 e1)
    | lst xs =>
      obtain ⟨ds, e1, rfl⟩ := map_some (show (allSome (xs.map (toD k S))).map .list = some d from e)
      obtain ⟨a, us, rfl, h1, hz, h2⟩ := l
      exact .lst (SqL.of (hS.sub _ _ h1)) (dps_of hS (dp_of hS) h2 e1)
    | scr xs =>
      obtain ⟨ds, e1, rfl⟩ := map_some (show (allSome (xs.map (toD k S))).map .list = some d from e)
      obtain ⟨a, us, rfl, h1, hz, h2⟩ := l
      exact .lst (Same.seq hS.sub h1) (dps_of hS (dp_of hS) h2 e1)
    | ref n =>
      have e' : (match S[n]? with
        | some (.lst xs) => (allSome (xs.map (toD k S))).map .list
        | _ => none) = some d := e
      split at e'
      · rename_i xs e0
        obtain ⟨ds, e1, rfl⟩ := map_some e'
        obtain ⟨a, u, rfl, _, e2, _, vs, rfl, _, h3⟩ := ref_at hS l e0 (by intro z; cases z)
        exact .lst (SqL.of e2) (dps_of hS (dp_of hS) h3 e1)
      · cases e'
    | _ => cases e
end
abbrev DF0 : Nat := 12
def gEqD : G2 := fun x y S => match toD DF0 S x, toD DF0 S y with
  | some d, some e => if SeqAt.shaped d = true ∧ SeqAt.shaped e = true then .ok (.bl (PyData.eqv d e)) S else .bad
  | _, _ => .bad
def gNeD : G2 := fun x y S => match toD DF0 S x, toD DF0 S y with
  | some d, some e => if SeqAt.shaped d = true ∧ SeqAt.shaped e = true then .ok (.bl (!PyData.eqv d e)) S else .bad
  | _, _ => .bad
def gScal : MV → MV → Option Bool
  | .int i, .int j => some (decide (i = j))
  | .str i, .str j => some (decide (i = j))
  | .bl i, .bl j => some (decide (i = j))
  | .non, .non => some true
  | .non, .int _ => some false
  | .int _, .non => some false
  | _, _ => none
def gEqS : G2 := fun x y S => match gScal x y with
  | some b => .ok (.bl b) S
  | none => .bad
def gNeS : G2 := fun x y S => match gScal x y with
  | some b => .ok (.bl (!b)) S
  | none => .bad
section
variable {X : Cx} {W : WX}
theorem gScal_rel {K : Fg} {F : Hp} {p : As} {x y : MV} {v w : V} {b : Bool} (l1 : RV K F p x v) (l2 : RV K F p y w) (h : gScal x y = some b) : scal v w = true ∧ decide (v = w) = b := by
  unfold gScal at h
  split at h
  · cases l1; cases l2; cases h; exact ⟨rfl, by simp⟩
  · cases l1; cases l2; cases h; exact ⟨rfl, by simp⟩
  · cases l1; cases l2; cases h; exact ⟨rfl, by simp⟩
  · cases l1; cases l2; cases h; exact ⟨rfl, by simp⟩
  · cases l1; cases l2; cases h; exact ⟨rfl, by simp⟩
  · cases l1; cases l2; cases h; exact ⟨rfl, by simp⟩
  · cases h
theorem om_eqS : OpM X W (compareOp .Eq) gEqS := om_of op_eq fun x y S F p v w H σ Q hS l1 l2 h => by
  unfold gEqS at h
  cases e : gScal x y with
  | none => rw [e] at h; exact h.elim
  | some b =>
    rw [e] at h
    obtain ⟨h1, h2⟩ := gScal_rel l1 l2 e
    exact ⟨h1, by rw [h2]; exact fine.done h hS rfl⟩
theorem om_neS : OpM X W (compareOp .NotEq) gNeS := om_of op_ne fun x y S F p v w H σ Q hS l1 l2 h => by
  unfold gNeS at h
  cases e : gScal x y with
  | none => rw [e] at h; exact h.elim
  | some b =>
    rw [e] at h
    obtain ⟨h1, h2⟩ := gScal_rel l1 l2 e
    exact ⟨h1, by rw [h2]; exact fine.done h hS rfl⟩
theorem om_eqD (hu : X.A.units + 64 < cLine) : OpM X W (compareOp .Eq) gEqD := om_of (op_eqD hu) fun x y S F p v w H σ Q hS l1 l2 h => by
  unfold gEqD at h
  split at h
  · rename_i d e e1 e2
    obtain ⟨⟨h1, h2⟩, h⟩ := fine_if h
    exact ⟨d, e, dp_of hS l1 e1, dp_of hS l2 e2, h1, h2, fine.done h hS rfl⟩
  · exact h.elim
theorem om_neD (hu : X.A.units + 64 < cLine) : OpM X W (compareOp .NotEq) gNeD := om_of (op_neD hu) fun x y S F p v w H σ Q hS l1 l2 h => by
  unfold gNeD at h
  split at h
  · rename_i d e e1 e2
    obtain ⟨⟨h1, h2⟩, h⟩ := fine_if h
    exact ⟨d, e, dp_of hS l1 e1, dp_of hS l2 e2, h1, h2, fine.done h hS rfl⟩
  · exact h.elim
end
def okShow (d : PyData) : Bool := d.showable && !d.hasDict && decide (d.depth ≤ 60) && decide (d.shown.length ≤ SZ)
def gRepr : GA := fun xs S => match xs with
  | [.int i] => if i.natAbs.log2 < 1920 then .ok (.str (toString i)) S else .bad
  | [.non] => .ok (.str "None") S
  | [.bl b] => .ok (.str (if b then "True" else "False")) S
  | [x] => match toD DF0 S x with
    | some (.list ds) => if okShow (.list ds) = true then .ok (.str (PyData.shown (.list ds))) S else .bad
    | some (.tuple ds) => if okShow (.tuple ds) = true then .ok (.str (PyData.shown (.tuple ds))) S else .bad
    | _ => .bad
  | _ => .bad
def rRepr (K : Fg) : List V → Hp → VK → Prop := fun xs H Q => (∃ i, xs = [.int i] ∧ i.natAbs.log2 < 1920 ∧ Q (.str (toString i)) H) ∨ (∃ a d, xs = [.ref a] ∧ Dp K H (.ref a) d ∧ okShow d = true ∧ Q (.str d.shown) H) ∨ (xs = [.non] ∧ Q (.str "None") H) ∨ ∃ b, xs = [.bl b] ∧ Q (.str (if b then "True" else "False")) H
section
variable {X : Cx} {W : WX}
theorem callR_repr (hgd : X.A.guards = some []) (hu : X.A.units + 64 < cLine) : CallR X (.builtin "repr") (rRepr X.K) := by
  intro pins s σ H xs us Q I r h
  rcases h with h | ⟨a, d, rfl, hd, ok, q⟩ | ⟨rfl, q⟩ | ⟨b, rfl, q⟩
  rotate_left 2
  · obtain ⟨u, rfl, ru⟩ := vals1 r
    cases ru
    exact PySem.P.repr_of_none ⟨.str _, H, I.tok _, ⟨_, rfl⟩, q⟩
  · obtain ⟨u, rfl, ru⟩ := vals1 r
    cases ru
    exact PySem.P.repr_of_bool ⟨.str _, H, I.tok _, ⟨_, rfl⟩, by cases b <;> exact q⟩
  · exact SkE.call_repr_int pins s σ H xs us Q I r h
  · obtain ⟨u, rfl, ru⟩ := vals1 r
    cases ru
    obtain ⟨as, rd⟩ := Dp.reads I d _ _ hd (show RelV (V.ref a) (Value.ref a) from rfl)
    unfold okShow at ok
    obtain ⟨ok, h4⟩ := Bool.and_eq_true_iff.mp ok
    obtain ⟨ok, h3⟩ := Bool.and_eq_true_iff.mp ok
    obtain ⟨h1, h2⟩ := Bool.and_eq_true_iff.mp ok
    have h3' := of_decide_eq_true h3
    exact repr_of_reads' rd h1 (PyData.noDict_hsm (by simpa using h2)) hgd (by omega) (fun _ _ e => e) (fun h' u tk hk => ⟨.str d.shown, H, I.kept (t' := tk) hk, ⟨u, rfl⟩, q⟩) (by rw [← sz_line]; exact of_decide_eq_true h4)
theorem ok_repr {K : Fg} : CallOk K W gRepr (rRepr K) := fun xs S F p vs H σ Q hS l q => by
  unfold gRepr at q
  split at q
  · obtain ⟨v, rfl, l1⟩ := rvs1 l
    cases l1
    obtain ⟨hz, q⟩ := fine_if q
    exact .inl ⟨_, rfl, hz, fine.done q hS rfl⟩
  · obtain ⟨v, rfl, l1⟩ := rvs1 l
    cases l1
    exact .inr (.inr (.inl ⟨rfl, fine.done q hS rfl⟩))
  · obtain ⟨v, rfl, l1⟩ := rvs1 l
    cases l1
    exact .inr (.inr (.inr ⟨_, rfl, fine.done q hS rfl⟩))
  · obtain ⟨v, rfl, l1⟩ := rvs1 l
    split at q
    · rename_i ds e
      obtain ⟨hz, q⟩ := fine_if q
      have hd := dp_of hS l1 e
      cases hd with
      | lst h1 h2 => exact .inr (.inl ⟨_, _, rfl, .lst h1 h2, hz, fine.done q hS rfl⟩)
    · rename_i ds e
      obtain ⟨hz, q⟩ := fine_if q
      have hd := dp_of hS l1 e
      cases hd with
      | tup h1 h2 => exact .inr (.inl ⟨_, _, rfl, .tup h1 h2, hz, fine.done q hS rfl⟩)
    · exact q.elim
  · exact q.elim
end
end Mi

set_option maxHeartbeats 4000000
namespace Mi
open PySem PySem.Spec PyProof.Rows L2
def lstOf (S : So) : MV → Option (List MV)
  | .lst xs => some xs
  | .ref n => match S[n]? with
    | some (.lst xs) => some xs
    | _ => none
  | _ => none
def gAddS : G2 := fun x y S => match x, y with
  | .str i, .str j => if i.length + j.length ≤ SZ then .ok (.str (i ++ j)) S else .bad
  | _, _ => .bad
def gCat : G2 := fun x y S => match lstOf S x, lstOf S y with
  | some xs, some ys => if xs.length + ys.length ≤ SZ then .ok (.lst (xs ++ ys)) S else .bad
  | _, _ => .bad
def gCatM : G2 := fun x y S => match lstOf S x, lstOf S y with
  | some xs, some ys => if xs.length + ys.length ≤ SZ then .ok (.ref S.length) (S ++ [.lst (xs ++ ys)]) else .bad
  | _, _ => .bad
def gCatT : G2 := fun x y S => match x, y with
  | .tup xs, .tup ys => if xs.length + ys.length ≤ SZ then .ok (.tup (xs ++ ys)) S else .bad
  | _, _ => .bad
section
variable {X : Cx} {W : WX}
theorem lst_ok {K : Fg} {F H : Hp} {p : As} {S : So} {x : MV} {v : V} {xs : List MV} (hS : RS K F p S H) (l : RV K F p x v) (h : lstOf S x = some xs) : ∃ a vs, v = .ref a ∧ H a = some (.lst vs) ∧ vs.length ≤ sizeLine ∧ RVs K F p xs vs := by
  cases x with
  | lst ys =>
    cases h
    obtain ⟨a, vs, e, h1, h2, h3⟩ := l
    exact ⟨a, vs, e, hS.sub _ _ h1, h2, h3⟩
  | ref n =>
    unfold lstOf at h
    simp only at h
    split at h
    · rename_i ys e
      cases h
      obtain ⟨a, u, e1, _, e2, _, vs, rfl, h2, h3⟩ := ref_at hS l e (by intro z; cases z)
      exact ⟨a, vs, e1, e2, h2, h3⟩
    · cases h
  | _ => cases h
theorem om_addS : OpM X W (binaryOp .Add) gAddS := om_of op_add_str fun x y S F p v w H σ Q hS l1 l2 h => by
  unfold gAddS at h
  split at h
  · cases l1; cases l2
    obtain ⟨hz, h⟩ := fine_if h
    exact ⟨_, _, rfl, rfl, by rw [← sz_line]; exact hz, fine.done h hS rfl⟩
  · exact h.elim
theorem om_cat : OpM X W (binaryOp .Add) gCat := om_of op_cat fun x y S F p v w H σ Q hS l1 l2 h => by
  unfold gCat at h
  split at h
  · rename_i xs ys e1 e2
    obtain ⟨hz, h⟩ := fine_if h
    obtain ⟨a, vs, rfl, h1, _, h2⟩ := lst_ok hS l1 e1
    obtain ⟨b, ws, rfl, h3, _, h4⟩ := lst_ok hS l2 e2
    have hz' : vs.length + ws.length ≤ sizeLine := by rw [h2.length, h4.length, ← sz_line]; exact hz
    exact ⟨a, b, vs, ws, rfl, rfl, h1, h3, hz', fun q hq => h _ _ _ _ (hS.frozenE hq) (hS.frozen hq) ⟨q, _, rfl, upd_same, by rw [List.length_append]; exact hz', RVs.mono (Same.updF (hS.free hq)) (Px.refl _) _ (h2.app h4)⟩⟩
  · exact h.elim
theorem om_catM : OpM X W (binaryOp .Add) gCatM := om_of op_cat fun x y S F p v w H σ Q hS l1 l2 h => by
  unfold gCatM at h
  split at h
  · rename_i xs ys e1 e2
    obtain ⟨hz, h⟩ := fine_if h
    obtain ⟨a, vs, rfl, h1, _, h2⟩ := lst_ok hS l1 e1
    obtain ⟨b, ws, rfl, h3, _, h4⟩ := lst_ok hS l2 e2
    have hz' : vs.length + ws.length ≤ sizeLine := by rw [h2.length, h4.length, ← sz_line]; exact hz
    exact ⟨a, b, vs, ws, rfl, rfl, h1, h3, hz', fun q hq => h _ _ _ _ (hS.freshE hq) (hS.fresh hq ⟨_, rfl, by rw [List.length_append]; exact hz', h2.app h4⟩) ⟨q, rfl, hS.refAt⟩⟩
  · exact h.elim
theorem om_catT : OpM X W (binaryOp .Add) gCatT := om_of op_catA fun x y S F p v w H σ Q hS l1 l2 h => by
  unfold gCatT at h
  split at h
  · rename_i xs ys
    obtain ⟨hz, h⟩ := fine_if h
    obtain ⟨a, vs, rfl, h1, z1, h2⟩ := l1
    obtain ⟨b, ws, rfl, h3, z2, h4⟩ := l2
    have hz' : vs.length + ws.length ≤ sizeLine := by rw [h2.length, h4.length, ← sz_line]; exact hz
    refine ⟨a, b, vs, ws, rfl, rfl, Same.seqT hS.sub h1, Same.seqT hS.sub h3, hz', fun e => ?_, fun _ e => ?_, fun _ _ q hq => h _ _ _ _ (hS.frozenE hq) (hS.frozen hq) ⟨q, _, rfl, .inl (.inl upd_same), by rw [List.length_append]; exact hz', RVs.mono (Same.updF (hS.free hq)) (Px.refl _) _ (h2.app h4)⟩⟩
    · have := h2.app h4
      rw [e, List.nil_append] at this
      exact fine.done h hS ⟨b, ws, rfl, h3, z2, this⟩
    · have := h2.app h4
      rw [e, List.append_nil] at this
      exact fine.done h hS ⟨a, vs, rfl, h1, z1, this⟩
  · exact h.elim
end
def gInSign : G2 := fun x y S => match x, y with
  | .str c, .str z => match c.cps.toList with
    | [k] => .ok (.bl (decide (k ∈ z.cps.toList))) S
    | _ => .bad
  | _, _ => .bad
def gStrC (f : Str → Str → Bool) : G2 := fun x y S => match x, y with
  | .str i, .str j => .ok (.bl (f i j)) S
  | _, _ => .bad
abbrev ltT (i j : Str) : Bool := decide (i.cps.toList < j.cps.toList)
section
variable {X : Cx} {W : WX}
theorem om_inSign : OpM X W (compareOp .In) gInSign := om_of op_in_sign fun x y S F p v w H σ Q hS l1 l2 h => by
  unfold gInSign at h
  split at h
  · rename_i c z
    cases l1; cases l2
    split at h
    · rename_i k e
      have ec : c = ⟨#[k]⟩ := by
        cases c with
        | mk a => exact congrArg Str.mk (Array.toList_inj.mp e)
      subst ec
      exact ⟨k, z, rfl, rfl, fine.done h hS rfl⟩
    · exact h.elim
  · exact h.elim
theorem om_strC {op : CmpOp} {f : Str → Str → Bool} (ho : OpR X (compareOp op) (fun x y H Q => ∃ i j, x = .str i ∧ y = .str j ∧ Q (.bl (f i j)) H)) : OpM X W (compareOp op) (gStrC f) := om_of ho fun x y S F p v w H σ Q hS l1 l2 h => by
  unfold gStrC at h
  split at h
  · cases l1; cases l2
    exact ⟨_, _, rfl, rfl, fine.done h hS rfl⟩
  · exact h.elim
theorem om_ltS : OpM X W (compareOp .Lt) (gStrC ltT) := om_strC op_lt_str
theorem om_gtS : OpM X W (compareOp .Gt) (gStrC fun i j => ltT j i) := om_strC op_gt_str
end
def isNon : MV → Bool
  | .non => true
  | _ => false
def gIsN : G2 := fun x y S => match y with
  | .non => .ok (.bl (isNon x)) S
  | _ => .bad
def gIsNotN : G2 := fun x y S => match y with
  | .non => .ok (.bl (!isNon x)) S
  | _ => .bad
theorem isNon_rel {K : Fg} {F : Hp} {p : As} {x : MV} {v : V} (l : RV K F p x v) : decide (v = .non) = isNon x := by
  cases x with
  | non => cases l; rfl
  | bl b => cases l; rfl
  | int b => cases l; rfl
  | str b => cases l; rfl
  | tup b => obtain ⟨a, _, rfl, _⟩ := l; rfl
  | lst b => obtain ⟨a, _, rfl, _⟩ := l; rfl
  | scr b => obtain ⟨a, _, rfl, _⟩ := l; rfl
  | dic k b => obtain ⟨a, _, rfl, _⟩ := l; rfl
  | obj c n b => obtain ⟨a, _, _, rfl, _⟩ := l; rfl
  | ref n => obtain ⟨a, rfl, _⟩ := l; rfl
section
variable {X : Cx} {W : WX}
theorem om_isN : OpM X W (compareOp .Is) gIsN := om_of op_isN fun x y S F p v w H σ Q hS l1 l2 h => by
  unfold gIsN at h
  split at h
  · cases l2
    exact ⟨rfl, by rw [isNon_rel l1]; exact fine.done h hS rfl⟩
  · exact h.elim
theorem om_isNotN : OpM X W (compareOp .IsNot) gIsNotN := om_of op_notN fun x y S F p v w H σ Q hS l1 l2 h => by
  unfold gIsNotN at h
  split at h
  · cases l2
    exact ⟨rfl, by rw [isNon_rel l1]; exact fine.done h hS rfl⟩
  · exact h.elim
end
def keyM : MV → Option Key
  | .int i => some (.inl i)
  | .str z => some (.inr z)
  | _ => none
def dicOf (S : So) : MV → Option (List Key × List MV)
  | .dic ks xs => some (ks, xs)
  | .ref n => match S[n]? with
    | some (.dic ks xs) => some (ks, xs)
    | _ => none
  | _ => none
def lookK (k : Key) : List Key → List MV → Option MV
  | c :: ks, x :: xs => if c = k then some x else lookK k ks xs
  | _, _ => none
def inK (k : Key) (ks : List Key) : Bool := ks.any fun c => decide (c = k)
def gDGet : G2 := fun d i S => match dicOf S d, keyM i with
  | some (ks, xs), some k => match lookK k ks xs with
    | some y => .ok y S
    | none => .bad
  | _, _ => .bad
def gDIn : G2 := fun i d S => match dicOf S d, keyM i with
  | some (ks, xs), some k => .ok (.bl (inK k ks)) S
  | _, _ => .bad
def gDNotIn : G2 := fun i d S => match dicOf S d, keyM i with
  | some (ks, xs), some k => .ok (.bl (!inK k ks)) S
  | _, _ => .bad
section
variable {K : Fg} {F H : Hp} {p : As} {S : So}
theorem key_rel {x : MV} {v : V} {k : Key} (l : RV K F p x v) (h : keyM x = some k) : v = kV k := by
  cases x with
  | int i => cases l; cases h; rfl
  | str i => cases l; cases h; rfl
  | _ => cases h
theorem dic_ok {x : MV} {v : V} {ks : List Key} {xs : List MV} (hS : RS K F p S H) (l : RV K F p x v) (h : dicOf S x = some (ks, xs)) : ∃ a kvs, v = .ref a ∧ H a = some (.dK kvs) ∧ kvs.map (·.1) = ks ∧ RVs K F p xs (kvs.map (·.2)) := by
  cases x with
  | dic ls ys =>
    cases h
    obtain ⟨a, kvs, e, h1, h2, h3⟩ := l
    exact ⟨a, kvs, e, hS.sub _ _ h1, h2, h3⟩
  | ref n =>
    unfold dicOf at h
    simp only at h
    split at h
    · rename_i ls ys e
      cases h
      obtain ⟨a, u, e1, _, e2, _, kvs, rfl, h2, h3⟩ := ref_at hS l e (by intro z; cases z)
      exact ⟨a, kvs, e1, e2, h2, h3⟩
    · cases h
  | _ => cases h
theorem lookK_rel {k : Key} {y : MV} : ∀ {kvs : List (Key × V)} {ks : List Key} {xs : List MV}, kvs.map (·.1) = ks → RVs K F p xs (kvs.map (·.2)) → lookK k ks xs = some y → ∃ v, valV kvs k = some v ∧ RV K F p y v
  | [], _, _, h, _, e => by subst h; cases e
  | (c, w) :: fs, _, [], h, l, _ => by
    have := l.length
    simp at this
  | (c, w) :: fs, _, x :: xs, h, l, e => by
    subst h
    obtain ⟨u, r, e2, l1, l2⟩ := l
    have e3 : w = u ∧ fs.map (·.2) = r := by simpa using e2
    obtain ⟨rfl, rfl⟩ := e3
    have e' : (if c = k then some x else lookK k (fs.map (·.1)) xs) = some y := e
    unfold valV
    rw [List.find?_cons]
    by_cases q : c = k
    · rw [if_pos q] at e'
      cases e'
      rw [decide_eq_true q]
      exact ⟨w, rfl, l1⟩
    · rw [if_neg q] at e'
      rw [decide_eq_false q]
      exact lookK_rel rfl l2 e'
theorem val_in {k : Key} : ∀ {kvs : List (Key × V)}, (valV kvs k).isSome = inK k (kvs.map (·.1))
  | [] => rfl
  | (c, w) :: fs => by
    have ih := val_in (k := k) (kvs := fs)
    unfold valV at ih ⊢
    show _ = (decide (c = k) || inK k (fs.map (·.1)))
    rw [List.find?_cons]
    cases decide (c = k) with
    | true => rfl
    | false => exact ih
end
section
variable {X : Cx} {W : WX} {a b : Expr} {ma mb : ME} {pos : Pos}
theorem mp_dget (hu : X.A.units + 1 < cLine) (ha : PEm X W a ma) (hb : PEm X W b mb) (hs : NoSl b := by intro _ _; rfl) : PEm X W (.Subscript a b pos) (mBin gDGet ma mb) := pe_weak (pe_dget hu ha hb hs) fun σ H Q ⟨r, S, F, p, hE, hS, h⟩ => by
  refine ⟨r, S, F, p, hE, hS, fine.bind h fun x S1 F1 p1 H1 v _ e1 s1 l1 h1 => ?_⟩
  refine ⟨r, S1, F1, p1, hE.ext e1, s1, fine.bind h1 fun y S2 F2 p2 H2 w _ e2 s2 l2 h2 => ?_⟩
  unfold gDGet at h2
  split at h2
  · rename_i ks xs k q1 q2
    split at h2
    · rename_i z q3
      obtain ⟨ad, kvs, rfl, h3, h4, h5⟩ := dic_ok s2 (RV.mono e2.f e2.x x l1) q1
      have hk := key_rel l2 q2
      subst hk
      obtain ⟨v, h6, h7⟩ := lookK_rel h4 h5 q3
      exact ⟨ad, v, rfl, by rw [← h6]; exact DGet.k h3, fine.done h2 s2 h7⟩
    · exact h2.elim
  · exact h2.elim
theorem din_rel {σ : L2.St} {H : Hp} {Q : VK} (h : tE X.K W (mBin gDIn ma mb) σ H Q) : tDIn (tE X.K W ma) (tE X.K W mb) σ H Q := by
  obtain ⟨r, S, F, p, hE, hS, h⟩ := h
  refine ⟨r, S, F, p, hE, hS, fine.bind h fun x S1 F1 p1 H1 v _ e1 s1 l1 h1 => ?_⟩
  refine ⟨r, S1, F1, p1, hE.ext e1, s1, fine.bind h1 fun y S2 F2 p2 H2 w _ e2 s2 l2 h2 => ?_⟩
  unfold gDIn at h2
  split at h2
  · rename_i ks xs k q1 q2
    obtain ⟨ad, kvs, rfl, h3, h4, h5⟩ := dic_ok s2 l2 q1
    have hk := key_rel (RV.mono e2.f e2.x x l1) q2
    subst hk
    subst h4
    exact ⟨ad, _, rfl, DGet.k h3, by rw [val_in]; exact fine.done h2 s2 rfl⟩
  · exact h2.elim
theorem dnotin_rel {σ : L2.St} {H : Hp} {Q : VK} (h : tE X.K W (mBin gDNotIn ma mb) σ H Q) : tDNotIn (tE X.K W ma) (tE X.K W mb) σ H Q := by
  obtain ⟨r, S, F, p, hE, hS, h⟩ := h
  refine ⟨r, S, F, p, hE, hS, fine.bind h fun x S1 F1 p1 H1 v _ e1 s1 l1 h1 => ?_⟩
  refine ⟨r, S1, F1, p1, hE.ext e1, s1, fine.bind h1 fun y S2 F2 p2 H2 w _ e2 s2 l2 h2 => ?_⟩
  unfold gDNotIn at h2
  split at h2
  · rename_i ks xs k q1 q2
    obtain ⟨ad, kvs, rfl, h3, h4, h5⟩ := dic_ok s2 l2 q1
    have hk := key_rel (RV.mono e2.f e2.x x l1) q2
    subst hk
    subst h4
    exact ⟨ad, _, rfl, DGet.k h3, by rw [val_in]; exact fine.done h2 s2 rfl⟩
  · exact h2.elim
theorem mp_din (hu : X.A.units + 1 < cLine) (ha : PEm X W a ma) (hb : PEm X W b mb) (hm : behindInMarks .In b = false := by rfl) : PEm X W (.Compare a [.In] [b] pos) (mBin gDIn ma mb) := pe_weak (pe_cmp (pc_din hu ha hb) hm) fun _ _ _ h => din_rel h
theorem mp_dnotin (hu : X.A.units + 1 < cLine) (ha : PEm X W a ma) (hb : PEm X W b mb) (hm : behindInMarks .NotIn b = false := by rfl) : PEm X W (.Compare a [.NotIn] [b] pos) (mBin gDNotIn ma mb) := pe_weak (pe_cmp (pc_dnotin hu ha hb) hm) fun _ _ _ h => dnotin_rel h
theorem tB_weak2 {m : ME} {σ : L2.St} {H : Hp} {Q : Bool → Hp → Prop} (h : tT X.K W (tVal m) σ H Q) : tE X.K W m σ H (fun v H1 => ∃ d, v = .bl d ∧ Q d H1) := tB_weak h
theorem mt_din (hu : X.A.units + 1 < cLine) (ha : PEm X W a ma) (hb : PEm X W b mb) (hm : behindInMarks .In b = false := by rfl) : PTm X W (.Compare a [.In] [b] pos) (tVal (mBin gDIn ma mb)) := pt_weak (pt_cmp (pc_din hu ha hb) hm) fun _ _ _ h => din_rel (tB_weak2 h)
theorem mt_dnotin (hu : X.A.units + 1 < cLine) (ha : PEm X W a ma) (hb : PEm X W b mb) (hm : behindInMarks .NotIn b = false := by rfl) : PTm X W (.Compare a [.NotIn] [b] pos) (tVal (mBin gDNotIn ma mb)) := pt_weak (pt_cmp (pc_dnotin hu ha hb) hm) fun _ _ _ h => dnotin_rel (tB_weak2 h)
end
end Mi

set_option maxHeartbeats 4000000
namespace Mi
open PySem PySem.Spec PyProof.Rows L2
/-- a class's method under an operator's name -/
structure OwnB (K : Fg) (C : Addr) (nm : String) (f : Addr) : Prop where
  cl : Cls K C
  first : PySem.W.selfFirst K C = true
  me : Meth K C (PySem.dunder nm) f
  ref : ∃ rc, PySem.W.findIn K (.ref C) (dunderR nm) = some rc ∧ (rc = none ∨ ∃ g : Addr, rc = some (.ref g))
  i1 : ∃ fo, PySem.W.findIn K (.type "int") (PySem.dunder nm) = some fo
  i2 : ∃ ro, PySem.W.findIn K (.type "int") (dunderR nm) = some ro
  sub : PySem.W.subIn K (.type "int") (.ref C) = some false
def isInt : MV → Bool
  | .int _ => true
  | _ => false
def gOwn (c : Str) (g : DF) : G2 := fun x y S => if isCls c x S = true ∧ (isCls c y S = true ∨ isInt y = true) then g [x, y] S else .bad
def gOwnR (c : Str) (g : DF) : G2 := fun x y S => if isInt x = true ∧ isCls c y S = true then g [y, x] S else .bad
theorem ep_back {X : Cx} {pins : List (Addr × Obj)} {σ : L2.St} {Q : VK} {u : Value} {s : Shared} (h : EP X pins σ Q u s) : PySem.W.CmpBack (EP X pins σ Q) u s := by
  obtain ⟨v, H, I, r, q⟩ := h
  cases u with
  | notImplemented => cases v <;> first | (obtain ⟨_, r⟩ := r; cases r) | cases r
  | _ => exact ⟨v, H, I, r, q⟩
section
variable {X : Cx} {W : WX} {k : Nat} {f : Addr} {fd : FuncData} {ps : List Str} {g : DF} {c : Str} {op : Operator}
theorem om_own (tk : Takes X W) (O : OwnB X.K (He.ga X.K c) op.info.2 f) (F : FnG X.prog X.w X.K X.mg X.base k f fd ps (spM X.K 2 g)) (hgd : X.A.guards = some []) (hr : Room k X.A) (hb : Binds X.K fd ps []) : OpM X W (binaryOp op) (gOwn c g) := by
  intro pins s σ H x y v u Q I rx ry ⟨mx, my, S, Fz, p, hS, l1, l2, hq⟩
  unfold gOwn at hq
  split at hq
  · rename_i hc
    obtain ⟨hc1, hc2⟩ := hc
    obtain ⟨a, dx, fs, ns, xs, rfl, hH, hns, _, _⟩ := isCls_ok hS l1 hc1
    obtain rfl : v = Value.ref a := rx
    obtain ⟨mA, O1, _⟩ := ins_get I.hok hH
    obtain ⟨od, J, _⟩ := O1.look
    obtain ⟨m, fr⟩ := I.fr
    have body : wpAny (model X.prog X.w) X.A (call (.ref f) [.ref a, u]) (PySem.W.CmpBack (EP X pins σ Q)) X.xe s := by
      refine wpAny_mono (run_fnG (us := [.ref a, u]) (vs := [.ref a, y]) (dvs := []) tk F hgd hr hb .nil I (.cons rfl (.cons ry .nil)) ⟨rfl, [mx, my], S, Fz, p, ⟨_, _, rfl, l1, RVs.one l2⟩, hS, fine_w hq⟩) (fun u' s' h' => ep_back h') fun _ _ h' => h'
    by_cases hi : isInt my = true
    · cases my with
      | int i =>
        cases l2
        obtain ⟨t, rfl⟩ := ry
        obtain ⟨rc, r1, r2⟩ := O.ref
        obtain ⟨fo, h1⟩ := O.i1
        obtain ⟨ro, h2⟩ := O.i2
        exact PySem.W.ksp_binT fr I.ok.mod.kin J (T := "int") rfl O.first O.me.at_ O.me.fn r1 r2 h1 h2 O.sub body
      | _ => cases hi
    · have hc3 := hc2.resolve_right hi
      obtain ⟨b, dy, gs, ns2, xs2, rfl, hH2, _, _, _⟩ := isCls_ok hS l2 hc3
      obtain rfl : u = Value.ref b := ry
      obtain ⟨mB, O2, _⟩ := ins_get I.hok hH2
      obtain ⟨od2, J2, _⟩ := O2.look
      exact PySem.W.binop_K fr I.ok.mod.kin J J2.type O.first O.me.at_ O.me.fn body
  · exact hq.elim
end
section
variable {M : Model} {prog : Program} {w : World} {A : Around} {E : Value → Shared → Prop} {s : Shared} {x : Addr} {o : Obj}
theorem dec_bin {f : Int → Int → Sem Fin} {name : String} {i : Int} {t : Tok} {P : Fin → Shared → Prop} (ho : s.heap.get? x = some o) (hp : ∀ v, o.data ≠ .prim v) (h : P (.done (.ret .notImplemented)) s) :
    wpAny M A (Builtin.Int.intBinary name f false ⟨[.int i t, .ref x], []⟩) P E s := by
  unfold Builtin.Int.intBinary
  refine wpAny_bind (wpAny_of_eq (show slotArgs name 1 ⟨[.int i t, .ref x], []⟩ = pure (.int i t, [.ref x]) from rfl) ?_)
  dsimp only
  refine wpAny_bind (wpAny_of_eq (show Builtin.Int.intOfSelf (.int i t) = pure i from rfl) ?_)
  dsimp only [List.headD]
  unfold asInt?
  refine wpAny_bind (wpAny_bind (wpAny_load ho ?_))
  cases q : o.data with
  | prim v => exact absurd q (hp v)
  | _ => exact wpAny_pure (wpAny_bind (wpAny_rule (wpAny_pure h)))
theorem rbin_int {K : Fg} {C f0 f : Addr} {od : Option Obj} {op : Operator} {idl name : String} {fi : Int → Int → Sem Fin} {i : Int} {t : Tok} {Q : Value → Shared → Prop} (Kx : K.In s.heap) (I : PySem.W.InstAt s.heap x o C od) (hpr : ∀ v, o.data ≠ .prim v)
    (fillsT : fillsNumberSlot (.type "int") op.info.2 = pure true) (slot : Slot "int" (PySem.dunder op.info.2) idl) (entry : entryFor table idl = some (Builtin.Int.intBinary name fi false)) (args : ∀ a b, argsOk idl ⟨[a, b], []⟩)
    (first : PySem.W.selfFirst K C = true) (hs : PySem.W.findIn K (.ref C) (PySem.dunder op.info.2) = some (some (.ref f0))) (hsR : PySem.W.findIn K (.ref C) (dunderR op.info.2) = some (some (.ref f))) (hf : PySem.W.isFn K (.ref f) = true)
    (hsub : PySem.W.subIn K (.ref C) (.type "int") = some false) (h : wpAny (model prog w) A (call (.ref f) [.ref x, .int i t]) (PySem.W.CmpBack Q) E s) : wpAny (model prog w) A (binaryOp op (.int i t) (.ref x)) Q E s := by
  obtain ⟨cd, rest, hcd, hm⟩ := PySem.W.ksp_first first
  rcases hi : op.info with ⟨sym, nm'⟩
  rw [hi] at hs hsR fillsT slot
  dsimp only at hs hsR fillsT slot
  have one := PySem.W.ksp_try Kx I hsR hf h
  have L2 : PySem.W.Looks (model prog w) s.heap (typeOf (.ref x)) (.ref C) := I.type
  have L4 : PySem.W.Looks (model prog w) s.heap (fillsNumberSlot (.ref C) nm') true := PySem.W.fills_K Kx hcd hm hs
  have L5 : PySem.W.Looks (model prog w) s.heap (isSubtype (.ref C) (.type "int")) false := PySem.W.looks_subIn Kx hsub
  have hne : (Value.type "int" == Value.ref C) = false := Bool.eq_false_iff.mpr fun q => by cases beq_iff_eq.mp q
  simp only [binaryOp, hi]
  refine wpAny_holding (wpAny_bind ?_)
  simp only [binaryOp1]
  refine wpAny_bind (wpAny_typeOf (typeIs_int s i t) (wpAny_bind (L2.here (wpAny_bind (wpAny_of_eq fillsT ?_)))))
  simp only [hne, Bool.false_eq_true, if_false]
  refine wpAny_bind (L4.here ?_)
  simp only [Bool.and_self, if_true]
  refine wpAny_bind (L5.here ?_)
  have hpy : numberSlotInPython (.type "int") nm' = pure false := rfl
  simp only [Bool.false_eq_true, if_false, pure_bind, Bool.not_false, Bool.and_self, if_true, hpy]
  refine wpAny_bind (wpAny_tryMethod_declines (typeIs_int s i t) slot (wpAny_call_entry slot (typeIs_int s i t) entry (dec_bin I.at_ hpr ⟨_, rfl, ?_⟩) (args _ _)))
  refine ⟨rfl, ?_⟩
  dsimp only
  refine wpAny_bind (wpAny_mono one (fun r s' hr' => ?_) fun _ _ e => e)
  obtain ⟨v, rfl, hq⟩ := hr'
  exact wpAny_bind (wpAny_rule (wpAny_pure (wpAny_pure hq)))
end
/-- the method under the reflected name, for ints on the left -/
structure OwnR (K : Fg) (C : Addr) (nm : String) (f : Addr) : Prop where
  first : PySem.W.selfFirst K C = true
  same : ∃ f0 : Addr, PySem.W.findIn K (.ref C) (PySem.dunder nm) = some (some (.ref f0))
  me : Meth K C (dunderR nm) f
  sub : PySem.W.subIn K (.ref C) (.type "int") = some false
section
variable {X : Cx} {W : WX} {k : Nat} {f : Addr} {fd : FuncData} {ps : List Str} {g : DF} {c : Str} {op : Operator} {idl name : String} {fi : Int → Int → Sem Fin}
theorem om_ownR (tk : Takes X W) (O : OwnR X.K (He.ga X.K c) op.info.2 f) (F : FnG X.prog X.w X.K X.mg X.base k f fd ps (spM X.K 2 g)) (hgd : X.A.guards = some []) (hr : Room k X.A) (hb : Binds X.K fd ps [])
    (fillsT : fillsNumberSlot (.type "int") op.info.2 = pure true) (slot : Slot "int" (PySem.dunder op.info.2) idl) (entry : entryFor table idl = some (Builtin.Int.intBinary name fi false)) (args : ∀ a b, argsOk idl ⟨[a, b], []⟩) : OpM X W (binaryOp op) (gOwnR c g) := by
  intro pins s σ H x y v u Q I rx ry ⟨mx, my, S, Fz, p, hS, l1, l2, hq⟩
  unfold gOwnR at hq
  split at hq
  · rename_i hc
    obtain ⟨hc1, hc2⟩ := hc
    cases mx with
    | int i =>
      cases l1
      obtain ⟨t, rfl⟩ := rx
      obtain ⟨b, dy, gs, ns2, xs2, rfl, hH2, _, _, _⟩ := isCls_ok hS l2 hc2
      obtain rfl : u = Value.ref b := ry
      obtain ⟨mB, O2, _⟩ := ins_get I.hok hH2
      obtain ⟨od2, J2, _⟩ := O2.look
      obtain ⟨f0, same⟩ := O.same
      refine rbin_int I.kIn J2 (fun v z => by cases z) fillsT slot entry args O.first same O.me.at_ O.me.fn O.sub ?_
      refine wpAny_mono (run_fnG (us := [.ref b, .int i t]) (vs := [.ref b, .int i]) (dvs := []) tk F hgd hr hb .nil I (.cons rfl (.cons ⟨t, rfl⟩ .nil)) ⟨rfl, [my, .int i], S, Fz, p, ⟨_, _, rfl, l2, RVs.one rfl⟩, hS, fine_w hq⟩) (fun u' s' h' => ep_back h') fun _ _ h' => h'
    | _ => cases hc1
  · exact hq.elim
theorem om_radd (tk : Takes X W) (O : OwnR X.K (He.ga X.K c) "add" f) (G : FnG X.prog X.w X.K X.mg X.base k f fd ps (spM X.K 2 g)) (hgd : X.A.guards = some []) (hr : Room k X.A) (hb : Binds X.K fd ps []) : OpM X W (binaryOp .Add) (gOwnR c g) :=
  om_ownR (op := .Add) tk O G hgd hr hb PySem.F.fills_int_add PySem.F.slot_int_add PySem.F.entry_int_add PySem.F.args_int_add_2
theorem om_rsub (tk : Takes X W) (O : OwnR X.K (He.ga X.K c) "sub" f) (G : FnG X.prog X.w X.K X.mg X.base k f fd ps (spM X.K 2 g)) (hgd : X.A.guards = some []) (hr : Room k X.A) (hb : Binds X.K fd ps []) : OpM X W (binaryOp .Sub) (gOwnR c g) :=
  om_ownR (op := .Sub) tk O G hgd hr hb PySem.F.fills_int_sub PySem.F.slot_int_sub PySem.F.entry_int_sub PySem.F.args_int_sub_2
theorem om_rmul (tk : Takes X W) (O : OwnR X.K (He.ga X.K c) "mul" f) (G : FnG X.prog X.w X.K X.mg X.base k f fd ps (spM X.K 2 g)) (hgd : X.A.guards = some []) (hr : Room k X.A) (hb : Binds X.K fd ps []) : OpM X W (binaryOp .Mult) (gOwnR c g) :=
  om_ownR (op := .Mult) tk O G hgd hr hb PySem.F.fills_int_mul PySem.F.slot_int_mul PySem.F.entry_int_mul PySem.F.args_int_mul_2
theorem om_rand (tk : Takes X W) (O : OwnR X.K (He.ga X.K c) "and" f) (G : FnG X.prog X.w X.K X.mg X.base k f fd ps (spM X.K 2 g)) (hgd : X.A.guards = some []) (hr : Room k X.A) (hb : Binds X.K fd ps []) : OpM X W (binaryOp .BitAnd) (gOwnR c g) :=
  om_ownR (op := .BitAnd) tk O G hgd hr hb PySem.F.fills_int_and PySem.F.slot_int_and PySem.F.entry_int_and PySem.F.args_int_and_2
theorem om_ror (tk : Takes X W) (O : OwnR X.K (He.ga X.K c) "or" f) (G : FnG X.prog X.w X.K X.mg X.base k f fd ps (spM X.K 2 g)) (hgd : X.A.guards = some []) (hr : Room k X.A) (hb : Binds X.K fd ps []) : OpM X W (binaryOp .BitOr) (gOwnR c g) :=
  om_ownR (op := .BitOr) tk O G hgd hr hb PySem.F.fills_int_or PySem.F.slot_int_or PySem.F.entry_int_or PySem.F.args_int_or_2
end
end Mi

set_option maxHeartbeats 4000000
namespace Mi
open PySem PySem.Spec PyProof.Rows L2
def signsM (z : Str) : List MV := z.cps.toList.map fun c => .str ⟨#[c]⟩
def iStrM (m : ME) : MI := fun r S => (m r S).bind fun x S => match x with
  | .str z => .ok (signsM z) S
  | _ => .bad
theorem it_s {K : Fg} {F H : Hp} {p : As} {z : Str} : ItOk K F p H (Its z) (signsM z) := by
  intro F' p' H' S' ef ex s i
  refine ⟨fun x hx => ?_, fun hge => (show z.cps.size ≤ i by simpa [signsM] using hge)⟩
  unfold signsM at hx
  rw [List.getElem?_map] at hx
  cases q : z.cps.toList[i]? with
  | none => rw [q] at hx; cases hx
  | some c =>
    rw [q] at hx
    have ex : x = .str ⟨#[c]⟩ := by simpa using hx.symm
    subst ex
    have hi : i < z.cps.size := by simpa using (List.getElem?_eq_some_iff.mp q).1
    refine ⟨hi, fun v H2 y => ?_⟩
    obtain ⟨rfl, d, hd, rfl⟩ := y
    have ed : d = c := by
      rw [← Array.getElem?_toList, q] at hd
      exact (Option.some.inj hd).symm
    subst ed
    exact ⟨F', Ext.refl _ _ _, s, rfl⟩
section
variable {X : Cx} {W : WX} {tg e : Expr} {m : ME}
theorem mi_str (he : PEm X W e m) : PIm X W tg e (iStrM m) := pi_weak (pi_str he) fun σ H Rr ⟨r, S, F, p, hE, hS, h⟩ => by
  refine ⟨r, S, F, p, hE, hS, fineI.bind h fun x S1 F1 p1 H1 v em e1 s1 l1 h1 => ?_⟩
  cases x with
  | str z => cases l1; exact ⟨z, rfl, h1 F1 p1 H1 _ (Ext.refl _ _ _) s1 it_s⟩
  | _ => exact h1.elim
end
def mPairs : List (ME × ME) → En → So → R (List (MV × MV))
  | [], _, S => .ok [] S
  | (a, b) :: ms, r, S => (a r S).bind fun x S => (b r S).bind fun y S => (mPairs ms r S).bind fun ps S => .ok ((x, y) :: ps) S
def keysOf : List (MV × MV) → Option (List Key)
  | [] => some []
  | (x, _) :: ps => match keyM x, keysOf ps with
    | some k, some ks => some (k :: ks)
    | _, _ => none
def putD (k : Key) (y : MV) : List Key → List MV → List Key × List MV
  | c :: ks, x :: xs => if c = k then (c :: ks, y :: xs) else (c :: (putD k y ks xs).1, x :: (putD k y ks xs).2)
  | _, _ => ([k], [y])
def mergeD (ks : List Key) (xs : List MV) : List Key → List (MV × MV) → List Key × List MV
  | k :: l, (_, y) :: ps => mergeD (putD k y ks xs).1 (putD k y ks xs).2 l ps
  | _, _ => (ks, xs)
def mDisp (ms : List (ME × ME)) : ME := fun r S => (mPairs ms r S).bind fun ps S => match keysOf ps with
  | some l => if ps.length ≤ 15 then .ok (.dic (mergeD [] [] l ps).1 (mergeD [] [] l ps).2) S else .bad
  | none => .bad
def mDispM (ms : List (ME × ME)) : ME := fun r S => (mPairs ms r S).bind fun ps S => match keysOf ps with
  | some l => if ps.length ≤ 15 then .ok (.ref S.length) (S ++ [.dic (mergeD [] [] l ps).1 (mergeD [] [] l ps).2]) else .bad
  | none => .bad
def LPr (K : Fg) : Rl (List (MV × MV)) (List (V × V)) := fun F p xs vs => RVs K F p (xs.map (·.1)) (vs.map (·.1)) ∧ RVs K F p (xs.map (·.2)) (vs.map (·.2))
section
variable {K : Fg} {F H : Hp} {p : As}
theorem putD_rel {k : Key} {y : MV} {v : V} (r : RV K F p y v) (h : ∀ c : Key, True) : ∀ {kvs : List (Key × V)} {ks : List Key} {xs : List MV}, (kvs.map (·.1)).Nodup → kvs.map (·.1) = ks → RVs K F p xs (kvs.map (·.2)) →
    (putK kvs k v).map (·.1) = (putD k y ks xs).1 ∧ RVs K F p (putD k y ks xs).2 ((putK kvs k v).map (·.2)) ∧ ((putK kvs k v).map (·.1)).Nodup
  | [], _, [], _, h, _ => by subst h; exact ⟨rfl, RVs.one r, by simp [putK]⟩
  | [], _, _ :: _, _, h, l => by
    have := l.length
    simp at this
  | (c, w) :: fs, _, [], _, h, l => by
    have := l.length
    simp at this
  | (c, w) :: fs, _, x :: xs, nd, h, l => by
    subst h
    obtain ⟨u, q, e2, l1, l2⟩ := l
    have e3 : w = u ∧ fs.map (·.2) = q := by simpa using e2
    obtain ⟨rfl, rfl⟩ := e3
    have nd' : c ∉ fs.map (·.1) ∧ (fs.map (·.1)).Nodup := List.nodup_cons.mp nd
    obtain ⟨n1, n2⟩ := nd'
    obtain ⟨i1, i2, i3⟩ := putD_rel (k := k) r h (kvs := fs) n2 rfl l2
    by_cases ck : c = k
    · subst ck
      have hno : ∀ e ∈ fs, ¬ e.1 = c := fun e he z => n1 (List.mem_map.mpr ⟨e, he, z⟩)
      have hm : fs.map (fun kv => if kv.1 = c then (kv.1, v) else kv) = fs := (List.map_congr_left fun e he => if_neg (hno e he)).trans (List.map_id fs)
      have ep : putK ((c, w) :: fs) c v = (c, v) :: fs := by
        unfold putK
        rw [if_pos (by simp), List.map_cons, if_pos rfl, hm]
      rw [ep, show putD c y (((c, w) :: fs).map (·.1)) (x :: xs) = (c :: fs.map (·.1), y :: xs) from if_pos rfl]
      exact ⟨rfl, ⟨_, _, rfl, r, l2⟩, nd⟩
    · have ep : putK ((c, w) :: fs) k v = (c, w) :: putK fs k v := by
        unfold putK
        rw [List.any_cons, decide_eq_false ck, Bool.false_or]
        split
        · rw [List.map_cons, if_neg ck]
        · rfl
      rw [ep, show putD k y (((c, w) :: fs).map (·.1)) (x :: xs) = (c :: (putD k y (fs.map (·.1)) xs).1, x :: (putD k y (fs.map (·.1)) xs).2) from if_neg ck]
      refine ⟨by rw [List.map_cons, i1], ⟨_, _, rfl, l1, i2⟩, ?_⟩
      rw [List.map_cons]
      refine List.nodup_cons.mpr ⟨fun z => ?_, i3⟩
      obtain ⟨e, he, ez⟩ := List.mem_map.mp z
      unfold putK at he
      split at he
      · obtain ⟨e', he', ez'⟩ := List.mem_map.mp he
        split at ez'
        · subst ez'; exact n1 (List.mem_map.mpr ⟨e', he', ez⟩)
        · subst ez'; exact n1 (List.mem_map.mpr ⟨e', he', ez⟩)
      · rcases List.mem_append.mp he with he | he
        · exact n1 (List.mem_map.mpr ⟨e, he, ez⟩)
        · rw [List.mem_singleton] at he
          subst he
          exact ck ez.symm
theorem mergeD_rel : ∀ {l : List Key} {ps : List (MV × MV)} {more : List (Key × V)} {kvs : List (Key × V)} {ks : List Key} {xs : List MV}, more.map (·.1) = l → RVs K F p (ps.map (·.2)) (more.map (·.2)) → (kvs.map (·.1)).Nodup → kvs.map (·.1) = ks → RVs K F p xs (kvs.map (·.2)) →
    (mergeK kvs more).map (·.1) = (mergeD ks xs l ps).1 ∧ RVs K F p (mergeD ks xs l ps).2 ((mergeK kvs more).map (·.2)) ∧ ((mergeK kvs more).map (·.1)).Nodup
  | [], _, more, kvs, ks, xs, h1, h2, nd, h3, h4 => by
    have em : more = [] := by simpa using h1
    subst em
    exact ⟨h3, h4, nd⟩
  | k :: l, [], more, kvs, ks, xs, h1, h2, nd, h3, h4 => by
    have := h2.length
    rw [List.length_map] at this
    have e2 : more = [] := List.length_eq_zero_iff.mp (by simpa using this)
    subst e2
    cases h1
  | k :: l, (x, y) :: ps, more, kvs, ks, xs, h1, h2, nd, h3, h4 => by
    cases more with
    | nil => cases h1
    | cons a more =>
      obtain ⟨c, v⟩ := a
      have h1' : c = k ∧ more.map (·.1) = l := by simpa using h1
      obtain ⟨rfl, h1'⟩ := h1'
      obtain ⟨u, q, e2, l1, l2⟩ := h2
      have e3 : v = u ∧ more.map (·.2) = q := by simpa using e2
      obtain ⟨rfl, rfl⟩ := e3
      obtain ⟨i1, i2, i3⟩ := putD_rel (k := c) l1 (fun _ => trivial) nd h3 h4
      have z := mergeD_rel (l := l) (ps := ps) (kvs := putK kvs c v) h1' l2 i3 i1 i2
      exact z
theorem keysOf_rel : ∀ {ps : List (MV × MV)} {vs : List (V × V)} {l : List Key}, LPr K F p ps vs → keysOf ps = some l → ∃ more : List (Key × V), vs = more.map (fun kv => (kV kv.1, kv.2)) ∧ more.map (·.1) = l ∧ RVs K F p (ps.map (·.2)) (more.map (·.2))
  | [], vs, l, h, e => by
    obtain ⟨h1, h2⟩ := h
    have ev : vs = [] := by
      have := h1.length
      simpa using this
    subst ev
    cases e
    exact ⟨[], rfl, rfl, rfl⟩
  | (x, y) :: ps, vs, l, h, e => by
    obtain ⟨h1, h2⟩ := h
    cases vs with
    | nil => have := h1.length; simp at this
    | cons a vs =>
      obtain ⟨v, w⟩ := a
      obtain ⟨u, q, e1, l1, l2⟩ := h1
      obtain ⟨u', q', e1', l1', l2'⟩ := h2
      have e3 : v = u ∧ vs.map (·.1) = q := by simpa using e1
      obtain ⟨rfl, rfl⟩ := e3
      have e4 : w = u' ∧ vs.map (·.2) = q' := by simpa using e1'
      obtain ⟨rfl, rfl⟩ := e4
      have e' : (match keyM x, keysOf ps with
        | some k, some ks => some (k :: ks)
        | _, _ => none) = some l := e
      cases q1 : keyM x with
      | none => rw [q1] at e'; cases e'
      | some k =>
        cases q2 : keysOf ps with
        | none => rw [q1, q2] at e'; cases e'
        | some ks =>
          rw [q1, q2] at e'
          cases e'
          obtain ⟨more, m1, m2, m3⟩ := keysOf_rel ⟨l2, l2'⟩ q2
          refine ⟨(k, w) :: more, ?_, ?_, ?_⟩
          · rw [key_rel l1 q1, m1]; rfl
          · rw [List.map_cons, m2]
          · exact ⟨_, _, rfl, l1', m3⟩
end
structure PPm (X : Cx) (W : WX) (pos : Pos) (keys : List (Option Expr)) (values : List Expr) (ms : List (ME × ME)) : Prop where
  pps : PPs X pos keys values (ms.map fun q => (tE X.K W q.1, tE X.K W q.2))
section
variable {X : Cx} {W : WX} {pos : Pos} {ms : List (ME × ME)} {keys : List (Option Expr)} {values : List Expr}
theorem mpp_nil : PPm X W pos [] [] [] := ⟨pps_nil⟩
theorem mpp_cons {k v : Expr} {mk mv : ME} (hk : PEm X W k mk) (hv : PEm X W v mv) (h : PPm X W pos keys values ms) : PPm X W pos (some k :: keys) (v :: values) ((mk, mv) :: ms) := ⟨pps_cons hk hv h.pps⟩
theorem pairs_rel : ∀ {ms : List (ME × ME)} {σ : L2.St} {H : Hp} {Q : List (V × V) → Hp → Prop} {r : En} {S : So} {F : Hp} {p : As}, RE X.K F p r σ → RS X.K F p S H → fine X.K (LPr X.K) F p H σ W Q (mPairs ms r S) →
    tPairs (ms.map fun q => (tE X.K W q.1, tE X.K W q.2)) σ H Q
  | [], _, _, _, r, S, F, p, hE, hS, h => h F p _ [] (Ext.refl _ _ _) hS ⟨rfl, rfl⟩
  | (a, b) :: ms, σ, H, Q, r, S, F, p, hE, hS, h => by
    refine ⟨r, S, F, p, hE, hS, fine.bind h fun x S1 F1 p1 H1 v _ e1 s1 l1 h1 => ?_⟩
    refine ⟨r, S1, F1, p1, hE.ext e1, s1, fine.bind h1 fun y S2 F2 p2 H2 w _ e2 s2 l2 h2 => ?_⟩
    refine pairs_rel ((hE.ext e1).ext e2) s2 (fine.bind h2 fun ps S3 F3 p3 H3 vs _ e3 s3 l3 h3 => ?_)
    exact h3 _ _ _ _ (Ext.refl _ _ _) s3 ⟨⟨_, _, rfl, RV.mono e3.f e3.x x (RV.mono e2.f e2.x x l1), l3.1⟩, ⟨_, _, rfl, RV.mono e3.f e3.x y l2, l3.2⟩⟩
theorem ext_keep {F H F' H' : Hp} {p p' : As} {D : Addr} {u : HO} (e : Ext F p H F' p' H') (hD : H D = none) (hd : H' D = some u) (hF : F' D = none) : Ext F p H (upd F' D u) p' H' :=
  ⟨e.f.trans (Same.updF hF), e.x, e.k, e.n, fun b a1 a2 a3 => by rw [upd_ne (fun z => a1 (by rw [z]; exact hD))]; exact e.g b a1 a2 a3⟩
/-- what stands privately is frozen -/
theorem RS.keepD {K : Fg} {F H : Hp} {p : As} {S : So} {D : Addr} {u : HO} (s : RS K F p S H) (hH : H D = some u) (hp : D ∉ p) (hF : F D = none) : RS K (upd F D u) p S H :=
  ⟨fun b o eo => by
    by_cases hb : b = D
    · rw [hb, upd_same] at eo; rw [hb, hH]; exact eo
    · rw [upd_ne hb] at eo; exact s.sub b o eo, s.len, s.inj, fun i o a ea1 ea2 => by
    obtain ⟨u, b1, b2⟩ := s.ob i o a ea1 ea2
    exact ⟨u, b1, b2.imp id fun ⟨c1, c2⟩ => ⟨by rw [upd_ne (fun z => hp (by rw [← z]; exact List.mem_of_getElem? ea2))]; exact c1, c2.mono (Same.updF hF) (Px.refl _)⟩⟩⟩
theorem mp_disp (h : PPm X W pos keys values ms) (hall : keys.all (·.isSome) = true := by rfl) (hl : keys.length = values.length := by rfl) (h0 : keys ≠ [] := by decide) (h15 : keys.length ≤ 15 := by decide) : PEm X W (.Dict keys values pos) (mDisp ms) :=
  pe_weak (pe_disp h.pps hall hl h0 h15) fun σ H Q ⟨r, S, F, p, hE, hS, h⟩ => by
    intro D hD
    have nDp : D ∉ p := hS.notIn hD
    have nDF : F D = none := hS.free hD
    have e0 : Ext F p H F p (upd H D (.dK [])) := (Ext.refl _ _ _).priv hD
    refine pairs_rel hE (hS.priv nDF nDp) (fine.bind (fine.mono h e0) fun ps S1 F1 p1 H1 vs eq e1 s1 l1 _ => ?_)
    have h1 : fine X.K (RV X.K) F p H σ W Q (match keysOf ps with
      | some l => if ps.length ≤ 15 then .ok (.dic (mergeD [] [] l ps).1 (mergeD [] [] l ps).2) S1 else .bad
      | none => .bad) := by
      have h2 : fine X.K (RV X.K) F p H σ W Q ((mPairs ms r S).bind fun ps S => match keysOf ps with
        | some l => if ps.length ≤ 15 then .ok (.dic (mergeD [] [] l ps).1 (mergeD [] [] l ps).2) S else .bad
        | none => .bad) := h
      rw [eq] at h2
      exact h2
    obtain ⟨d1, d2, d3⟩ := e1.mine upd_same nDp nDF
    refine ⟨d1, ?_⟩
    cases q : keysOf ps with
    | none => rw [q] at h1; exact h1.elim
    | some l =>
      rw [q] at h1
      obtain ⟨hz, h1⟩ := fine_if h1
      obtain ⟨more, rfl, m2, m3⟩ := keysOf_rel l1 q
      obtain ⟨i1, i2, i3⟩ := mergeD_rel (kvs := []) (ks := []) (xs := []) m2 m3 List.nodup_nil rfl rfl
      have hml : more.length ≤ 15 := by
        have z := m3.length
        rw [List.length_map, List.length_map] at z
        rw [z]; exact hz
      refine ⟨more, rfl, hml, ?_⟩
      have s2 : RS X.K F1 p1 S1 (upd H1 D (.dK (mergeK [] more))) := s1.priv d3 d2
      exact h1 _ _ _ _ (ext_keep ((e0.trans e1).priv hD) hD upd_same d3) (s2.keepD upd_same d2 d3) ⟨D, _, rfl, upd_same, i1, RVs.mono (Same.updF d3) (Px.refl _) _ i2⟩
end
end Mi

set_option maxHeartbeats 4000000
namespace Mi
open PySem PySem.Spec PyProof.Rows L2
def sameFlat : List MV → List MV → Bool
  | [], [] => true
  | x :: xs, y :: ys => (gScal x y == some true) && sameFlat xs ys
  | _, _ => false
def noDup : List Key → Bool
  | [] => true
  | k :: ks => !inK k ks && noDup ks
def gEqDic : G2 := fun x y S => match dicOf S x, dicOf S y with
  | some (ks, xs), some (ls, ys) => if ks = ls ∧ noDup ks = true ∧ sameFlat xs ys = true then .ok (.bl true) S else .bad
  | _, _ => .bad
section
variable {X : Cx} {W : WX} {K : Fg} {F H : Hp} {p : As}
theorem noDup_ok : ∀ {ks : List Key}, noDup ks = true → ks.Nodup
  | [], _ => List.nodup_nil
  | k :: ks, h => by
    obtain ⟨h1, h2⟩ := Bool.and_eq_true_iff.mp (show (!inK k ks && noDup ks) = true from h)
    refine List.nodup_cons.mpr ⟨fun z => ?_, noDup_ok h2⟩
    have : inK k ks = true := List.any_eq_true.mpr ⟨k, z, decide_eq_true rfl⟩
    rw [this] at h1; cases h1
theorem scal_flat {x y : MV} {v w : V} (l1 : RV K F p x v) (l2 : RV K F p y w) (h : gScal x y = some true) : v = w ∧ flatB v = true := by
  obtain ⟨_, h2⟩ := gScal_rel l1 l2 h
  refine ⟨of_decide_eq_true h2, ?_⟩
  unfold gScal at h
  split at h
  · cases l1; rfl
  · cases l1; rfl
  · cases l1; rfl
  · cases l1; rfl
  · cases h
  · cases h
  · cases h
theorem same_flat : ∀ {xs ys : List MV} {vs ws : List V}, RVs K F p xs vs → RVs K F p ys ws → sameFlat xs ys = true → vs = ws ∧ ∀ v ∈ vs, flatB v = true
  | [], [], _, _, h1, h2, _ => by cases h1; cases h2; exact ⟨rfl, fun _ z => by cases z⟩
  | x :: xs, y :: ys, _, _, h1, h2, h => by
    obtain ⟨v, r, rfl, l1, l2⟩ := h1
    obtain ⟨w, q, rfl, l3, l4⟩ := h2
    obtain ⟨e1, e2⟩ := Bool.and_eq_true_iff.mp (show ((gScal x y == some true) && sameFlat xs ys) = true from h)
    obtain ⟨rfl, f1⟩ := scal_flat l1 l3 (beq_iff_eq.mp e1)
    obtain ⟨rfl, f2⟩ := same_flat l2 l4 e2
    exact ⟨rfl, fun u hu => (List.mem_cons.mp hu).elim (fun z => by rw [z]; exact f1) (f2 u)⟩
  | [], _ :: _, _, _, _, _, h => by cases h
  | _ :: _, [], _, _, _, _, h => by cases h
theorem zip_eq : ∀ {a b : List (Key × V)}, a.map (·.1) = b.map (·.1) → a.map (·.2) = b.map (·.2) → a = b
  | [], [], _, _ => rfl
  | [], _ :: _, h, _ => by cases h
  | _ :: _, [], h, _ => by cases h
  | (k, v) :: a, (l, w) :: b, h1, h2 => by
    have e1 : k = l ∧ a.map (·.1) = b.map (·.1) := by simpa using h1
    have e2 : v = w ∧ a.map (·.2) = b.map (·.2) := by simpa using h2
    rw [e1.1, e2.1, zip_eq e1.2 e2.2]
theorem om_eqDic (hu : X.A.units < cLine) : OpM X W (compareOp .Eq) gEqDic := om_of (op_eq_dict hu) fun x y S F p v w H σ Q hS l1 l2 h => by
  unfold gEqDic at h
  split at h
  · rename_i ks xs ls ys e1 e2
    obtain ⟨⟨h1, h2, h3⟩, h⟩ := fine_if h
    obtain ⟨a, kvs, rfl, a1, a2, a3⟩ := dic_ok hS l1 e1
    obtain ⟨b, lvs, rfl, b1, b2, b3⟩ := dic_ok hS l2 e2
    obtain ⟨f1, f2⟩ := same_flat a3 b3 h3
    have ek : kvs = lvs := zip_eq (by rw [a2, b2, h1]) f1
    subst ek
    exact ⟨a, b, kvs, rfl, rfl, a1, b1, by rw [a2]; exact noDup_ok h2, fun q hq => f2 q.2 (List.mem_map.mpr ⟨q, hq, rfl⟩), fine.done h hS rfl⟩
  · exact h.elim
end
inductive Tg where
  | non | bl | int | str | lst | dic | tup | own (c : Str)
  deriving DecidableEq
def tgOf (S : So) : MV → Option Tg
  | .non => some .non
  | .bl _ => some .bl
  | .int _ => some .int
  | .str _ => some .str
  | .lst _ => some .lst
  | .dic _ _ => some .dic
  | .tup _ => some .tup
  | .obj c _ _ => some (.own c)
  | .ref n => match S[n]? with
    | some (.lst _) => some .lst
    | some (.dic _ _) => some .dic
    | some (.ins c _ _) => some (.own c)
    | _ => none
  | _ => none
def tagV (K : Fg) : Tg → Value
  | .non => .type "NoneType"
  | .bl => .type "bool"
  | .int => .type "int"
  | .str => .type "str"
  | .lst => .type "list"
  | .dic => .type "dict"
  | .tup => .type "tuple"
  | .own c => .ref (He.ga K c)
/-- what of a class isinstance looks at -/
structure TyF (K : Fg) (C : Addr) : Prop where
  cl : Cls K C
  ha : PySem.W.findIn K (.ref C) "__class__" = some (some (.builtin "object.__class__"))
  hn : PySem.W.specialIn K (.builtin "object.__class__") "__get__" = some (some (.builtin "getset_descriptor.__get__"))
  htk : PySem.W.takesIn K (.builtin "object.__class__") = some true
  hm : PySem.W.mroIn K C (.type "object") = some true
structure IsF (K : Fg) (u : Value) (tb : Tg → Option Bool) : Prop where
  kit : ∀ t b, tb t = some b → PySem.W.kitOne K (tagV K t) u = some b
  own : ∀ c b, tb (.own c) = some b → TyF K (He.ga K c)
theorem tg_ty {K : Fg} {F H : Hp} {p : As} {S : So} {x : MV} {v : V} {t : Tg} (hS : RS K F p S H) (l : RV K F p x v) (h : tgOf S x = some t) (ho : ∀ c, t = .own c → TyF K (He.ga K c)) : TyX K H v (tagV K t) := by
  cases x with
  | non => cases l; cases h; exact .base .non
  | bl b => cases l; cases h; exact .base (.bl b)
  | int b => cases l; cases h; exact .base (.int b)
  | str b => cases l; cases h; exact .base (.str b)
  | tup b =>
    cases h
    obtain ⟨a, vs, rfl, h1, _⟩ := l
    rcases Same.seqT hS.sub h1 with (h1 | ⟨o, h1⟩) | ⟨o, its, n, h1, h2, _⟩
    · exact .base (.tup h1)
    · exact .fTuple h1
    · exact .kTuple h1 h2
  | scr b => cases h
  | lst b =>
    cases h
    obtain ⟨a, vs, rfl, h1, _⟩ := l
    exact .base (.lst (hS.sub _ _ h1))
  | dic k b =>
    cases h
    obtain ⟨a, vs, rfl, h1, _⟩ := l
    exact .base (.dK (hS.sub _ _ h1))
  | obj c n b =>
    cases h
    obtain ⟨a, dx, fs, rfl, h1, _⟩ := l
    have T := ho c rfl
    exact .base (.ins (hS.sub _ _ h1) T.cl T.ha T.hn T.htk T.hm)
  | ref n =>
    unfold tgOf at h
    simp only at h
    split at h
    · rename_i xs e
      cases h
      obtain ⟨a, u, rfl, _, e3, _, vs, rfl, _⟩ := ref_at hS l e (by intro z; cases z)
      exact .base (.lst e3)
    · rename_i xs e
      cases h
      obtain ⟨a, u, rfl, _, e3, _, vs, rfl, _⟩ := ref_at hS l e (by intro z; cases z)
      exact .base (.dK e3)
    · rename_i c _ _ e
      cases h
      obtain ⟨a, u, rfl, _, e3, _, dx, fs, rfl, _⟩ := ref_at hS l e (by intro z; cases z)
      have T := ho c rfl
      exact .base (.ins e3 T.cl T.ha T.hn T.htk T.hm)
    · cases h
def mIsi (tb : Tg → Option Bool) (m : ME) : ME := fun r S => (m r S).bind fun x S => match tgOf S x with
  | some t => match tb t with
    | some b => .ok (.bl b) S
    | none => .bad
  | none => .bad
section
variable {X : Cx} {W : WX} {e c : Expr} {m : ME} {p pos : Pos}
theorem mp_isi {cv : V} {u : Value} {tb : Tg → Option Bool} (I : IsF X.K u tb) (hk : ClsV cv u) (hg : Gl X "isinstance") (hm : X.mg "isinstance" = none) (he : PEm X W e m) (hc : PE X c (tC cv))
    (hs : starEach [e, c] X.env = (false, eval e X.env) :: starEach [c] X.env := by rfl) (hs2 : starEach [c] X.env = [(false, eval c X.env)] := by rfl) (hpl : (backTo pos (starEach [c] X.env)).any (·.1) = false := by rfl) :
    PEm X W (.Call (.Name "isinstance" p) [e, c] [] pos) (mIsi tb m) := by
  refine pe_weak (pe_callB call_isi hg hm (by decide +kernel) (pa_cons he (pa_cons hc pa_nil hs2) hs) (by decide) (by decide) hs hpl) fun σ H Q ⟨r, S, F, p, hE, hS, h⟩ => ?_
  refine ⟨r, S, F, p, hE, hS, fine.bind h fun x S1 F1 p1 H1 v _ e1 s1 l1 h1 => ?_⟩
  show rIsi X.K [v, cv] H1 Q
  split at h1
  · rename_i t q1
    split at h1
    · rename_i b q2
      exact ⟨v, cv, tagV X.K t, u, b, rfl, hk, tg_ty s1 l1 q1 (fun c e => by subst e; exact I.own c b q2), I.kit t b q2, fine.done h1 s1 rfl⟩
    · exact h1.elim
  · exact h1.elim
end
def mCh (f f' : Int → Int → Bool) (a b c : ME) : ME := fun r S => (a r S).bind fun x S => (b r S).bind fun y S => match x, y with
  | .int i, .int j => if f i j = true then (c r S).bind fun z S => match z with
    | .int k => .ok (.bl (f' j k)) S
    | _ => .bad
    else .ok (.bl false) S
  | _, _ => .bad
section
variable {X : Cx} {W : WX} {a b c : Expr} {ma mb mc : ME} {pos : Pos} {op op' : CmpOp} {f f' : Int → Int → Bool}
theorem chain_rel {σ : L2.St} {H : Hp} {Q : VK} (h : tE X.K W (mCh f f' ma mb mc) σ H Q) : tChain (rI0 fun i j => .bl (f i j)) (rI0 fun i j => .bl (f' i j)) (tE X.K W ma) (tE X.K W mb) (tE X.K W mc) σ H Q := by
  obtain ⟨r, S, F, p, hE, hS, h⟩ := h
  refine ⟨r, S, F, p, hE, hS, fine.bind h fun x S1 F1 p1 H1 v _ e1 s1 l1 h1 => ?_⟩
  refine ⟨r, S1, F1, p1, hE.ext e1, s1, fine.bind h1 fun y S2 F2 p2 H2 w _ e2 s2 l2 h2 => ?_⟩
  have l1' := RV.mono e2.f e2.x x l1
  cases x with
  | int i =>
    cases y with
    | int j =>
      cases l1'; cases l2
      refine ⟨i, j, rfl, rfl, f i j, rfl, ?_⟩
      have h3 : fine X.K (RV X.K) F2 p2 H2 σ W Q (if f i j = true then (mc r S2).bind fun z S => match z with
        | .int k => .ok (.bl (f' j k)) S
        | _ => .bad
        else .ok (.bl false) S2) := h2
      split at h3
      · rename_i hf
        rw [if_pos hf]
        refine ⟨r, S2, F2, p2, (hE.ext e1).ext e2, s2, fine.bind h3 fun z S3 F3 p3 H3 u _ e3 s3 l3 h4 => ?_⟩
        cases z with
        | int k => cases l3; exact ⟨j, k, rfl, rfl, fine.done h4 s3 rfl⟩
        | _ => exact h4.elim
      · rename_i hf
        rw [if_neg hf]
        exact fine.done h3 s2 rfl
    | _ => exact h2.elim
  | _ => exact h2.elim
theorem mp_chain (ho : OpR X (compareOp op) (rI0 fun i j => .bl (f i j))) (ho' : OpR X (compareOp op') (rI0 fun i j => .bl (f' i j))) (ha : PEm X W a ma) (hb : PEm X W b mb) (hc : PEm X W c mc)
    (hm : lastMarks [op, op'] [b, c] = false := by with_unfolding_all rfl) : PEm X W (.Compare a [op, op'] [b, c] pos) (mCh f f' ma mb mc) := pe_weak (pe_chain ho ho' ha hb hc hm) fun _ _ _ h => chain_rel h
theorem mt_chain (ho : OpR X (compareOp op) (rI0 fun i j => .bl (f i j))) (ho' : OpR X (compareOp op') (rI0 fun i j => .bl (f' i j))) (ha : PEm X W a ma) (hb : PEm X W b mb) (hc : PEm X W c mc)
    (hm : lastMarks [op, op'] [b, c] = false := by with_unfolding_all rfl) : PTm X W (.Compare a [op, op'] [b, c] pos) (tVal (mCh f f' ma mb mc)) := pt_weak (pt_chain ho ho' ha hb hc hm) fun _ _ _ h => tTest_weak (fun _ _ _ h => chain_rel h) h
end
def stIx (x i y : MV) (S : So) : Option So := match x, i with
  | .ref n, .int k => match S[n]? with
    | some (.lst xs) => match ixN xs.length k with
      | some j => some (S.set n (.lst (xs.set j y)))
      | none => none
    | _ => none
  | _, _ => none
def sIxM (mo mi mv : ME) : MS := fun r S => (mv r S).to r fun y S => (mo r S).to r fun x S => (mi r S).to r fun i S => match stIx x i y S with
  | some S => .nxt r S
  | none => .bad
def sBad : MS := fun _ _ => .bad
section
variable {X : Cx} {W : WX} {pos pos' : Pos} {o i value : Expr} {mo mi mv : ME} {st : Stmt}
theorem ms_bad : PSm X W st sBad := ⟨fun pins s σ H D I ⟨r, S, F, p, hE, hS, h⟩ => h.elim⟩
theorem ms_ix (ho : PEm X W o mo) (hi : PEm X W i mi) (hv : PEm X W value mv) (hs : swapsWithSole [.Subscript o i pos'] value pos.line X.env = pure false := by rfl) (hw : swappedStores [.Subscript o i pos'] value X.env = pure none := by rfl)
    (h1 : (assignEach [.Subscript o i pos'] X.env).map (·.2) = [assign (.Subscript o i pos') X.env] := by rfl)
    (hsub : ∀ v, assign (.Subscript o i pos') X.env v = (do
      let ov ← holding [v] (eval o X.env)
      let iv ← holding [v, ov] (eval i X.env)
      standAt pos'
      holding [v, ov, iv] (setItem ov iv v)
      release [v, ov, iv] []) := by intro _; rfl) : PSm X W (.Assign [.Subscript o i pos'] value pos) (sIxM mo mi mv) :=
  ps_weak (ps_asg hv (pg_sub ho hi set_list hsub) hs hw h1) fun D σ H ⟨r, S, F, p, hE, hS, h⟩ => by
    refine ⟨r, S, F, p, hE, hS, fine.to hE h fun y S1 F1 p1 H1 v _ e1 s1 l1 E1 h1 => ?_⟩
    refine ⟨r, S1, F1, p1, E1, s1, fine.to E1 h1 fun x S2 F2 p2 H2 w _ e2 s2 l2 E2 h2 => ?_⟩
    refine ⟨r, S2, F2, p2, E2, s2, fine.to E2 h2 fun z S3 F3 p3 H3 u _ e3 s3 l3 E3 h3 => ?_⟩
    have lx := RV.mono e3.f e3.x x l2
    have ly := RV.mono e3.f e3.x y (RV.mono e2.f e2.x y l1)
    cases q : stIx x z y S3 with
    | none => rw [q] at h3; exact h3.elim
    | some S4 =>
      rw [q] at h3
      cases x with
      | ref n =>
        cases z with
        | int k =>
          have q' : (match S3[n]? with
            | some (.lst xs) => match ixN xs.length k with
              | some j => some (S3.set n (.lst (xs.set j y)))
              | none => none
            | _ => none) = some S4 := q
          split at q'
          · rename_i xs e
            split at q'
            · rename_i j ej
              cases q'
              cases l3
              obtain ⟨a, u2, rfl, ea, e4, hF, vs, rfl, hz, h4⟩ := ref_at s3 lx e (by intro z; cases z)
              exact ⟨a, vs, k, j, rfl, rfl, e4, by rw [h4.length]; exact ej, h3 F3 p3 _ σ (RS.writeE ea) (s3.write ea hF ⟨_, rfl, by rw [List.length_set]; exact hz, h4.setAt j ly⟩) E3⟩
            · cases q'
          · cases q'
        | _ => cases q
      | _ => cases q
end
end Mi

set_option maxHeartbeats 4000000
namespace Mi
open PySem PySem.Spec PyProof.Rows L2
/-- how values go to the parameters -/
structure KBm (K : Fg) (fd : FuncData) (ps : List Str) (nn : Nat) (ks : List Str) (gM : List MV → List MV → List MV) : Prop where
  ex : ∃ g gV, KBn K fd ps nn ks g gV ∧ ∀ (F : Hp) (p : As) {xs zs : List MV} {vs ws : List V}, RVs K F p xs vs → RVs K F p zs ws → RVs K F p (gM xs zs) (gV vs ws)
def mCallK (gM : List MV → List MV → List MV) (f : DF) (ms ks : List ME) : ME := fun r S => (mArgs ms r S).bind fun xs S => (mArgs ks r S).bind fun zs S => f (gM xs zs) S
def mMethK (c m : Str) (gM : List MV → List MV → List MV) (f : DF) (mo : ME) (ms ks : List ME) : ME := fun r S => (mo r S).bind fun x S => if (isCls c x S && !(fldNames x S).contains m) = true then (mArgs ms r S).bind fun xs S => (mArgs ks r S).bind fun zs S => f (gM (x :: xs) zs) S else .bad
structure PKm (X : Cx) (W : WX) (kws : List Keyword) (ms : List ME) : Prop where
  pk : PK X kws (tA X.K W (mArgs ms))
theorem pk_weak {X : Cx} {kws : List Keyword} {t t' : TA} (h : PK X kws t) (i : ∀ σ H Q, t' σ H Q → t σ H Q) : PK X kws t' := ⟨fun pos pins s σ H Q I q => h.run pos pins s σ H Q I (i σ H Q q)⟩
section
variable {X : Cx} {W : WX} {k n : Nat} {f : Addr} {fd : FuncData} {ps ks : List Str} {g : DF} {gM : List MV → List MV → List MV} {x m c : Str} {p pos apos kpos : Pos} {e o : Expr} {es : List Expr} {kws : List Keyword} {ms kms : List ME} {mo mk : ME} {nm : Option Str}
theorem mk_nil : PKm X W [] [] := ⟨pk_weak pk_nil fun σ H Q ⟨r, S, F, p, hE, hS, h⟩ => h F p H [] (Ext.refl _ _ _) hS rfl⟩
theorem mk_cons (ha : PEm X W e mk) (hr : PKm X W kws kms) : PKm X W (⟨nm, e, kpos⟩ :: kws) (mk :: kms) := ⟨pk_weak (pk_cons ha hr.pk) fun σ H Q ⟨r, S, F, p, hE, hS, h⟩ => by
  refine ⟨r, S, F, p, hE, hS, fine.bind h fun x S1 F1 p1 H1 v _ e1 s1 l1 h1 => ?_⟩
  refine ⟨r, S1, F1, p1, hE.ext e1, s1, fine.bind h1 fun y S2 F2 p2 H2 w _ e2 s2 l2 h2 => ?_⟩
  exact h2 F2 p2 H2 _ (Ext.refl _ _ _) s2 ⟨_, _, rfl, RV.mono e2.f e2.x x l1, l2⟩⟩
theorem run_fnkG {sp : Sp} {gv : List Value → List Value → List Value} {gV : List V → List V → List V} {pins : List (Addr × Obj)} {σ : L2.St} {H : Hp} {s : Shared} {Q : VK} {us ws : List Value} {vs zs : List V} (tk : Takes X W) (F : FnG X.prog X.w X.K X.mg X.base k f fd ps sp) (hgd : X.A.guards = some []) (hr : Room k X.A)
    (hb : KBn X.K fd ps n ks gv gV) (I : Inv X pins σ H s) (r : Vals vs us) (rz : Vals zs ws) (l1 : vs.length = n) (l2 : zs.length = ks.length) (h : sp (gV vs zs) H Q (WE W σ)) : wpAny (model X.prog X.w) X.A (call (.ref f) us (ks.zip ws)) (EP X pins σ Q) X.xe s := by
  have r2 := hb.rel r rz
  refine wpAny_call (codeAny_mono (F.go X.A X.stack s H ⟨us, ks.zip ws⟩ (gv us ws) (gV vs zs) Q (WE W σ) hgd hr I.env0 (hb.to s us ws I.kIn (r.length.symm.trans l1) (rz.length.symm.trans l2)) r2 h) fun res s' hq => ?_)
  match res, hq with
  | .error er, hq => exact passAt tk σ pins H s er s' I hq
  | .ok (.ret u), hq => exact I.after hq
theorem mp_callK (tk : Takes X W) (F : FnG X.prog X.w X.K X.mg X.base k f fd ps (spM X.K n g)) (hgd : X.A.guards = some []) (hr : Room k X.A) (hg : Gl X x) (hm : X.mg x = some (.ref f)) (hk : PySem.W.keepIn X.K (.ref f) = true) (hb : KBm X.K fd ps ms.length ks gM) (hn : ∀ xs zs : List MV, xs.length = ms.length → zs.length = kms.length → (gM xs zs).length = n) (hkl : kms.length = ks.length)
    (ha : PAm X W (e :: es) (mArgs ms)) (hkw : PKm X W kws kms) (hall : (backToKw pos (keywordEach kws X.env)).all (·.1.isSome) = true := by rfl) (hks : (backToKw pos (keywordEach kws X.env)).filterMap (·.1) = ks := by rfl)
    (hdb : (x == ("__debug__" : Str)) = false := by decide) (he : starEach (e :: es) X.env = (false, eval e X.env) :: starEach es X.env := by rfl)
    (hpl : ((backTo pos (starEach (e :: es) X.env)).any (·.1) || (backToKw pos (keywordEach kws X.env)).any (·.1.isNone)) = false := by rfl) : PEm X W (.Call (.Name x p) (e :: es) kws pos) (mCallK gM g ms kms) := by
  obtain ⟨gv, gV, hb, hrel⟩ := hb.ex
  refine ⟨fun pins s σ H Q I ⟨r, S, F', p', hE, hS, h⟩ => ?_⟩
  refine wpAny_Call_Name_kw (ld_glob I hg hm ?_ hdb)
  refine PySem.W.callWith_KW (h₀ := X.base) I.ok.mod.kin hk hall (thn (ha.run pos pins s σ H _ I ⟨r, S, F', p', hE, hS, fine.bind h fun xs S1 F1 p1 H1 vs eq1 x1 s1 l1 h1 =>
    (⟨xs, r, S1, F1, p1, hE.ext x1, s1, l1, mArgs_length eq1, h1⟩ : ∃ xs r S1 F1 p1, RE X.K F1 p1 r σ ∧ RS X.K F1 p1 S1 H1 ∧ RVs X.K F1 p1 xs vs ∧ xs.length = ms.length ∧ fine X.K (RV X.K) F1 p1 H1 σ W Q ((mArgs kms r S1).bind fun zs S => g (gM xs zs) S))⟩) fun us s1 ⟨vs, H1, I1, r1, xs, r, S1, F1, p1, hE1, hS1, l1, hl1, h1⟩ => ?_) hpl he
  refine thn (hkw.pk.run pos pins s1 σ H1 (fun zs H2 => vs.length = ms.length ∧ zs.length = kms.length ∧ spM X.K n g (gV vs zs) H2 Q (WE W σ)) I1 ⟨r, S1, F1, p1, hE1, hS1, fine.bind h1 fun zs S2 F2 p2 H2 ws eq2 x2 s2 l2 h2 => ?_⟩) fun ws s2 ⟨zs, H2, I2, r2, n1, n2, q2⟩ => ⟨I2.kIn, ?_⟩
  · have rl := hrel F2 p2 (RVs.mono x2.f x2.x _ l1) l2
    exact ⟨by rw [l1.length, hl1], by rw [l2.length, mArgs_length eq2], by rw [rl.length]; exact hn xs zs hl1 (mArgs_length eq2), gM xs zs, S2, F2, p2, rl, s2, fine_w h2⟩
  · rw [hks]
    exact run_fnkG tk F hgd hr hb I2 r1 r2 n1 (n2.trans hkl) q2
theorem mp_callK0 (tk : Takes X W) (F : FnG X.prog X.w X.K X.mg X.base k f fd ps (spM X.K n g)) (hgd : X.A.guards = some []) (hr : Room k X.A) (hg : Gl X x) (hm : X.mg x = some (.ref f)) (hk : PySem.W.keepIn X.K (.ref f) = true) (hb : KBm X.K fd ps 0 ks gM) (hn : ∀ xs zs : List MV, xs.length = 0 → zs.length = kms.length → (gM xs zs).length = n) (hkl : kms.length = ks.length)
    (hkw : PKm X W kws kms) (hall : (backToKw pos (keywordEach kws X.env)).all (·.1.isSome) = true := by rfl) (hks : (backToKw pos (keywordEach kws X.env)).filterMap (·.1) = ks := by rfl)
    (hdb : (x == ("__debug__" : Str)) = false := by decide)
    (hpl : ((backTo pos (starEach [] X.env)).any (·.1) || (backToKw pos (keywordEach kws X.env)).any (·.1.isNone)) = false := by rfl) : PEm X W (.Call (.Name x p) [] kws pos) (mCallK gM g [] kms) := by
  obtain ⟨gv, gV, hb, hrel⟩ := hb.ex
  refine ⟨fun pins s σ H Q I ⟨r, S, F', p', hE, hS, h⟩ => ?_⟩
  refine wpAny_Call_Name_kw (ld_glob I hg hm ?_ hdb)
  refine PySem.W.callWith_KW0 (h₀ := X.base) I.ok.mod.kin hk hall ?_ hpl
  refine thn (hkw.pk.run pos pins s σ H (fun zs H2 => zs.length = kms.length ∧ spM X.K n g (gV [] zs) H2 Q (WE W σ)) I ⟨r, S, F', p', hE, hS, fine.bind (show fine X.K (RV X.K) F' p' H σ W Q ((mArgs kms r S).bind fun zs S => g (gM [] zs) S) from h) fun zs S2 F2 p2 H2 ws eq2 x2 s2 l2 h2 => ?_⟩) fun ws s2 ⟨zs, H2, I2, r2, n2, q2⟩ => ⟨I2.kIn, ?_⟩
  · have rl := hrel F2 p2 (xs := []) (vs := []) rfl l2
    exact ⟨by rw [l2.length, mArgs_length eq2], by rw [rl.length]; exact hn [] zs rfl (mArgs_length eq2), gM [] zs, S2, F2, p2, rl, s2, fine_w h2⟩
  · rw [hks]
    exact run_fnkG (us := []) (vs := []) tk F hgd hr hb I2 .nil r2 rfl (n2.trans hkl) q2
theorem meth_go {pins : List (Addr × Obj)} {σ : L2.St} {H : Hp} {s : Shared} {Q : VK} {r : En} {S : So} {F' : Hp} {p' : As} {K : MV → So → R MV} {pl : Sem Bool} {R2 : Value × List Value → Shared → Prop} (ho : PEm X W o mo) (cl : Cls X.K (He.ga X.K c)) (hm : Meth X.K (He.ga X.K c) m f)
    (I : Inv X pins σ H s) (hE : RE X.K F' p' r σ) (hS : RS X.K F' p' S H) (h : fine X.K (RV X.K) F' p' H σ W Q ((mo r S).bind fun x S => if (isCls c x S && !(fldNames x S).contains m) = true then K x S else .bad))
    (fin : ∀ a s1 H1 x S1 F1 p1, Inv X pins σ H1 s1 → RE X.K F1 p1 r σ → RS X.K F1 p1 S1 H1 → RV X.K F1 p1 x (.ref a) → fine X.K (RV X.K) F1 p1 H1 σ W Q (K x S1) → R2 (.ref f, [.ref a]) s1) :
    wpAny (model X.prog X.w) X.A (eval o X.env) (fun ov s1 => wpAny (model X.prog X.w) X.A (getMethod ov m pl) R2 X.xe s1) X.xe s := by
  refine thn (ho.run pins s σ H _ I ⟨r, S, F', p', hE, hS, fine.bind h fun x S1 F1 p1 H1 v e1 x1 s1 l1 h1 => (⟨x, S1, F1, p1, hE.ext x1, s1, l1, h1⟩ : ∃ x S1 F1 p1, RE X.K F1 p1 r σ ∧ RS X.K F1 p1 S1 H1 ∧ RV X.K F1 p1 x v ∧
    fine X.K (RV X.K) F1 p1 H1 σ W Q (if (isCls c x S1 && !(fldNames x S1).contains m) = true then K x S1 else .bad))⟩) fun u s1 ⟨v, H1, I1, rx, x, S1, F1, p1, hE1, hS1, l1, h1⟩ => ?_
  obtain ⟨hc, h1⟩ := fine_if h1
  obtain ⟨a, dx, fs, rfl, ea, l⟩ := meth_ok hS1 l1 hc
  obtain rfl : u = Value.ref a := rx
  exact getmeth_ok I1 ea cl hm l (fin a s1 H1 x S1 F1 p1 I1 hE1 hS1 l1 h1)
theorem mp_meth0 {dvs : List V} {ds : List Value} {mds : List MV} {pl : Sem Bool} (tk : Takes X W) (ho : PEm X W o mo) (cl : Cls X.K (He.ga X.K c)) (hm : Meth X.K (He.ga X.K c) m f) (F : FnG X.prog X.w X.K X.mg X.base k f fd ps (spM X.K n g)) (hgd : X.A.guards = some []) (hr : Room k X.A) (hb : Binds X.K fd ps ds) (hd : Vals dvs ds)
    (hdm : ∀ F p, RVs X.K F p mds dvs) (hn : mds.length + 1 = n)
    (ht : eval (.Call (.Attribute o m apos) [] [] pos) X.env = (do
      let ov ← eval o X.env
      standAt apos.atName
      let (f, first) ← holding [ov] (getMethod ov m pl)
      callWith pos f first (backTo pos (starEach [] X.env)) (backToKw pos (keywordEach [] X.env))) := by rfl) :
    PEm X W (.Call (.Attribute o m apos) [] [] pos) (mMeth c m g mds mo []) := by
  refine ⟨fun pins s σ H Q I ⟨r, S, F', p', hE, hS, h⟩ => ?_⟩
  refine PySem.W.methodCall_KW (pl := pl) (meth_go (K := fun x S => g (x :: mds) S) ho cl hm I hE hS h fun a s1 H1 x S1 F1 p1 I1 hE1 hS1 l1 h1 => ?_) ht
  refine PySem.W.callWith_K0 (first := [.ref a]) I1.kIn hm.kp (run_fnG (us := [.ref a]) (vs := [.ref a]) tk F hgd hr hb hd I1 (.cons rfl .nil) ?_)
  exact ⟨by rw [List.singleton_append, List.length_cons, (hdm F1 p1).length]; exact hn, x :: mds, S1, F1, p1, ⟨_, _, rfl, l1, hdm F1 p1⟩, hS1, fine_w h1⟩
theorem mp_methK {pl : Sem Bool} (tk : Takes X W) (ho : PEm X W o mo) (cl : Cls X.K (He.ga X.K c)) (hm : Meth X.K (He.ga X.K c) m f) (F : FnG X.prog X.w X.K X.mg X.base k f fd ps (spM X.K n g)) (hgd : X.A.guards = some []) (hr : Room k X.A) (hb : KBm X.K fd ps (ms.length + 1) ks gM) (hn : ∀ xs zs : List MV, xs.length = ms.length + 1 → zs.length = kms.length → (gM xs zs).length = n) (hkl : kms.length = ks.length)
    (ha : PAm X W (e :: es) (mArgs ms)) (hkw : PKm X W kws kms) (hall : (backToKw pos (keywordEach kws X.env)).all (·.1.isSome) = true := by rfl) (hks : (backToKw pos (keywordEach kws X.env)).filterMap (·.1) = ks := by rfl)
    (he : starEach (e :: es) X.env = (false, eval e X.env) :: starEach es X.env := by rfl)
    (hpl : ((backTo pos (starEach (e :: es) X.env)).any (·.1) || (backToKw pos (keywordEach kws X.env)).any (·.1.isNone)) = false := by rfl)
    (ht : eval (.Call (.Attribute o m apos) (e :: es) kws pos) X.env = (do
      let ov ← eval o X.env
      standAt apos.atName
      let (f, first) ← holding [ov] (getMethod ov m pl)
      callWith pos f first (backTo pos (starEach (e :: es) X.env)) (backToKw pos (keywordEach kws X.env))) := by rfl) :
    PEm X W (.Call (.Attribute o m apos) (e :: es) kws pos) (mMethK c m gM g mo ms kms) := by
  obtain ⟨gv, gV, hb, hrel⟩ := hb.ex
  refine ⟨fun pins s σ H Q I ⟨r, S, F', p', hE, hS, h⟩ => ?_⟩
  refine PySem.W.methodCall_KW (pl := pl) (meth_go (K := fun x S => (mArgs ms r S).bind fun xs S => (mArgs kms r S).bind fun zs S => g (gM (x :: xs) zs) S) ho cl hm I hE hS h fun a s1 H1 x S1 F1 p1 I1 hE1 hS1 l1 h1 => ?_) ht
  refine PySem.W.callWith_KW (first := [.ref a]) (h₀ := X.base) I1.ok.mod.kin hm.kp hall (thn (ha.run pos pins s1 σ H1 _ I1 ⟨r, S1, F1, p1, hE1, hS1, fine.bind h1 fun xs S2 F2 p2 H2 vs eq1 x2 s2 l2 h2 =>
    (⟨xs, S2, F2, p2, hE1.ext x2, s2, RV.mono x2.f x2.x x l1, l2, mArgs_length eq1, h2⟩ : ∃ xs S2 F2 p2, RE X.K F2 p2 r σ ∧ RS X.K F2 p2 S2 H2 ∧ RV X.K F2 p2 x (.ref a) ∧ RVs X.K F2 p2 xs vs ∧ xs.length = ms.length ∧ fine X.K (RV X.K) F2 p2 H2 σ W Q ((mArgs kms r S2).bind fun zs S => g (gM (x :: xs) zs) S))⟩) fun us s2 ⟨vs, H2, I2, r2, xs, S2, F2, p2, hE2, hS2, lx, l2, hl2, h2⟩ => ?_) hpl he
  refine thn (hkw.pk.run pos pins s2 σ H2 (fun zs H3 => vs.length = ms.length ∧ zs.length = kms.length ∧ spM X.K n g (gV (.ref a :: vs) zs) H3 Q (WE W σ)) I2 ⟨r, S2, F2, p2, hE2, hS2, fine.bind h2 fun zs S3 F3 p3 H3 ws eq3 x3 s3 l3 h3 => ?_⟩) fun ws s3 ⟨zs, H3, I3, r3, n1, n2, q3⟩ => ⟨I3.kIn, ?_⟩
  · have rl := hrel F3 p3 (xs := x :: xs) (vs := .ref a :: vs) ⟨_, _, rfl, RV.mono x3.f x3.x x lx, RVs.mono x3.f x3.x _ l2⟩ l3
    exact ⟨by rw [l2.length, hl2], by rw [l3.length, mArgs_length eq3], by rw [rl.length]; exact hn (x :: xs) zs (congrArg Nat.succ hl2) (mArgs_length eq3), gM (x :: xs) zs, S3, F3, p3, rl, s3, fine_w h3⟩
  · rw [hks]
    exact run_fnkG (us := .ref a :: us) (vs := .ref a :: vs) tk F hgd hr hb I3 (.cons rfl r2) r3 (congrArg Nat.succ n1) (n2.trans hkl) q3
theorem mp_methK0 {pl : Sem Bool} (tk : Takes X W) (ho : PEm X W o mo) (cl : Cls X.K (He.ga X.K c)) (hm : Meth X.K (He.ga X.K c) m f) (F : FnG X.prog X.w X.K X.mg X.base k f fd ps (spM X.K n g)) (hgd : X.A.guards = some []) (hr : Room k X.A) (hb : KBm X.K fd ps 1 ks gM) (hn : ∀ xs zs : List MV, xs.length = 1 → zs.length = kms.length → (gM xs zs).length = n) (hkl : kms.length = ks.length)
    (hkw : PKm X W kws kms) (hall : (backToKw pos (keywordEach kws X.env)).all (·.1.isSome) = true := by rfl) (hks : (backToKw pos (keywordEach kws X.env)).filterMap (·.1) = ks := by rfl)
    (hpl : ((backTo pos (starEach [] X.env)).any (·.1) || (backToKw pos (keywordEach kws X.env)).any (·.1.isNone)) = false := by rfl)
    (ht : eval (.Call (.Attribute o m apos) [] kws pos) X.env = (do
      let ov ← eval o X.env
      standAt apos.atName
      let (f, first) ← holding [ov] (getMethod ov m pl)
      callWith pos f first (backTo pos (starEach [] X.env)) (backToKw pos (keywordEach kws X.env))) := by rfl) :
    PEm X W (.Call (.Attribute o m apos) [] kws pos) (mMethK c m gM g mo [] kms) := by
  obtain ⟨gv, gV, hb, hrel⟩ := hb.ex
  refine ⟨fun pins s σ H Q I ⟨r, S, F', p', hE, hS, h⟩ => ?_⟩
  refine PySem.W.methodCall_KW (pl := pl) (meth_go (K := fun x S => (mArgs kms r S).bind fun zs S => g (gM [x] zs) S) ho cl hm I hE hS h fun a s1 H1 x S1 F1 p1 I1 hE1 hS1 l1 h1 => ?_) ht
  refine PySem.W.callWith_KW0 (first := [.ref a]) (h₀ := X.base) I1.ok.mod.kin hm.kp hall ?_ hpl
  refine thn (hkw.pk.run pos pins s1 σ H1 (fun zs H3 => zs.length = kms.length ∧ spM X.K n g (gV [.ref a] zs) H3 Q (WE W σ)) I1 ⟨r, S1, F1, p1, hE1, hS1, fine.bind h1 fun zs S3 F3 p3 H3 ws eq3 x3 s3 l3 h3 => ?_⟩) fun ws s3 ⟨zs, H3, I3, r3, n2, q3⟩ => ⟨I3.kIn, ?_⟩
  · have rl := hrel F3 p3 (xs := [x]) (vs := [.ref a]) (RVs.one (RV.mono x3.f x3.x x l1)) l3
    exact ⟨by rw [l3.length, mArgs_length eq3], by rw [rl.length]; exact hn [x] zs rfl (mArgs_length eq3), gM [x] zs, S3, F3, p3, rl, s3, fine_w h3⟩
  · rw [hks]
    exact run_fnkG (us := [.ref a]) (vs := [.ref a]) tk F hgd hr hb I3 (.cons rfl .nil) r3 rfl (n2.trans hkl) q3
end
end Mi

set_option maxHeartbeats 4000000
namespace Mi
open PySem PySem.Spec PyProof.Rows L2
theorem law_noexc {P : Program} {w : World} {H : Hp} {s : Shared} {Q : VK} {e : Value} {s' : Shared} {outer : List Env} (h : CR (L2.CX P w) outer P w H s Q (fun _ _ _ => False) (.error e) s') : False := by
  obtain ⟨_, _, _, _, _, _, _, _, _, _, _, _, z⟩ := h
  exact z.elim
theorem law_callG {P : Program} {w : World} {K : PySem.W.Frag} {mg mb : Str → Option Value} {k : Nat} {fa a : Addr} {fd : FuncData} {x : Str} {sp : Sp} {s₁ : Shared} {vs : List Value} {ns : List Int}
    (KX : K.In s₁.heap) (hns : s₁.heap.Ns mainGlobals mg) (hb : s₁.heap.Ns builtinsNs mb) (hbb : ∀ x : Str, x ≠ "__name__" → mb x = bootBuiltins x) (hlim : s₁.heap.NoLimit) (hg : s₁.gens = #[])
    (ha : s₁.heap.get? a = some { cls := .type "list", data := .seq vs.toArray }) (hi : IntsAre vs ns) (hl : ns.length ≤ sizeLine) (hr : Room k callerA)
    (F : ∀ base : Heap, K.In base → base.Ns mainGlobals mg → FnG P w K mg base k fa fd [x] sp) (hbind : ∀ (s : Shared) (u : Value), BindsTo s fd ⟨[u], []⟩ [(x, u)])
    (hsp : ∀ H : Hp, Only H → SqL K H a (ns.map V.int) → sp [.ref a] H (fun v _ => v = .bl true) fun _ _ _ => False) :
    codeAny (model P w) callerA (.call (.ref fa) ⟨[.ref a], []⟩) (fun r s' => r = .ok (.ret (.bool true)) ∧ OldK s₁.heap s'.heap ∧ s'.os = s₁.os ∧ AllBare s'.gens) s₁ := by
  have rw1 := vals_ints hi
  have ln1 := hi.length
  -- from an abstract heap in which nothing but the script may be tracked
  have mid : ∀ H : Hp, Only H → SqL K H a (ns.map V.int) → HOk P w H s₁.heap → (∀ b, H b ≠ none → b = a) → (H a ≠ none → K.lookup a = none) →
      codeAny (model P w) callerA (.call (.ref fa) ⟨[.ref a], []⟩) (fun r s' => r = .ok (.ret (.bool true)) ∧ OldK s₁.heap s'.heap ∧ s'.os = s₁.os ∧ AllBare s'.gens) s₁ := by
    intro H hO hS hok hA hK
    have bs1 : ∀ {b : Addr} {o : Obj}, s₁.heap.get? b = some o → H b = none → (hidT s₁.heap H).get? b = some o := fun e n => hidT_get e n
    have nA1 : ∀ {b : Addr} {o : Obj} {es : Array DictEntry} {ep : Nat}, s₁.heap.get? b = some o → o.data = .dict es ep → H b = none := fun {b o es ep} e d => by
      cases q : H b with
      | none => rfl
      | some u =>
        have e' : b = a := hA b (by rw [q]; simp)
        subst e'
        rw [ha] at e; cases e
        have d' : Data.seq vs.toArray _ = Data.dict es ep := d
        cases d'
    have nK1 : ∀ {b : Addr} {m : Str → Option Value}, s₁.heap.Ns b m → (hidT s₁.heap H).Ns b m := fun {b m} ⟨o, es, ep, e, d, r⟩ => ⟨o, es, ep, bs1 e (nA1 e d), d, r⟩
    have kB1 : K.In (hidT s₁.heap H) := fun b o e => bs1 (KX b o e) (by
      cases q : H b with
      | none => rfl
      | some u =>
        have e' : b = a := hA b (by rw [q]; simp)
        subst e'
        rw [hK (by rw [q]; simp)] at e; cases e)
    have mM1 : Mod K mg (hidT s₁.heap H) := ⟨kB1, nK1 hns, ⟨mb, nK1 hb, hbb⟩, let ⟨mc, h1, h2⟩ := hlim; ⟨mc, nK1 h1, h2⟩⟩
    have ev0 : Env0 P w K mg (hidT s₁.heap H) callerA [] s₁ H := ⟨rfl, mM1, fun b o e => of_hidT e, Nat.le_of_eq (hidT_size _ _), trivial, fun b hb => absurd (show b ∈ ([] : List Addr) from hb) (by simp), hok, .of_eq hg⟩
    refine codeAny_mono ((F _ kB1 (nK1 hns)).go callerA [] s₁ H ⟨[.ref a], []⟩ [.ref a] [.ref a] _ _ rfl hr ev0 (hbind s₁ (.ref a)) (.cons rfl .nil) (hsp H hO hS)) fun r s' h => ?_
    cases r with
    | error e => exact (law_noexc h).elim
    | ok fl =>
      cases fl with
      | next => exact False.elim h
      | brk => exact False.elim h
      | cont => exact False.elim h
      | ret u =>
        obtain ⟨v, H', os, bare, un, hok', r', q⟩ := h
        have q' : v = .bl true := q
        subst q'
        obtain rfl : u = Value.bool true := r'
        refine ⟨rfl, OldK.of_keep fun b o e => ?_, os, bare⟩
        cases q : H b with
        | none => exact un.keep b o e q (by intro z; exact absurd (show b ∈ ([] : List Addr) from z) (by simp)) (by simp)
        | some u =>
          rcases hO b with z | ⟨ob, xs, z⟩
          · rw [q] at z; cases z
          · have z2 := un.frzs b ob _ z
            obtain ⟨e1, _⟩ := hok b _ z
            obtain ⟨e2, _⟩ := hok' b _ z2
            rw [e] at e1; cases e1
            exact e2
  cases hk : K.lookup a with
  | some o =>
    -- the script is one of the module's own objects
    have e := KX a o hk
    rw [ha] at e
    cases e
    refine mid (fun _ => none) (fun _ => .inl rfl) (.inr ⟨_, vs.toArray, _, hk, rfl, rfl, rfl, by rw [List.size_toArray, ln1]; exact hl, by simpa using rw1⟩) (fun b u z => by have z' : (none : Option HO) = some u := z; cases z') (fun b z => absurd rfl z) fun z => absurd rfl z
  | none =>
    refine mid (fun b => if b = a then some (.frz { cls := .type "list", data := .seq vs.toArray } (.lst (ns.map V.int))) else none) (fun b => ?_) (.inl (.inr ⟨{ cls := .type "list", data := .seq vs.toArray }, if_pos rfl⟩)) (fun b u z => ?_) (fun b z => ?_) fun _ => hk
    · by_cases hb : b = a
      · exact .inr ⟨_, _, if_pos hb⟩
      · exact .inl (if_neg hb)
    · by_cases hb : b = a
      · have z' := (if_pos hb).symm.trans z
        cases z'
        subst hb
        exact ⟨ha, by rw [List.length_map]; exact hl, vs, _, rw1, ha⟩
      · have z' := (if_neg hb).symm.trans z
        cases z'
    · by_cases hb : b = a
      · exact hb
      · exact absurd (if_neg hb) z

theorem start_spM {K : Fg} {H : Hp} {a : Addr} {ns : List Int} {lawF : DF} {S' : So} (hS : SqL K H a (ns.map V.int)) (hl : ns.length ≤ 63) (h : lawF [.scr (ns.map MV.int)] [] = .ok (.bl true) S') :
    spM K 1 lawF [.ref a] H (fun v _ => v = .bl true) (fun _ _ _ => False) := by
  have go : ∀ l : List Int, RVs K H [] (l.map MV.int) (l.map V.int) := fun l => by
    induction l with
    | nil => exact rfl
    | cons i l ih => exact ⟨_, _, rfl, rfl, ih⟩
  refine ⟨rfl, [.scr (ns.map MV.int)], [], H, [], RVs.one ⟨a, _, rfl, hS, ?_, go ns⟩, ⟨Same.refl _, rfl, fun i j b e => by simp at e, fun i o b e => by simp at e⟩, ?_⟩
  · rw [List.length_map]; exact small_line (Nat.le_trans hl (by decide))
  · rw [h]
    exact fun F' p' H' v _ _ l => l
theorem walkG {l : PySem.W.OpenLaw} {k : Nat} {q : Program} {loose : List PySem.Str} {XP : (PySem.Str → Option Value) → Heap → Prop} {YP : World → Heap → Prop} {d : DefRec} {x : PySem.Str} {lawF : DF}
    (hn : l.most = some 63) (hdf : d.params.defaults = []) (hr : Room k callerA)
    (hlaw : ∀ ns : List Int, ns.length ≤ 63 → (∀ z ∈ ns, Builtin.Int.intBits z ≤ 1048576) → ∃ S', lawF [.scr (ns.map MV.int)] [] = .ok (.bl true) S')
    (F : ∀ (w : World) (mg : PySem.Str → Option Value) (fa : Addr) (h : Heap), YP w h → h.Ns mainGlobals mg → mg d.name = some (.ref fa) →
      ∃ (K : Fg) (fd : FuncData), K.In h ∧ (∀ (s : Shared) (u : Value), BindsTo s fd ⟨[u], []⟩ [(x, u)]) ∧ ∀ base : Heap, K.In base → base.Ns mainGlobals mg → FnG l.prog w K mg base k fa fd [x] (spM K 1 lawF)) :
    PySem.W.WalkO q loose XP YP l.row.toRowW d [] (fun f vs => PySem.call f vs) := by
  refine Att.attach_callB hn hdf fun w s₀ s₁ mg mb fa o pm cd doc a vs ns G Y ho hd hcd hmg hobj hints hlen hbits hg => ?_
  obtain ⟨K, fd, KX, hb, hF⟩ := F w mg fa _ Y G.T.g hmg
  obtain ⟨S', e⟩ := hlaw ns hlen hbits
  exact law_callG KX G.T.g G.T.b G.T.builtins G.T.nolimit hg hobj hints (small_line (Nat.le_trans hlen (by decide))) hr hF hb (fun H hO hS => start_spM hS hlen e)
end Mi

set_option maxHeartbeats 4000000
namespace Mi
open PySem PySem.Spec PyProof.Rows L2
structure Df where
  at_ : Fg → Addr
  name : Str
  qual : Str
  params : Arguments
  body : List Stmt
  scope : Scope
def gAt (x : Str) : Fg → Addr := fun K => He.ga K x
def mAt (c m : Str) : Fg → Addr := fun K => He.ma K (He.ga K c) m
def pAt (c f : Str) : Fg → Addr := fun K => He.ma K (He.ga K c) f
/-- a property's getter -/
def pgAt (c f : Str) : Fg → Addr := fun K => match PySem.W.recIn K (pAt c f K) "property" with
  | some (.ref g :: _) => g
  | _ => 0
def fnAt (K : Fg) (a : Addr) : He.FnW := match K.lookup a with
  | some ⟨_, _, .func fd, _⟩ => some (fd.name, fd.qualname, fd.params, fd.body, fd.scope, fd.globals, fd.closure, fd.builtins)
  | _ => none
def Df.val (d : Df) : He.FnW := some (d.name, d.qual, d.params, .stmts d.body, d.scope, mainGlobals, [], builtinsNs)
def Df.ok (K : Fg) (d : Df) : Bool := PySem.W.keepIn K (.ref (d.at_ K)) && (match K.lookup (d.at_ K) with
  | some ⟨_, _, .func fd, _⟩ => PySem.W.codeIn K fd.code d.qual && He.dflB K fd.defaults []
  | _ => false)
theorem Df.funD {K : Fg} {d : Df} (e : fnAt K (d.at_ K) = d.val) (c : d.ok K = true) : ∃ fd, FunD K d.name d.qual d.params d.body d.scope [] [] (d.at_ K) fd := by
  obtain ⟨kp, c2⟩ := He.ba c
  unfold fnAt at e
  cases q : K.lookup (d.at_ K) with
  | none => rw [q] at c2; cases c2
  | some o =>
    obtain ⟨oc, od, dt, osl⟩ := o
    rw [q] at c2 e
    cases dt with
    | func fd =>
      obtain ⟨n1, n2, n3, n4, n5, n6, n7, n8, n9, n10, n11, n12, n13, n14, n15⟩ := fd
      have e2 : (some (n1, n2, n3, n4, n5, n6, n7, n15) : He.FnW) = some (d.name, d.qual, d.params, .stmts d.body, d.scope, mainGlobals, [], builtinsNs) := e
      simp only [Option.some.injEq, Prod.mk.injEq] at e2
      obtain ⟨h1, h2, h3, h4, h5, h6, h7, h8⟩ := e2
      subst h1 h2 h3 h4 h5 h6 h7 h8
      obtain ⟨k1, k2⟩ := He.ba (show (PySem.W.codeIn K n13 d.qual && He.dflB K n8 []) = true from c2)
      exact ⟨_, ⟨oc, od, n8, n9, n10, n11, n12, n13, n14, osl, rfl, q, k1, He.dflB_ok k2, He.kwdB_ok (kws := []) rfl⟩, kp⟩
    | _ => cases c2
abbrev Ft := Fg → Bool
abbrev valB (fn : List Df) : He.AlD := (true, fn.map Df.val)
def obsB (fb : List Ft) (fn : List Df) (K : Fg) : He.AlD := ((fb.all fun t => t K) && fn.all fun d => d.ok K, fn.map fun d => fnAt K (d.at_ K))
def SaysB (fb : List Ft) (fn : List Df) (K : Fg) : Prop := obsB fb fn K = valB fn
def obsBG (n : Nat) (fb : List Ft) (fn : List Df) (g : Addr → Option Obj) : He.AlD := obsB fb fn (He.frG g (He.asD g n))
def hookB (n : Nat) (fb : List Ft) (fn : List Df) : PySem.W.Hook where
  α := He.AlD
  obs := fun s => obsBG n fb fn s.heap.get?
  val := fun _ => valB fn
  says := fun _ h => ∃ K : Fg, K.In h ∧ SaysB fb fn K
  of := fun _ _ e => ⟨_, He.frG_in, e⟩
  keeps := fun _ _ _ ⟨K, hK, c⟩ k => ⟨K, PySem.W.Frag.In.keeps hK k, c⟩
theorem obsBG_eq {n : Nat} {fb : List Ft} {fn : List Df} {g : Addr → Option Obj} {s : Shared} (h : ∀ a, g a = s.heap.get? a) : obsBG n fb fn g = (hookB n fb fn).obs s := by
  have e : g = s.heap.get? := funext h
  rw [e] <;> rfl
section
variable {fb : List Ft} {fn : List Df} {K : Fg}
theorem SaysB.fact (c : SaysB fb fn K) {i : Nat} {t : Ft} (h : fb[i]? = some t) : t K = true := by
  have c1 := (He.ba (show ((fb.all fun t => t K) && fn.all fun d => d.ok K) = true from congrArg (fun z : He.AlD => z.1) c)).1
  exact List.all_eq_true.mp c1 t (List.mem_of_getElem? h)
theorem SaysB.def_ (c : SaysB fb fn K) {i : Nat} {d : Df} (h : fn[i]? = some d) : ∃ fd, FunD K d.name d.qual d.params d.body d.scope [] [] (d.at_ K) fd := by
  have c2 := (He.ba (show ((fb.all fun t => t K) && fn.all fun d => d.ok K) = true from congrArg (fun z : He.AlD => z.1) c)).2
  have e : fn.map (fun d => fnAt K (d.at_ K)) = fn.map Df.val := congrArg (fun z : He.AlD => z.2) c
  have e2 : (fn.map fun d => fnAt K (d.at_ K))[i]? = (fn.map Df.val)[i]? := by rw [e]
  rw [List.getElem?_map, List.getElem?_map, h] at e2
  exact Df.funD (Option.some.inj e2) (List.all_eq_true.mp c2 d (List.mem_of_getElem? h))
end
structure DOk (P : Program) (w : World) (K : Fg) (mg : Str → Option Value) (d : Df) (ps : List Str) (k n : Nat) (g : DF) : Prop where
  ex : ∃ fd, FunD K d.name d.qual d.params d.body d.scope [] [] (d.at_ K) fd ∧ Binds K fd ps [] ∧ ∀ base : Heap, FnG P w K mg base k (d.at_ K) fd ps (spM K n g)
section
variable {X : Cx} {W : WX} {k n : Nat} {d : Df} {ps : List Str} {g : DF} {x m c : Str} {p pos apos : Pos} {e o : Expr} {es : List Expr} {ms : List ME} {mo : ME}
theorem DOk.mono {P : Program} {w : World} {K : Fg} {mg : Str → Option Value} {j : Nat} (D : DOk P w K mg d ps j n g) (h : j ≤ k) : DOk P w K mg d ps k n g := by
  obtain ⟨fd, a, b, F⟩ := D.ex
  exact ⟨fd, a, b, fun base => (F base).mono h⟩
theorem dCall (tk : Takes X W) (D : DOk X.prog X.w X.K X.mg d ps k n g) (hgd : X.A.guards = some []) (hr : Room k X.A) (hg : Gl X x) (hm : X.mg x = some (.ref (d.at_ X.K))) (ha : PAm X W (e :: es) (mArgs ms)) (hn : ms.length + 0 = n := by rfl)
    (hdb : (x == ("__debug__" : Str)) = false := by decide) (he : starEach (e :: es) X.env = (false, eval e X.env) :: starEach es X.env := by rfl) (hpl : (backTo pos (starEach es X.env)).any (·.1) = false := by rfl) : PEm X W (.Call (.Name x p) (e :: es) [] pos) (mCall g [] ms) := by
  obtain ⟨fd, a, b, F⟩ := D.ex
  exact mp_call tk (F _) hgd hr hg hm a.kp b .nil (fun _ _ => rfl) hn ha hdb he hpl
theorem dCall0 (tk : Takes X W) (D : DOk X.prog X.w X.K X.mg d ps k 0 g) (hgd : X.A.guards = some []) (hr : Room k X.A) (hg : Gl X x) (hm : X.mg x = some (.ref (d.at_ X.K)))
    (hdb : (x == ("__debug__" : Str)) = false := by decide) : PEm X W (.Call (.Name x p) [] [] pos) (mCall g [] []) := by
  obtain ⟨fd, a, b, F⟩ := D.ex
  exact mp_call0 tk (F _) hgd hr hg hm a.kp b .nil (fun _ _ => rfl) rfl hdb
theorem dMeth {pl : Sem Bool} (tk : Takes X W) (D : DOk X.prog X.w X.K X.mg d ps k n g) (ho : PEm X W o mo) (cl : Cls X.K (He.ga X.K c)) (hm : Meth X.K (He.ga X.K c) m (d.at_ X.K)) (hgd : X.A.guards = some []) (hr : Room k X.A) (ha : PAm X W (e :: es) (mArgs ms)) (hn : ms.length + 0 + 1 = n := by rfl)
    (hst : starEach (e :: es) X.env = (false, eval e X.env) :: starEach es X.env := by rfl) (hpl : (backTo pos (starEach es X.env)).any (·.1) = false := by rfl)
    (ht : eval (.Call (.Attribute o m apos) (e :: es) [] pos) X.env = (do
      let ov ← eval o X.env
      standAt apos.atName
      let (f, first) ← holding [ov] (getMethod ov m pl)
      callWith pos f first (backTo pos (starEach (e :: es) X.env)) (backToKw pos (keywordEach [] X.env))) := by rfl) : PEm X W (.Call (.Attribute o m apos) (e :: es) [] pos) (mMeth c m g [] mo ms) := by
  obtain ⟨fd, a, b, F⟩ := D.ex
  exact mp_meth tk ho cl hm (F _) hgd hr b .nil (fun _ _ => rfl) hn ha hst hpl ht
theorem dMeth0 {pl : Sem Bool} (tk : Takes X W) (D : DOk X.prog X.w X.K X.mg d ps k 1 g) (ho : PEm X W o mo) (cl : Cls X.K (He.ga X.K c)) (hm : Meth X.K (He.ga X.K c) m (d.at_ X.K)) (hgd : X.A.guards = some []) (hr : Room k X.A)
    (ht : eval (.Call (.Attribute o m apos) [] [] pos) X.env = (do
      let ov ← eval o X.env
      standAt apos.atName
      let (f, first) ← holding [ov] (getMethod ov m pl)
      callWith pos f first (backTo pos (starEach [] X.env)) (backToKw pos (keywordEach [] X.env))) := by rfl) : PEm X W (.Call (.Attribute o m apos) [] [] pos) (mMeth c m g [] mo []) := by
  obtain ⟨fd, a, b, F⟩ := D.ex
  exact mp_meth0 tk ho cl hm (F _) hgd hr b .nil (fun _ _ => rfl) rfl ht
theorem dMake (tk : Takes X W) (D : DOk X.prog X.w X.K X.mg d ps k n g) (M : Mk X.K (He.ga X.K c) (d.at_ X.K)) (hgd : X.A.guards = some []) (hr : Room (k + 1) X.A) (hg : Gl X x) (hm : X.mg x = some (.ref (He.ga X.K c))) (ha : PAm X W (e :: es) (mArgs ms)) (hn : ms.length + 0 + 1 = n := by rfl)
    (hdb : (x == ("__debug__" : Str)) = false := by decide) (he : starEach (e :: es) X.env = (false, eval e X.env) :: starEach es X.env := by rfl) (hpl : (backTo pos (starEach es X.env)).any (·.1) = false := by rfl) : PEm X W (.Call (.Name x p) (e :: es) [] pos) (mMake c g [] ms) := by
  obtain ⟨fd, a, b, F⟩ := D.ex
  exact mp_make tk M (F _) hgd hr hg hm b .nil (fun _ _ => rfl) hn ha hdb he hpl
theorem dProp {f : Str} {pa : Addr} (D : DOk X.prog X.w X.K X.mg d ps k 1 g) (he : PEm X W e mo) (cl : Cls X.K (He.ga X.K c)) (hp : PropOf X.K (He.ga X.K c) f pa (d.at_ X.K)) (hgd : X.A.guards = some []) (hr : Room (k + 1) X.A)
    (hb : attributeBase e f X.env (eval e X.env) = eval e X.env := by rfl) : PEm X W (.Attribute e f pos) (mProp c g mo) := by
  obtain ⟨fd, a, b, F⟩ := D.ex
  exact mp_prop he cl hp (F _) hgd hr b hb
theorem dOwn {op : Operator} (tk : Takes X W) (D : DOk X.prog X.w X.K X.mg d ps k 2 g) (O : OwnB X.K (He.ga X.K c) op.info.2 (d.at_ X.K)) (hgd : X.A.guards = some []) (hr : Room k X.A) : OpM X W (binaryOp op) (gOwn c g) := by
  obtain ⟨fd, a, b, F⟩ := D.ex
  exact om_own tk O (F _) hgd hr b
theorem dRadd (tk : Takes X W) (D : DOk X.prog X.w X.K X.mg d ps k 2 g) (O : OwnR X.K (He.ga X.K c) "add" (d.at_ X.K)) (hgd : X.A.guards = some []) (hr : Room k X.A) : OpM X W (binaryOp .Add) (gOwnR c g) := by
  obtain ⟨fd, a, b, F⟩ := D.ex
  exact om_radd tk O (F _) hgd hr b
theorem dRsub (tk : Takes X W) (D : DOk X.prog X.w X.K X.mg d ps k 2 g) (O : OwnR X.K (He.ga X.K c) "sub" (d.at_ X.K)) (hgd : X.A.guards = some []) (hr : Room k X.A) : OpM X W (binaryOp .Sub) (gOwnR c g) := by
  obtain ⟨fd, a, b, F⟩ := D.ex
  exact om_rsub tk O (F _) hgd hr b
theorem dRmul (tk : Takes X W) (D : DOk X.prog X.w X.K X.mg d ps k 2 g) (O : OwnR X.K (He.ga X.K c) "mul" (d.at_ X.K)) (hgd : X.A.guards = some []) (hr : Room k X.A) : OpM X W (binaryOp .Mult) (gOwnR c g) := by
  obtain ⟨fd, a, b, F⟩ := D.ex
  exact om_rmul tk O (F _) hgd hr b
theorem dRand (tk : Takes X W) (D : DOk X.prog X.w X.K X.mg d ps k 2 g) (O : OwnR X.K (He.ga X.K c) "and" (d.at_ X.K)) (hgd : X.A.guards = some []) (hr : Room k X.A) : OpM X W (binaryOp .BitAnd) (gOwnR c g) := by
  obtain ⟨fd, a, b, F⟩ := D.ex
  exact om_rand tk O (F _) hgd hr b
theorem dRor (tk : Takes X W) (D : DOk X.prog X.w X.K X.mg d ps k 2 g) (O : OwnR X.K (He.ga X.K c) "or" (d.at_ X.K)) (hgd : X.A.guards = some []) (hr : Room k X.A) : OpM X W (binaryOp .BitOr) (gOwnR c g) := by
  obtain ⟨fd, a, b, F⟩ := D.ex
  exact om_ror tk O (F _) hgd hr b
end
/-- a def that is never reached deep enough -/
theorem bad_def {P : Program} {w : World} {K : Fg} {mg : Str → Option Value} {base : Heap} {k n : Nat} {f : Addr} {fd : FuncData} {ps : List Str} (hn : n = ps.length) : FnG P w K mg base k f fd ps (spM K n fun _ _ => .bad) :=
  ⟨fun vs H Q E h => h.1.trans hn, fun A outer s H args us vs Q E _ _ _ _ _ h => by obtain ⟨_, _, _, _, _, _, _, z⟩ := h; exact z.elim⟩
def perm {α : Type} (ix : List Nat) (l : List α) : List α := ix.filterMap fun i => l[i]?
theorem vals_at : ∀ {vs : List V} {us : List Value} (i : Nat), Vals vs us → (∃ v u, vs[i]? = some v ∧ us[i]? = some u ∧ RelV v u) ∨ (vs[i]? = none ∧ us[i]? = none)
  | _, _, _, .nil => .inr ⟨rfl, rfl⟩
  | _, _, 0, .cons r _ => .inl ⟨_, _, rfl, rfl, r⟩
  | _, _, i + 1, .cons _ t => by simpa using vals_at i t
theorem vals_perm {vs : List V} {us : List Value} (h : Vals vs us) : ∀ ix : List Nat, Vals (perm ix vs) (perm ix us)
  | [] => .nil
  | i :: ix => by
    unfold perm
    rcases vals_at i h with ⟨v, u, e1, e2, r⟩ | ⟨e1, e2⟩
    · rw [List.filterMap_cons_some e1, List.filterMap_cons_some e2]; exact .cons r (vals_perm h ix)
    · rw [List.filterMap_cons_none e1, List.filterMap_cons_none e2]; exact vals_perm h ix
theorem rvs_at {K : Fg} {F : Hp} {p : As} : ∀ {vs : List MV} {us : List V} (i : Nat), RVs K F p vs us → (∃ v u, vs[i]? = some v ∧ us[i]? = some u ∧ RV K F p v u) ∨ (vs[i]? = none ∧ us[i]? = none)
  | [], _, _, h => by cases h; exact .inr ⟨rfl, rfl⟩
  | x :: xs, _, 0, h => by obtain ⟨v, r, rfl, h1, h2⟩ := h; exact .inl ⟨_, _, rfl, rfl, h1⟩
  | x :: xs, _, i + 1, h => by obtain ⟨v, r, rfl, h1, h2⟩ := h; simpa using rvs_at i h2
theorem rvs_perm {K : Fg} {F : Hp} {p : As} {vs : List MV} {us : List V} (h : RVs K F p vs us) : ∀ ix : List Nat, RVs K F p (perm ix vs) (perm ix us)
  | [] => rfl
  | i :: ix => by
    unfold perm
    rcases rvs_at i h with ⟨v, u, e1, e2, r⟩ | ⟨e1, e2⟩
    · rw [List.filterMap_cons_some e1, List.filterMap_cons_some e2]; exact ⟨_, _, rfl, r, rvs_perm h ix⟩
    · rw [List.filterMap_cons_none e1, List.filterMap_cons_none e2]; exact rvs_perm h ix
abbrev gPm (ix : List Nat) (xs zs : List MV) : List MV := perm ix (xs ++ zs)
theorem kb_plain {K : Fg} {x qual : Str} {params : Arguments} {body : List Stmt} {scope : Scope} {kws : List (Str × V)} {f : Addr} {fd : FuncData} {ps : List Str} (F : FunD K x qual params body scope [] kws f fd) (nn : Nat) (ks : List Str) (ix : List Nat)
    (h : ∀ (kV doc pm : Value) (an : Option Addr) (cdv ct : Value) (us ws : List Value), us.length = nn → ws.length = ks.length → bindArgs (PySem.W.fnOf x qual params body scope .none kV doc pm an cdv ct) ⟨us, ks.zip ws⟩ = pure (ps.zip (perm ix (us ++ ws)))) : KBm K fd ps nn ks (gPm ix) := by
  refine ⟨fun us ws => perm ix (us ++ ws), fun vs zs => perm ix (vs ++ zs), ⟨fun s us ws _ l1 l2 => ?_, fun r1 r2 => vals_perm (r1.append r2) ix⟩, fun F p _ _ _ _ h1 h2 => rvs_perm (h1.app h2) ix⟩
  obtain ⟨oc, od, dV, kV, doc, pm, an, cdv, ct, osl, rfl, lk, hcd, hD, hK⟩ := F.ex
  rcases hD with ⟨_, rfl⟩ | ⟨e, _⟩
  · exact .of_eq (h kV doc pm an cdv ct us ws l1 l2)
  · exact absurd rfl e
theorem rm0 {k : Nat} {A : Around} (r : Room k A) : A.units + 1 < cLine := by have := r.un; omega
theorem rm1 {k : Nat} {A : Around} (r : Room k A) : A.units < cLine := by have := r.un; omega
theorem rm2 {k : Nat} {A : Around} (r : Room k A) : A.units + 64 < cLine := by have := r.un; omega
section
variable {X : Cx} {W : WX} {k n : Nat} {d : Df} {ps ks : List Str} {ix : List Nat} {g : DF} {x m c : Str} {p pos apos : Pos} {e o : Expr} {es : List Expr} {ms kms : List ME} {mo : ME} {kws : List Keyword}
theorem dCallK (tk : Takes X W) (D : DOk X.prog X.w X.K X.mg d ps k n g) (hgd : X.A.guards = some []) (hr : Room k X.A) (hg : Gl X x) (hm : X.mg x = some (.ref (d.at_ X.K)))
    (kb : ∀ fd, FunD X.K d.name d.qual d.params d.body d.scope [] [] (d.at_ X.K) fd → KBm X.K fd ps ms.length ks (gPm ix)) (hn : (∀ xs zs : List MV, xs.length = ms.length → zs.length = kms.length → (gPm ix xs zs).length = n) ∧ kms.length = ks.length)
    (ha : PAm X W (e :: es) (mArgs ms)) (hkw : PKm X W kws kms) (hall : (backToKw pos (keywordEach kws X.env)).all (·.1.isSome) = true := by rfl) (hks : (backToKw pos (keywordEach kws X.env)).filterMap (·.1) = ks := by rfl)
    (hdb : (x == ("__debug__" : Str)) = false := by decide) (he : starEach (e :: es) X.env = (false, eval e X.env) :: starEach es X.env := by rfl)
    (hpl : ((backTo pos (starEach (e :: es) X.env)).any (·.1) || (backToKw pos (keywordEach kws X.env)).any (·.1.isNone)) = false := by rfl) : PEm X W (.Call (.Name x p) (e :: es) kws pos) (mCallK (gPm ix) g ms kms) := by
  obtain ⟨fd, a, b, F⟩ := D.ex
  exact mp_callK tk (F _) hgd hr hg hm a.kp (kb fd a) hn.1 hn.2 ha hkw hall hks hdb he hpl
theorem dCallK0 (tk : Takes X W) (D : DOk X.prog X.w X.K X.mg d ps k n g) (hgd : X.A.guards = some []) (hr : Room k X.A) (hg : Gl X x) (hm : X.mg x = some (.ref (d.at_ X.K)))
    (kb : ∀ fd, FunD X.K d.name d.qual d.params d.body d.scope [] [] (d.at_ X.K) fd → KBm X.K fd ps 0 ks (gPm ix)) (hn : (∀ xs zs : List MV, xs.length = 0 → zs.length = kms.length → (gPm ix xs zs).length = n) ∧ kms.length = ks.length)
    (hkw : PKm X W kws kms) (hall : (backToKw pos (keywordEach kws X.env)).all (·.1.isSome) = true := by rfl) (hks : (backToKw pos (keywordEach kws X.env)).filterMap (·.1) = ks := by rfl)
    (hdb : (x == ("__debug__" : Str)) = false := by decide)
    (hpl : ((backTo pos (starEach [] X.env)).any (·.1) || (backToKw pos (keywordEach kws X.env)).any (·.1.isNone)) = false := by rfl) : PEm X W (.Call (.Name x p) [] kws pos) (mCallK (gPm ix) g [] kms) := by
  obtain ⟨fd, a, b, F⟩ := D.ex
  exact mp_callK0 tk (F _) hgd hr hg hm a.kp (kb fd a) hn.1 hn.2 hkw hall hks hdb hpl
theorem dMethK {pl : Sem Bool} (tk : Takes X W) (D : DOk X.prog X.w X.K X.mg d ps k n g) (ho : PEm X W o mo) (cl : Cls X.K (He.ga X.K c)) (hm : Meth X.K (He.ga X.K c) m (d.at_ X.K)) (hgd : X.A.guards = some []) (hr : Room k X.A)
    (kb : ∀ fd, FunD X.K d.name d.qual d.params d.body d.scope [] [] (d.at_ X.K) fd → KBm X.K fd ps (ms.length + 1) ks (gPm ix)) (hn : (∀ xs zs : List MV, xs.length = ms.length + 1 → zs.length = kms.length → (gPm ix xs zs).length = n) ∧ kms.length = ks.length)
    (ha : PAm X W (e :: es) (mArgs ms)) (hkw : PKm X W kws kms) (hall : (backToKw pos (keywordEach kws X.env)).all (·.1.isSome) = true := by rfl) (hks : (backToKw pos (keywordEach kws X.env)).filterMap (·.1) = ks := by rfl)
    (he : starEach (e :: es) X.env = (false, eval e X.env) :: starEach es X.env := by rfl)
    (hpl : ((backTo pos (starEach (e :: es) X.env)).any (·.1) || (backToKw pos (keywordEach kws X.env)).any (·.1.isNone)) = false := by rfl)
    (ht : eval (.Call (.Attribute o m apos) (e :: es) kws pos) X.env = (do
      let ov ← eval o X.env
      standAt apos.atName
      let (f, first) ← holding [ov] (getMethod ov m pl)
      callWith pos f first (backTo pos (starEach (e :: es) X.env)) (backToKw pos (keywordEach kws X.env))) := by rfl) : PEm X W (.Call (.Attribute o m apos) (e :: es) kws pos) (mMethK c m (gPm ix) g mo ms kms) := by
  obtain ⟨fd, a, b, F⟩ := D.ex
  exact mp_methK tk ho cl hm (F _) hgd hr (kb fd a) hn.1 hn.2 ha hkw hall hks he hpl ht
theorem dMethK0 {pl : Sem Bool} (tk : Takes X W) (D : DOk X.prog X.w X.K X.mg d ps k n g) (ho : PEm X W o mo) (cl : Cls X.K (He.ga X.K c)) (hm : Meth X.K (He.ga X.K c) m (d.at_ X.K)) (hgd : X.A.guards = some []) (hr : Room k X.A)
    (kb : ∀ fd, FunD X.K d.name d.qual d.params d.body d.scope [] [] (d.at_ X.K) fd → KBm X.K fd ps 1 ks (gPm ix)) (hn : (∀ xs zs : List MV, xs.length = 1 → zs.length = kms.length → (gPm ix xs zs).length = n) ∧ kms.length = ks.length)
    (hkw : PKm X W kws kms) (hall : (backToKw pos (keywordEach kws X.env)).all (·.1.isSome) = true := by rfl) (hks : (backToKw pos (keywordEach kws X.env)).filterMap (·.1) = ks := by rfl)
    (hpl : ((backTo pos (starEach [] X.env)).any (·.1) || (backToKw pos (keywordEach kws X.env)).any (·.1.isNone)) = false := by rfl)
    (ht : eval (.Call (.Attribute o m apos) [] kws pos) X.env = (do
      let ov ← eval o X.env
      standAt apos.atName
      let (f, first) ← holding [ov] (getMethod ov m pl)
      callWith pos f first (backTo pos (starEach [] X.env)) (backToKw pos (keywordEach kws X.env))) := by rfl) : PEm X W (.Call (.Attribute o m apos) [] kws pos) (mMethK c m (gPm ix) g mo [] kms) := by
  obtain ⟨fd, a, b, F⟩ := D.ex
  exact mp_methK0 tk ho cl hm (F _) hgd hr (kb fd a) hn.1 hn.2 hkw hall hks hpl ht
end
/-- a list of that many -/
theorem len_two {α : Type} {n : Nat} : ∀ {xs : List α}, xs.length = n → ∃ f : Fin n → α, xs = List.ofFn f := fun {xs} h => by subst h; exact ⟨fun i => xs[i], (List.ofFn_getElem (xs := xs)).symm⟩
theorem perm_len {ix : List Nat} {m : Nat} (h : ix.all (fun i => decide (i < m)) = true) (xs : List MV) (hx : xs.length = m) : (perm ix xs).length = ix.length := by
  subst hx
  induction ix with
  | nil => rfl
  | cons i ix ih =>
    rw [List.all_cons] at h
    obtain ⟨h1, h2⟩ := Bool.and_eq_true_iff.mp h
    unfold perm at ih ⊢
    rw [List.filterMap_cons_some (List.getElem?_eq_getElem (of_decide_eq_true h1)), List.length_cons, ih h2, List.length_cons]
/-- where a method's statement stands -/
def inCls (s : Stmt) (j : Nat) : Stmt := match s with
  | .ClassDef _ _ _ b _ _ _ _ _ _ _ => b.getD j (.Pass ⟨0, 0, 0, 0⟩)
  | _ => .Pass ⟨0, 0, 0, 0⟩
section
variable {K : Fg} {h : Heap} {mg : Str → Option Value}
def tFa (f : He.Fa) : Ft := fun K => f.ok K
theorem ft_glo (X : K.In h) (G : h.Ns mainGlobals mg) {x : Str} (c : tFa (.glo x) K = true) : mg x = some (.ref (gAt x K)) := He.glo_ok X G c
theorem ft_free (X : K.In h) (G : h.Ns mainGlobals mg) {x : Str} (c : tFa (.free x) K = true) : mg x = none := He.free_ok X G c
theorem ft_int (X : K.In h) (G : h.Ns mainGlobals mg) {x : Str} {i : Int} (c : tFa (.int x i) K = true) : ∃ t, mg x = some (.int i t) := He.int_ok X G c
theorem ft_str (X : K.In h) (G : h.Ns mainGlobals mg) {x z : Str} (c : tFa (.str x z) K = true) : ∃ t, mg x = some (.str z t) := He.str_ok X G c
theorem ft_cls {x : Str} (c : tFa (.cls x) K = true) : Cls K (He.ga K x) := He.cls_ok c
theorem ft_no {x f : Str} (c : tFa (.noat x f) K = true) : NoAttr K (He.ga K x) f := He.noat_ok c
theorem ft_meth {x m : Str} (c : tFa (.meth x m) K = true) : Meth K (He.ga K x) m (mAt x m K) := He.meth_ok c
theorem ft_mkr {x : Str} (c : tFa (.mkr x) K = true) : Mk K (He.ga K x) (mAt x "__init__" K) := He.mkr_ok c
def tProp (c f : Str) : Ft := fun K => decide (PySem.W.findIn K (.ref (He.ga K c)) f = some (some (.ref (pAt c f K)))) && decide (PySem.W.specialIn K (.ref (pAt c f K)) "__get__" = some (some (.builtin "property.__get__"))) &&
  decide (PySem.W.takesIn K (.ref (pAt c f K)) = some true) && (match PySem.W.recIn K (pAt c f K) "property" with
    | some (.ref _ :: _) => true
    | _ => false)
theorem ft_prop {c f : Str} (e : tProp c f K = true) : PropOf K (He.ga K c) f (pAt c f K) (pgAt c f K) := by
  unfold tProp at e
  obtain ⟨e, h4⟩ := He.ba e
  obtain ⟨e, h3⟩ := He.ba e
  obtain ⟨h1, h2⟩ := He.ba e
  refine ⟨of_decide_eq_true h1, of_decide_eq_true h2, of_decide_eq_true h3, ?_⟩
  unfold pgAt
  split at h4
  · rename_i g rest q
    exact ⟨rest, by rw [q]⟩
  · cases h4
def someB : Option (Option Value) → Bool
  | some _ => true
  | none => false
theorem someB_ok {o : Option (Option Value)} (h : someB o = true) : ∃ v, o = some v := by
  cases o with
  | none => cases h
  | some v => exact ⟨v, rfl⟩
def refB : Option (Option Value) → Bool
  | some none => true
  | some (some (.ref _)) => true
  | _ => false
theorem refB_ok {o : Option (Option Value)} (h : refB o = true) : ∃ rc, o = some rc ∧ (rc = none ∨ ∃ g : Addr, rc = some (.ref g)) := by
  unfold refB at h
  split at h
  · exact ⟨_, rfl, .inl rfl⟩
  · exact ⟨_, rfl, .inr ⟨_, rfl⟩⟩
  · cases h
def tOwn (c : Str) (nm : String) : Ft := fun K => tFa (.cls c) K && PySem.W.selfFirst K (He.ga K c) && tFa (.meth c (PySem.dunder nm)) K && refB (PySem.W.findIn K (.ref (He.ga K c)) (dunderR nm)) && someB (PySem.W.findIn K (.type "int") (PySem.dunder nm)) &&
  someB (PySem.W.findIn K (.type "int") (dunderR nm)) && decide (PySem.W.subIn K (.type "int") (.ref (He.ga K c)) = some false)
theorem ft_own {c : Str} {nm : String} (e : tOwn c nm K = true) : OwnB K (He.ga K c) nm (mAt c (PySem.dunder nm) K) := by
  unfold tOwn at e
  obtain ⟨e, h7⟩ := He.ba e
  obtain ⟨e, h6⟩ := He.ba e
  obtain ⟨e, h5⟩ := He.ba e
  obtain ⟨e, h4⟩ := He.ba e
  obtain ⟨e, h3⟩ := He.ba e
  obtain ⟨h1, h2⟩ := He.ba e
  exact ⟨ft_cls h1, h2, ft_meth h3, refB_ok h4, someB_ok h5, someB_ok h6, of_decide_eq_true h7⟩
def tOwnR (c : Str) (nm : String) : Ft := fun K => PySem.W.selfFirst K (He.ga K c) && tFa (.meth c (PySem.dunder nm)) K && tFa (.meth c (dunderR nm)) K && decide (PySem.W.subIn K (.ref (He.ga K c)) (.type "int") = some false)
theorem ft_ownR {c : Str} {nm : String} (e : tOwnR c nm K = true) : OwnR K (He.ga K c) nm (mAt c (dunderR nm) K) := by
  unfold tOwnR at e
  obtain ⟨e, h4⟩ := He.ba e
  obtain ⟨e, h3⟩ := He.ba e
  obtain ⟨h1, h2⟩ := He.ba e
  exact ⟨h1, ⟨_, (ft_meth h2).at_⟩, ft_meth h3, of_decide_eq_true h4⟩
def tTy (c : Str) : Ft := fun K => tFa (.cls c) K && decide (PySem.W.findIn K (.ref (He.ga K c)) "__class__" = some (some (.builtin "object.__class__"))) && decide (PySem.W.specialIn K (.builtin "object.__class__") "__get__" = some (some (.builtin "getset_descriptor.__get__"))) &&
  decide (PySem.W.takesIn K (.builtin "object.__class__") = some true) && decide (PySem.W.mroIn K (He.ga K c) (.type "object") = some true)
theorem ft_ty {c : Str} (e : tTy c K = true) : TyF K (He.ga K c) := by
  unfold tTy at e
  obtain ⟨e, h5⟩ := He.ba e
  obtain ⟨e, h4⟩ := He.ba e
  obtain ⟨e, h3⟩ := He.ba e
  obtain ⟨h1, h2⟩ := He.ba e
  exact ⟨ft_cls h1, of_decide_eq_true h2, of_decide_eq_true h3, of_decide_eq_true h4, of_decide_eq_true h5⟩
abbrev TgL := List (Tg × Bool)
def tbOf (l : TgL) (t : Tg) : Option Bool := (l.find? fun q => decide (q.1 = t)).map (·.2)
def tIs (u : Fg → Value) (l : TgL) : Ft := fun K => l.all fun q => decide (PySem.W.kitOne K (tagV K q.1) (u K) = some q.2) && (match q.1 with
  | .own c => tTy c K
  | _ => true)
theorem ft_is {u : Fg → Value} {l : TgL} (e : tIs u l K = true) : IsF K (u K) (tbOf l) := by
  have key : ∀ t b, tbOf l t = some b → (t, b) ∈ l := fun t b h => by
    unfold tbOf at h
    cases q : l.find? fun q => decide (q.1 = t) with
    | none => rw [q] at h; cases h
    | some z =>
      rw [q] at h
      have h1 := List.mem_of_find?_eq_some q
      have h2 : z.1 = t := of_decide_eq_true (List.find?_some (p := fun q : Tg × Bool => decide (q.1 = t)) q)
      obtain ⟨t', b'⟩ := z
      cases h
      subst h2
      exact h1
  refine ⟨fun t b h => ?_, fun c b h => ?_⟩
  · exact of_decide_eq_true (He.ba (List.all_eq_true.mp e _ (key t b h))).1
  · exact ft_ty (He.ba (List.all_eq_true.mp e _ (key _ b h))).2
end
end Mi

set_option maxHeartbeats 4000000
namespace Mi
open PySem PySem.Spec PyProof.Rows L2
def mNeg (a : ME) : ME := fun r S => (a r S).bind fun x S => match x with
  | .int i => .ok (.int (-i)) S
  | _ => .bad
def mInv (c : Str) (g : DF) (a : ME) : ME := fun r S => (a r S).bind fun x S => if isCls c x S = true then g [x] S else .bad
section
variable {X : Cx} {W : WX} {a : Expr} {ma : ME} {pos : Pos} {k : Nat} {d : Df} {ps : List Str} {g : DF} {c : Str}
theorem mp_neg (ha : PEm X W a ma) : PEm X W (.UnaryOp .USub a pos) (mNeg ma) := pe_weak (pe_un un_neg ha) fun σ H Q ⟨r, S, F, p, hE, hS, h⟩ => by
  refine ⟨r, S, F, p, hE, hS, fine.bind h fun x S1 F1 p1 H1 v _ e1 s1 l1 h1 => ?_⟩
  cases x with
  | int i => cases l1; exact ⟨i, rfl, fine.done h1 s1 rfl⟩
  | _ => exact h1.elim
theorem dInv (tk : Takes X W) (D : DOk X.prog X.w X.K X.mg d ps k 1 g) (ha : PEm X W a ma) (hm : Meth X.K (He.ga X.K c) "__invert__" (d.at_ X.K)) (hgd : X.A.guards = some []) (hr : Room k X.A) : PEm X W (.UnaryOp .Invert a pos) (mInv c g ma) := by
  obtain ⟨fd, hf, b, F⟩ := D.ex
  refine ⟨fun pins s σ H Q I ⟨r, S, F', p', hE, hS, h⟩ => ?_⟩
  refine wpAny_UnaryOp (thn (ha.run pins s σ H _ I ⟨r, S, F', p', hE, hS, fine.bind h fun x S1 F1 p1 H1 v _ x1 s1 l1 h1 =>
    (⟨x, S1, F1, p1, s1, l1, h1⟩ : ∃ x S1 F1 p1, RS X.K F1 p1 S1 H1 ∧ RV X.K F1 p1 x v ∧ fine X.K (RV X.K) F1 p1 H1 σ W Q (if isCls c x S1 = true then g [x] S1 else .bad))⟩) fun u s1 ⟨v, H1, I1, rx, x, S1, F1, p1, hS1, l1, h1⟩ => ?_)
  obtain ⟨hc, h1⟩ := fine_if h1
  obtain ⟨ad, dx, fs, ns, xs, rfl, hH, _, _, _⟩ := isCls_ok hS1 l1 hc
  obtain rfl : u = Value.ref ad := rx
  obtain ⟨mA, O1, _⟩ := ins_get I1.hok hH
  obtain ⟨od, J, _⟩ := O1.look
  obtain ⟨m, fr⟩ := I1.fr
  exact PySem.W.ksp_inv fr I1.ok.mod.kin J hm.at_ hm.fn (run_fnG (us := [.ref ad]) (vs := [.ref ad]) (dvs := []) tk (F _) hgd hr b .nil I1 (.cons rfl .nil) ⟨rfl, [x], S1, F1, p1, RVs.one l1, hS1, fine_w h1⟩)
end
def fV : MV → Option V
  | .non => some .non
  | .bl b => some (.bl b)
  | .int i => some (.int i)
  | .str z => some (.str z)
  | _ => none
def fVs : List MV → Option (List V)
  | [] => some []
  | x :: xs => match fV x, fVs xs with
    | some v, some vs => some (v :: vs)
    | _, _ => none
theorem fV_rel {K : Fg} {F : Hp} {p : As} {x : MV} {v w : V} (l : RV K F p x v) (h : fV x = some w) : v = w ∧ flatV v = true := by
  cases x with
  | non => cases l; cases h; exact ⟨rfl, rfl⟩
  | bl b => cases l; cases h; exact ⟨rfl, rfl⟩
  | int b => cases l; cases h; exact ⟨rfl, rfl⟩
  | str b => cases l; cases h; exact ⟨rfl, rfl⟩
  | _ => cases h
theorem fVs_rel {K : Fg} {F : Hp} {p : As} : ∀ {xs : List MV} {vs ws : List V}, RVs K F p xs vs → fVs xs = some ws → vs = ws ∧ vs.all flatV = true
  | [], _, _, l, h => by cases l; cases h; exact ⟨rfl, rfl⟩
  | x :: xs, _, ws, l, h => by
    obtain ⟨v, r, rfl, l1, l2⟩ := l
    have h' : (match fV x, fVs xs with
      | some v, some vs => some (v :: vs)
      | _, _ => none) = some ws := h
    cases q1 : fV x with
    | none => rw [q1] at h'; cases h'
    | some v' =>
      cases q2 : fVs xs with
      | none => rw [q1, q2] at h'; cases h'
      | some vs' =>
        rw [q1, q2] at h'
        cases h'
        obtain ⟨rfl, f1⟩ := fV_rel l1 q1
        obtain ⟨rfl, f2⟩ := fVs_rel l2 q2
        exact ⟨rfl, by rw [List.all_cons, f1, f2]; rfl⟩
def gInSeq (neg : Bool) : G2 := fun x y S => match fV x, (seqOf S y).bind fVs with
  | some v, some vs => .ok (.bl (if neg then !inV v vs else inV v vs)) S
  | _, _ => .bad
theorem om_inSeq {X : Cx} {W : WX} {f : Value → Value → Sem Value} {neg : Bool} (ho : OpR X f (rIn X.K neg)) : OpM X W f (gInSeq neg) := om_of ho fun x y S F p v w H σ Q hS l1 l2 h => by
  unfold gInSeq at h
  cases q1 : fV x with
  | none => rw [q1] at h; exact h.elim
  | some v' =>
    cases q2 : seqOf S y with
    | none => rw [q1, q2] at h; exact h.elim
    | some ys =>
      cases q3 : fVs ys with
      | none => rw [q1, q2] at h; simp only [Option.bind, q3] at h; exact h.elim
      | some vs' =>
        rw [q1, q2] at h
        simp only [Option.bind, q3] at h
        obtain ⟨rfl, f1⟩ := fV_rel l1 q1
        obtain ⟨a, us, rfl, h1, _, h2⟩ := seq_ok hS l2 q2
        obtain ⟨rfl, f2⟩ := fVs_rel h2 q3
        exact ⟨a, us, rfl, h1.imp And.right And.right, f1, f2, fine.done h hS rfl⟩
def apTo (x y : MV) (S : So) : R MV := match x with
  | .ref n => match S[n]? with
    | some (.lst xs) => if xs.length < SZ then .ok .non (S.set n (.lst (xs ++ [y]))) else .bad
    | _ => .bad
  | _ => .bad
def isRefL (x : MV) (S : So) : Bool := match x with
  | .ref n => match S[n]? with
    | some (.lst _) => true
    | _ => false
  | _ => false
def mApp (a b : ME) : ME := fun r S => (a r S).bind fun x S => if isRefL x S = true then (b r S).bind fun y S => apTo x y S else .bad
section
variable {X : Cx} {W : WX} {a b : Expr} {ma mb : ME} {apos cpos : Pos}
theorem mp_app (ha : PEm X W a ma) (hb : PEm X W b mb) (hs0 : starEach [b] X.env = (false, eval b X.env) :: starEach [] X.env := by rfl)
    (hbase : attributeBase a "append" X.env (eval a X.env) = eval a X.env := by rfl)
    (hfew : ((backTo cpos (starEach (b :: []) X.env)).all (fun x => !x.1) && (backToKw cpos (keywordEach [] X.env)).all (fun x => x.1.isSome)
      && decide ((b :: []).length + ([] : List Keyword).length + (if ([] : List Keyword).isEmpty then 0 else 1) < 30)) = true := by rfl)
    (hline : (apos.endLine == cpos.line) = true := by rfl) (hplain : (backTo cpos (starEach [] X.env)).any (·.1) = false := by rfl) : PEm X W (.Call (.Attribute a "append" apos) [b] [] cpos) (mApp ma mb) :=
  pe_weak (pe_bm PySem.F.plainAttrs_list PySem.F.slot_list_append PySem.F.type_list_append mt_append ha (pa_cons hb pa_nil hs0) hbase hfew hline hs0 hplain) fun σ H Q ⟨r, S, F, p, hE, hS, h⟩ => by
    refine ⟨r, S, F, p, hE, hS, fine.bind h fun x S1 F1 p1 H1 v _ e1 s1 l1 h1 => ?_⟩
    obtain ⟨hx, h1⟩ := fine_if h1
    cases x with
    | ref n =>
      cases q : S1[n]? with
      | none => simp only [isRefL, q] at hx; cases hx
      | some o =>
        cases o with
        | lst xs =>
          obtain ⟨ad, u, rfl, ea, e4, hF, vs, rfl, hz, h4⟩ := ref_at s1 l1 q (by intro z; cases z)
          refine ⟨.inl ⟨rfl, _, SqL.of e4⟩, r, S1, F1, p1, hE.ext e1, s1, fine.bind h1 fun y S2 F2 p2 H2 w _ e2 s2 l2 h2 => ?_⟩
          have lx := RV.mono (p := p1) (q := p2) e2.f e2.x (.ref n) l1
          cases q2 : S2[n]? with
          | none =>
            have h3 : fine X.K (RV X.K) F2 p2 H2 σ W Q (match S2[n]? with
              | some (.lst xs) => if xs.length < SZ then .ok .non (S2.set n (.lst (xs ++ [y]))) else .bad
              | _ => .bad) := h2
            rw [q2] at h3; exact h3.elim
          | some o2 =>
            have h3 : fine X.K (RV X.K) F2 p2 H2 σ W Q (match S2[n]? with
              | some (.lst xs) => if xs.length < SZ then .ok .non (S2.set n (.lst (xs ++ [y]))) else .bad
              | _ => .bad) := h2
            rw [q2] at h3
            cases o2 with
            | lst ys =>
              obtain ⟨hl, h3⟩ := fine_if h3
              obtain ⟨ad2, u2, e9, ea2, e5, hF2, ws, rfl, hz2, h5⟩ := ref_at s2 lx q2 (by intro z; cases z)
              cases e9
              have hlw : ws.length < sizeLine := by rw [h5.length, ← sz_line]; exact hl
              refine ⟨ad, ws, w, rfl, rfl, e5, hlw, ?_⟩
              exact h3 F2 p2 _ _ (RS.writeE ea2) (s2.write ea2 hF2 ⟨_, rfl, by rw [List.length_append, List.length_singleton]; exact hlw, h5.app (RVs.one l2)⟩) rfl
            | _ => exact h3.elim
        | _ => simp only [isRefL, q] at hx; cases hx
    | _ => cases hx
end
end Mi

set_option maxHeartbeats 4000000
namespace Mi
open PySem PySem.SeqAt
open AutoSeq1 (wpAny_loadPart')
open MeetsSeq MeetsSeq2 MeetsSeq3 SeqRoads2
section
variable {prog : Program} {w : World} {A : Around} {R : Result → Shared → Prop}
theorem tup_eqZ (l b : Addr) (items items2 : Array Value) (n n2 : Nat) (dd dd2 : Option Addr) (sl sl2 : Array (Option Value)) (Z : List Value → List Value → Shared → Prop)
    (turn : ∀ x xs y ys s, Z (x :: xs) (y :: ys) s → wpAny (model prog w) A.in1 (eqBool x y) (fun r s' => if r = true then Z xs ys s' else R (.ok (.ret (.bool false))) s') (fun e s' => R (.error e) s') s)
    (fin0 : ∀ s, Z [] [] s → R (.ok (.ret (.bool true))) s) (fin1 : ∀ x xs s, Z (x :: xs) [] s → R (.ok (.ret (.bool false))) s) (fin2 : ∀ y ys s, Z [] (y :: ys) s → R (.ok (.ret (.bool false))) s)
    {s : Shared} (hl1 : s.heap.get? l = some { cls := .type "tuple", dict := dd, data := .seq items n, slots := sl }) (hb1 : s.heap.get? b = some { cls := .type "tuple", dict := dd2, data := .seq items2 n2, slots := sl2 }) (h : Z items.toList items2.toList s) :
    wpAny (model prog w) A.in1 (Builtin.«tuple.__eq__» ⟨[.ref l, .ref b], []⟩) (GQ.FinOf prog w A R) (fun e s' => R (.error e) s') s := by
  have f2 := AutoSeq1.sub_tuple_tuple
  have h0 := h
  obtain ⟨hp, g, d, tk, os⟩ := s
  wp_walk using wpAny_loadPart' hl1, wpAny_loadPart' hb1, wpAny_forIn_list _ (fun rest b s' => b.1 = none ∧ ∃ xs ys : List Value, rest = xs.zip ys ∧ (xs.length == ys.length) = (items.size == items2.size) ∧ Z xs ys s') _
  case turn =>
    rintro ⟨y, x⟩ rest b s' ⟨hb', xs, ys, hz, hs, hZ⟩
    cases xs with
    | nil => cases hz
    | cons x0 xs =>
      cases ys with
      | nil => cases hz
      | cons y0 ys =>
        injection hz with h1 h2
        injection h1 with h3 h4
        subst h3 h4
        refine wpAny_bind (wpAny_mono (turn _ _ _ _ s' hZ) (fun r s2 q2 => ?_) fun _ _ x => x)
        cases r with
        | true =>
          wp_walk
          exact ⟨rfl, xs, ys, h2, by simpa using hs, q2⟩
        | false =>
          wp_walk
          exact q2
  case fin =>
    rintro ⟨b1, b2⟩ s' ⟨hb', xs, ys, hz, hs, hZ⟩
    simp only at hb'
    subst hb'
    wp_walk
    show R (.ok (.ret (.bool (items.size == items2.size)))) _
    rw [← hs]
    cases xs with
    | nil => cases ys with
      | nil => exact fin0 _ hZ
      | cons y ys => exact fin2 _ _ _ hZ
    | cons x xs => cases ys with
      | nil => exact fin1 _ _ _ hZ
      | cons y ys => cases hz
  case h =>
    exact ⟨rfl, items.toList, items2.toList, rfl, by simp, h0⟩
end
section
variable {prog : Program} {w : World} {A : Around} {E : Value → Shared → Prop} {s : Shared}
theorem rc_tupZ {l b : Addr} {items items2 : Array Value} {Q : Value → Shared → Prop} (hu : A.units < cLine) (Z : List Value → List Value → Shared → Prop)
    (hl : s.heap.IsTuple l items) (hb : s.heap.IsTuple b items2)
    (turn : ∀ x xs y ys s, Z (x :: xs) (y :: ys) s → wpAny (model prog w) A.in1 (eqBool x y) (fun r s' => if r = true then Z xs ys s' else Q (.bool false) s') E s)
    (fin0 : ∀ s, Z [] [] s → Q (.bool true) s) (fin1 : ∀ x xs s, Z (x :: xs) [] s → Q (.bool false) s) (fin2 : ∀ y ys s, Z [] (y :: ys) s → Q (.bool false) s)
    (h : Z items.toList items2.toList s) : wpAny (model prog w) A (richCompare .Eq (.ref l) (.ref b)) Q E s := by
  obtain ⟨⟨cls, dd, data, sl⟩, ho, hc, n, hd⟩ := id hl
  obtain ⟨⟨cls2, dd2, data2, sl2⟩, ho2, hc2, n2, hd2⟩ := id hb
  simp only at hc hd hc2 hd2
  subst hc hd hc2 hd2
  refine wpAny_richCompare_same_room (op := .Eq) ⟨_, ho, rfl⟩ ⟨_, ho2, rfl⟩ F.slot_tuple_eq (GQ.call_here F.slot_tuple_eq ⟨_, ho, rfl⟩ F.entry_tuple_eq (F.args_tuple_eq_2 _ _) ?_) hu
  refine tup_eqZ (R := wants (fun v s' => v ≠ .notImplemented ∧ Q v s') E) l b items items2 n n2 dd dd2 sl sl2 Z (fun x xs y ys s hz => ?_) (fun s' q => ⟨(fun x => nomatch x), fin0 s' q⟩) (fun x xs s' q => ⟨(fun x => nomatch x), fin1 x xs s' q⟩) (fun x xs s' q => ⟨(fun x => nomatch x), fin2 x xs s' q⟩) ho ho2 h
  refine wpAny_mono (turn x xs y ys s hz) (fun r s' q => ?_) fun _ _ x => x
  split
  · rename_i e; rwa [if_pos e] at q
  · rename_i e; rw [if_neg e] at q; exact ⟨(fun x => nomatch x), q⟩
end
end Mi
namespace Mi
open PySem PySem.Spec PyProof.Rows L2
/-- below the running body, with room and no guard -/
structure Bel (X : Cx) (n : Nat) (A : Around) : Prop where
  room : Room n A
  fr : A.frames = X.A.frames
  gd : A.guards = some []
theorem Bel.in1 {X : Cx} {n : Nat} {A : Around} (b : Bel X (n + 1) A) : Bel X n A.in1 := ⟨b.room.in1, b.fr, b.gd⟩
theorem Bel.mono {X : Cx} {n m : Nat} {A : Around} (b : Bel X m A) (h : n ≤ m) : Bel X n A := ⟨b.room.mono h, b.fr, b.gd⟩
abbrev GE := MV → MV → So → R Bool
def EqM (X : Cx) (W : WX) (n : Nat) (g : GE) : Prop :=
  ∀ (A : Around) (pins : List (Addr × Obj)) (s : Shared) (σ : L2.St) (H : Hp) (x y : V) (u v : Value) (Q : Bool → Hp → Prop) (mx my : MV) (S : So) (F : Hp) (p : As), Bel X n A → Inv X pins σ H s → RelV x u → RelV y v → RS X.K F p S H → RV X.K F p mx x → RV X.K F p my y →
    fine X.K LB F p H σ W Q (g mx my S) → wpAny (model X.prog X.w) A (eqBool u v) (fun r s' => ∃ H', Inv X pins σ H' s' ∧ Q r H') X.xe s
def RcM (X : Cx) (W : WX) (n : Nat) (g : GE) : Prop :=
  ∀ (A : Around) (pins : List (Addr × Obj)) (s : Shared) (σ : L2.St) (H : Hp) (x y : V) (u v : Value) (Q : Bool → Hp → Prop) (mx my : MV) (S : So) (F : Hp) (p : As), Bel X n A → Inv X pins σ H s → RelV x u → RelV y v → RS X.K F p S H → RV X.K F p mx x → RV X.K F p my y →
    fine X.K LB F p H σ W Q (g mx my S) → wpAny (model X.prog X.w) A (richCompare .Eq u v) (fun r s' => ∃ b H', r = .bool b ∧ Inv X pins σ H' s' ∧ Q b H') X.xe s
def eqOr (g h : GE) : GE := fun x y S => match g x y S with
  | .bad => h x y S
  | z => z
theorem eqM_or {X : Cx} {W : WX} {n : Nat} {g h : GE} (a : EqM X W n g) (b : EqM X W n h) : EqM X W n (eqOr g h) := by
  intro A pins s σ H x y u v Q mx my S F p hB I rx ry hS l1 l2 hq
  unfold eqOr at hq
  cases e : g mx my S with
  | bad => rw [e] at hq; exact b A pins s σ H x y u v Q mx my S F p hB I rx ry hS l1 l2 hq
  | ok z S' => exact a A pins s σ H x y u v Q mx my S F p hB I rx ry hS l1 l2 (by rw [e] at hq ⊢; exact hq)
  | exc c z S' => exact a A pins s σ H x y u v Q mx my S F p hB I rx ry hS l1 l2 (by rw [e] at hq ⊢; exact hq)
theorem rcM_or {X : Cx} {W : WX} {n : Nat} {g h : GE} (a : RcM X W n g) (b : RcM X W n h) : RcM X W n (eqOr g h) := by
  intro A pins s σ H x y u v Q mx my S F p hB I rx ry hS l1 l2 hq
  unfold eqOr at hq
  cases e : g mx my S with
  | bad => rw [e] at hq; exact b A pins s σ H x y u v Q mx my S F p hB I rx ry hS l1 l2 hq
  | ok z S' => exact a A pins s σ H x y u v Q mx my S F p hB I rx ry hS l1 l2 (by rw [e] at hq ⊢; exact hq)
  | exc c z S' => exact a A pins s σ H x y u v Q mx my S F p hB I rx ry hS l1 l2 (by rw [e] at hq ⊢; exact hq)
theorem EqM.mono {X : Cx} {W : WX} {n m : Nat} {g : GE} (h : EqM X W n g) (hn : n ≤ m) : EqM X W m g := fun A pins s σ H x y u v Q mx my S F p hB => h A pins s σ H x y u v Q mx my S F p (hB.mono hn)
theorem RcM.mono {X : Cx} {W : WX} {n m : Nat} {g : GE} (h : RcM X W n g) (hn : n ≤ m) : RcM X W m g := fun A pins s σ H x y u v Q mx my S F p hB => h A pins s σ H x y u v Q mx my S F p (hB.mono hn)
/-- flat values -/
def eqFlat : GE := fun x y S => match fV x, fV y with
  | some v, some w => .ok (eqV v w) S
  | _, _ => .bad
theorem eqM_flat {X : Cx} {W : WX} : EqM X W 0 eqFlat := by
  intro A pins s σ H x y u v Q mx my S F p hB I rx ry hS l1 l2 hq
  unfold eqFlat at hq
  cases q1 : fV mx with
  | none => rw [q1] at hq; exact hq.elim
  | some v1 =>
    cases q2 : fV my with
    | none => rw [q1, q2] at hq; exact hq.elim
    | some v2 =>
      rw [q1, q2] at hq
      obtain ⟨rfl, f1⟩ := fV_rel l1 q1
      obtain ⟨rfl, f2⟩ := fV_rel l2 q2
      exact eqAt_V (A := A) (s := s) rx ry f1 f2 X.prog X.w X.xe _ ⟨H, I, hq F p H _ (Ext.refl _ _ _) hS rfl⟩
/-- item by item -/
def eqL (g : GE) : List MV → List MV → So → R Bool
  | [], [], S => .ok true S
  | x :: xs, y :: ys, S => (g x y S).bind fun b S => if b = true then eqL g xs ys S else .ok false S
  | _, _, S => .ok false S
def eqTup (g : GE) : GE := fun x y S => match x, y with
  | .tup xs, .tup ys => eqL g xs ys S
  | _, _ => .bad
theorem rcM_tup {X : Cx} {W : WX} {n : Nat} {g : GE} (h : EqM X W n g) : RcM X W (n + 1) (eqTup g) := by
  intro A pins s σ H x y u v Q mx my S F p hB I rx ry hS l1 l2 hq
  cases mx with
  | tup xs =>
    cases my with
    | tup ys =>
      have hq : fine X.K LB F p H σ W Q (eqL g xs ys S) := hq
      obtain ⟨a, vs, rfl, h1, z1, r1⟩ := l1
      obtain ⟨b, ws, rfl, h2, z2, r2⟩ := l2
      cases rx
      cases ry
      have t1 : SqT X.K H a vs := Same.seqT hS.sub h1
      have t2 : SqT X.K H b ws := Same.seqT hS.sub h2
      obtain ⟨its, rr1, e1, _⟩ := I.tuple t1
      obtain ⟨its2, rr2, e2, _⟩ := I.tuple t2
      refine rc_tupZ hB.room.units0 (fun us us2 s' => ∃ vs ws mxs mys S1 F1 p1 H1, Inv X pins σ H1 s' ∧ RS X.K F1 p1 S1 H1 ∧ Vals vs us ∧ Vals ws us2 ∧ RVs X.K F1 p1 mxs vs ∧ RVs X.K F1 p1 mys ws ∧ fine X.K LB F1 p1 H1 σ W Q (eqL g mxs mys S1))
        e1 e2 (fun x0 us y0 us2 s' hz => ?_) (fun s' hz => ?_) (fun x0 us s' hz => ?_) (fun y0 us s' hz => ?_) ⟨vs, ws, xs, ys, S, F, p, H, I, hS, by simpa using rr1, by simpa using rr2, r1, r2, hq⟩
      · obtain ⟨vs, ws, mxs, mys, S1, F1, p1, H1, I1, hS1, v1, v2, r1, r2, hq⟩ := hz
        cases v1 with
        | cons rv1 v1 =>
          cases v2 with
          | cons rv2 v2 =>
            cases mxs with
            | nil => cases r1
            | cons mx mxs =>
              cases mys with
              | nil => cases r2
              | cons my mys =>
                obtain ⟨_, _, e1, m1, r1⟩ := r1
                cases e1
                obtain ⟨_, _, e2, m2, r2⟩ := r2
                cases e2
                have hq : fine X.K LB F1 p1 H1 σ W Q ((g mx my S1).bind fun b S => if b = true then eqL g mxs mys S else .ok false S) := hq
                refine wpAny_mono (h A.in1 pins s' σ H1 _ _ x0 y0 (fun r H2 => ∃ F2 p2 S2, Ext F1 p1 H1 F2 p2 H2 ∧ RS X.K F2 p2 S2 H2 ∧ fine X.K LB F2 p2 H2 σ W Q (if r = true then eqL g mxs mys S2 else .ok false S2)) mx my S1 F1 p1 hB.in1 I1 rv1 rv2 hS1 m1 m2
                  (fine.bind hq fun b S2 F2 p2 H2 b' _ e2 s2 lb h2 => ?_)) (fun r s2 z => ?_) fun _ _ z => z
                · obtain rfl : b = b' := lb
                  exact ⟨F2, p2, S2, e2, s2, h2⟩
                · obtain ⟨H2, I2, F2, p2, S2, e2, s2, h2⟩ := z
                  cases r with
                  | true => exact ⟨_, _, mxs, mys, S2, F2, p2, H2, I2, s2, v1, v2, RVs.mono e2.f e2.x _ r1, RVs.mono e2.f e2.x _ r2, h2⟩
                  | false => exact ⟨false, H2, rfl, I2, h2 F2 p2 H2 _ (Ext.refl _ _ _) s2 rfl⟩
      · obtain ⟨vs, ws, mxs, mys, S1, F1, p1, H1, I1, hS1, v1, v2, r1, r2, hq⟩ := hz
        cases v1; cases v2
        cases mxs with
        | cons => obtain ⟨_, _, e, _⟩ := r1; cases e
        | nil => cases mys with
          | cons => obtain ⟨_, _, e, _⟩ := r2; cases e
          | nil => exact ⟨true, H1, rfl, I1, hq F1 p1 H1 _ (Ext.refl _ _ _) hS1 rfl⟩
      · obtain ⟨vs, ws, mxs, mys, S1, F1, p1, H1, I1, hS1, v1, v2, r1, r2, hq⟩ := hz
        cases v1; cases v2
        cases mxs with
        | nil => cases r1
        | cons => cases mys with
          | cons => obtain ⟨_, _, e, _⟩ := r2; cases e
          | nil => exact ⟨false, H1, rfl, I1, hq F1 p1 H1 _ (Ext.refl _ _ _) hS1 rfl⟩
      · obtain ⟨vs, ws, mxs, mys, S1, F1, p1, H1, I1, hS1, v1, v2, r1, r2, hq⟩ := hz
        cases v1; cases v2
        cases mys with
        | nil => cases r2
        | cons => cases mxs with
          | cons => obtain ⟨_, _, e, _⟩ := r1; cases e
          | nil => exact ⟨false, H1, rfl, I1, hq F1 p1 H1 _ (Ext.refl _ _ _) hS1 rfl⟩
    | _ => exact hq.elim
  | _ => exact hq.elim
end Mi
namespace Mi
open PySem PySem.Spec PyProof.Rows L2
mutual
def apart : MV → MV → Bool
  | .int i, .int j => decide (i ≠ j)
  | .str i, .str j => decide (i ≠ j)
  | .bl i, .bl j => decide (i ≠ j)
  | .tup xs, .tup ys => aparts xs ys
  | .obj _ ns xs, .obj _ ms ys => decide (ns ≠ ms) || aparts xs ys
  | .int _, .str _ => true
  | .str _, .int _ => true
  | _, _ => false
def aparts : List MV → List MV → Bool
  | [], [] => false
  | x :: xs, y :: ys => apart x y || aparts xs ys
  | _, _ => true
end
theorem vals_inj : ∀ {xs ys : List V} {us : List Value}, Vals xs us → Vals ys us → xs = ys
  | _, _, _, .nil, .nil => rfl
  | _, _, _, .cons a b, .cons c d => by rw [a.inj c, vals_inj b d]
section
variable {X : Cx} {pins : List (Addr × Obj)} {s : Shared} {σ : L2.St} {H F : Hp} {p : As} {S : So}
mutual
theorem apart_no (I : Inv X pins σ H s) (hS : RS X.K F p S H) : ∀ (x y : MV) {v : V}, RV X.K F p x v → RV X.K F p y v → apart x y = false
  | .int i, .int j, v, h, k => by cases h; cases k; simp [apart]
  | .str i, .str j, v, h, k => by cases h; cases k; simp [apart]
  | .bl i, .bl j, v, h, k => by cases h; cases k; simp [apart]
  | .tup xs, .tup ys, v, h, k => by
    obtain ⟨a, vs, rfl, h1, _, r1⟩ := h
    obtain ⟨b, ws, e, h2, _, r2⟩ := k
    cases e
    obtain ⟨its, v1, e1, _⟩ := I.tuple (Same.seqT hS.sub h1)
    obtain ⟨its2, v2, e2, _⟩ := I.tuple (Same.seqT hS.sub h2)
    obtain ⟨o, g1, _, n1, d1⟩ := e1
    obtain ⟨o2, g2, _, n2, d2⟩ := e2
    rw [g1] at g2
    cases g2
    rw [d1] at d2
    have ei : its = its2 := by
      injection d2 with d3
      simpa using d3
    subst ei
    obtain rfl := vals_inj v1 v2
    exact aparts_no I hS xs ys r1 r2
  | .obj c ns xs, .obj d ms ys, v, h, k => by
    obtain ⟨a, dx, fs, rfl, h1, n1, r1⟩ := h
    obtain ⟨b, dy, gs, e, h2, n2, r2⟩ := k
    cases e
    rw [h1] at h2
    have e2 := HO.ins.inj (Option.some.inj h2)
    obtain ⟨_, _, rfl⟩ := e2
    rw [n1] at n2
    show (decide (ns ≠ ms) || aparts xs ys) = false
    rw [aparts_no I hS xs ys r1 r2, n2]
    simp
  | .int _, .str _, v, h, k => by cases h; cases k
  | .str _, .int _, v, h, k => by cases h; cases k
  | .int _, .bl _, _, _, _ | .int _, .non, _, _, _ | .int _, .tup _, _, _, _ | .int _, .lst _, _, _, _ | .int _, .dic _ _, _, _, _ | .int _, .obj _ _ _, _, _, _ | .int _, .ref _, _, _, _ | .int _, .scr _, _, _, _ => rfl
  | .str _, .bl _, _, _, _ | .str _, .non, _, _, _ | .str _, .tup _, _, _, _ | .str _, .lst _, _, _, _ | .str _, .dic _ _, _, _, _ | .str _, .obj _ _ _, _, _, _ | .str _, .ref _, _, _, _ | .str _, .scr _, _, _, _ => rfl
  | .bl _, .int _, _, _, _ | .bl _, .str _, _, _, _ | .bl _, .non, _, _, _ | .bl _, .tup _, _, _, _ | .bl _, .lst _, _, _, _ | .bl _, .dic _ _, _, _, _ | .bl _, .obj _ _ _, _, _, _ | .bl _, .ref _, _, _, _ | .bl _, .scr _, _, _, _ => rfl
  | .tup _, .bl _, _, _, _ | .tup _, .non, _, _, _ | .tup _, .int _, _, _, _ | .tup _, .str _, _, _, _ | .tup _, .lst _, _, _, _ | .tup _, .dic _ _, _, _, _ | .tup _, .obj _ _ _, _, _, _ | .tup _, .ref _, _, _, _ | .tup _, .scr _, _, _, _ => rfl
  | .obj _ _ _, .bl _, _, _, _ | .obj _ _ _, .non, _, _, _ | .obj _ _ _, .int _, _, _, _ | .obj _ _ _, .str _, _, _, _ | .obj _ _ _, .lst _, _, _, _ | .obj _ _ _, .dic _ _, _, _, _ | .obj _ _ _, .tup _, _, _, _ | .obj _ _ _, .ref _, _, _, _ | .obj _ _ _, .scr _, _, _, _ => rfl
  | .non, y, _, _, _ => by cases y <;> rfl
  | .lst _, y, _, _, _ => by cases y <;> rfl
  | .dic _ _, y, _, _, _ => by cases y <;> rfl
  | .ref _, y, _, _, _ => by cases y <;> rfl
  | .scr _, y, _, _, _ => by cases y <;> rfl
theorem aparts_no (I : Inv X pins σ H s) (hS : RS X.K F p S H) : ∀ (xs ys : List MV) {vs : List V}, RVs X.K F p xs vs → RVs X.K F p ys vs → aparts xs ys = false
  | [], [], _, _, _ => rfl
  | x :: xs, y :: ys, _, h, k => by
    obtain ⟨v, r, rfl, h1, h2⟩ := h
    obtain ⟨w, q, e, k1, k2⟩ := k
    cases e
    show (apart x y || aparts xs ys) = false
    rw [apart_no I hS x y h1 k1, aparts_no I hS xs ys h2 k2]
    rfl
  | [], _ :: _, _, h, k => by
    cases h
    obtain ⟨_, _, e, _⟩ := k
    cases e
  | _ :: _, [], _, h, k => by
    cases k
    obtain ⟨_, _, e, _⟩ := h
    cases e
end
end
def asB (x : MV) (S : So) : R Bool := match x with
  | .bl b => .ok b S
  | _ => .bad
def soSame : So → So → Bool
  | [], [] => true
  | x :: xs, y :: ys => MO.same x y && soSame xs ys
  | _, _ => false
theorem soSame_eq : ∀ {S T : So}, soSame S T = true → S = T
  | [], [], _ => rfl
  | x :: xs, y :: ys, h => by
    obtain ⟨h1, h2⟩ := Bool.and_eq_true_iff.mp (show (MO.same x y && soSame xs ys) = true from h)
    rw [MO.same_eq x y h1, soSame_eq h2]
  | [], _ :: _, h | _ :: _, [], h => by cases h
theorem soSame_refl : ∀ S : So, soSame S S = true
  | [] => rfl
  | x :: xs => by
    show (MO.same x x && soSame xs xs) = true
    rw [MO.same_refl x, soSame_refl xs]; rfl
/-- in a tuple: the same object is equal to itself, unasked -/
def refy : MV → Bool
  | .tup _ => true
  | .obj _ _ _ => true
  | _ => false
def eqI (g : GE) : GE := fun x y S => if (refy x && refy y) = true then (match g x y S with
  | .ok true S' => if soSame S S' = true then .ok true S else .bad
  | .ok false S' => if apart x y = true then .ok false S' else .bad
  | _ => .bad) else .bad
theorem refy_ref {K : Fg} {F : Hp} {p : As} {x : MV} {v : V} (h : RV K F p x v) (r : refy x = true) : ∃ a, v = .ref a := by
  cases x with
  | tup xs => obtain ⟨a, vs, e, _⟩ := h; exact ⟨a, e⟩
  | obj c ns xs => obtain ⟨a, dx, fs, e, _⟩ := h; exact ⟨a, e⟩
  | _ => cases r
theorem eqM_of {X : Cx} {W : WX} {n : Nat} {g : GE} (h : RcM X W n g) : EqM X W n (eqI g) := by
  intro A pins s σ H x y u v Q mx my S F p hB I rx ry hS l1 l2 hq
  unfold eqI at hq
  split at hq
  case isFalse => exact hq.elim
  rename_i hr
  obtain ⟨hr1, hr2⟩ := Bool.and_eq_true_iff.mp hr
  have key : fine X.K LB F p H σ W Q (g mx my S) ∧ (x = y → Q true H) := by
    cases e : g mx my S with
    | bad => rw [e] at hq; exact hq.elim
    | exc c z S' => rw [e] at hq; exact hq.elim
    | ok b S' =>
      rw [e] at hq
      cases b with
      | true =>
        simp only at hq
        split at hq
        · rename_i hs
          have es := soSame_eq hs
          subst es
          exact ⟨hq, fun _ => hq F p H _ (Ext.refl _ _ _) hS rfl⟩
        · exact hq.elim
      | false =>
        simp only at hq
        split at hq
        · rename_i hs
          refine ⟨hq, fun e => ?_⟩
          subst e
          rw [apart_no I hS mx my l1 l2] at hs
          cases hs
        · exact hq.elim
  obtain ⟨a, rfl⟩ := refy_ref l1 hr1
  obtain ⟨b, rfl⟩ := refy_ref l2 hr2
  cases rx
  cases ry
  by_cases hab : a = b
  · subst hab
    exact SeqAt.EqAt.same (A := A) (s := s) (.ref a) X.prog X.w X.xe _ ⟨H, I, key.2 rfl⟩
  · refine GQ.eqBool_refG hab (wpAny_mono (h A pins s σ H (.ref a) (.ref b) _ _ Q mx my S F p hB I rfl rfl hS l1 l2 key.1) (fun r s' z => ?_) fun _ _ z => z)
    obtain ⟨z, H', rfl, I', q⟩ := z
    exact ⟨z, rfl, H', I', q⟩
/-- an instance by its own ==, the other one of the same class or of others -/
def objEq (c : Str) (f : DF) (cs : List Str) : GE := fun x y S => if isCls c x S = true ∧ (cs.any fun d => isCls d y S) = true then (f [x, y] S).bind asB else .bad
section
variable {X : Cx} {W : WX} {k : Nat} {f : Addr} {fd : FuncData} {ps : List Str} {g : DF} {c : Str} {cs : List Str}
theorem own_body (tk : Takes X W) (F : FnG X.prog X.w X.K X.mg X.base k f fd ps (spM X.K 2 g)) (hb : Binds X.K fd ps []) {A : Around} {pins : List (Addr × Obj)} {s : Shared} {σ : L2.St} {H : Hp} {a b : Addr} {Q : Bool → Hp → Prop} {mx my : MV} {S : So} {F' : Hp} {p : As}
    (hB : Bel X k A) (I : Inv X pins σ H s) (hS : RS X.K F' p S H) (l1 : RV X.K F' p mx (.ref a)) (l2 : RV X.K F' p my (.ref b)) (hq : fine X.K LB F' p H σ W Q ((g [mx, my] S).bind asB)) :
    wpAny (model X.prog X.w) A (call (.ref f) [.ref a, .ref b]) (fun r s' => ∃ z H', r = .bool z ∧ Inv X pins σ H' s' ∧ Q z H') X.xe s := by
  have e0 : Env0 X.prog X.w X.K X.mg X.base A X.stack s H := by
    have e := I.env0
    exact ⟨by rw [hB.fr]; exact e.frames, e.mod, e.bs, e.bsz, e.funs, e.frf, e.hok, e.bare⟩
  have hsp : spM X.K 2 g [V.ref a, V.ref b] H (fun v H' => ∃ z, v = .bl z ∧ Q z H') (WE W σ) := by
    refine ⟨rfl, [mx, my], S, F', p, ⟨_, _, rfl, l1, RVs.one l2⟩, hS, fine_w (fine.bind hq fun x S1 F1 p1 H1 v e e1 s1 r1 h1 => ?_)⟩
    cases x with
    | bl z =>
      cases r1
      exact ⟨z, rfl, h1 F1 p1 H1 _ (Ext.refl _ _ _) s1 rfl⟩
    | _ => exact h1.elim
  have hl := F.len _ _ _ _ hsp
  have r2 : Vals [V.ref a, V.ref b] [Value.ref a, Value.ref b] := .cons rfl (.cons rfl .nil)
  refine wpAny_call (codeAny_mono (F.go A X.stack s H ⟨[.ref a, .ref b], []⟩ [.ref a, .ref b] [.ref a, .ref b] _ (WE W σ) hB.gd hB.room e0 (by
    have := hb s [.ref a, .ref b] I.kIn (by simpa using hl)
    simpa using this) r2 hsp) fun r s' hq' => ?_)
  match r, hq' with
  | .error er, hq' => exact passAt tk σ pins H s er s' I hq'
  | .ok (.ret u), hq' =>
    obtain ⟨v, H', I', rv, z, e, q⟩ := I.after hq'
    subst e
    cases rv
    exact ⟨z, H', rfl, I', q⟩
theorem rcM_obj (tk : Takes X W) (F : FnG X.prog X.w X.K X.mg X.base k f fd ps (spM X.K 2 g)) (hb : Binds X.K fd ps []) (M : Meth X.K (He.ga X.K c) "__eq__" f) (hn : ∀ d ∈ cs, PySem.W.notFirst X.K (He.ga X.K c) (.ref (He.ga X.K d)) = true) : RcM X W k (objEq c g cs) := by
  intro A pins s σ H x y u v Q mx my S F' p hB I rx ry hS l1 l2 hq
  unfold objEq at hq
  split at hq
  · rename_i hc
    obtain ⟨hc1, hc2⟩ := hc
    obtain ⟨d, hd, hc2⟩ := List.any_eq_true.mp hc2
    obtain ⟨a, dx, fs, ns, xs, rfl, hH, hns, _, _⟩ := isCls_ok hS l1 hc1
    obtain ⟨b, dy, gs, ns2, xs2, rfl, hH2, _, _, _⟩ := isCls_ok hS l2 hc2
    cases rx
    cases ry
    obtain ⟨mA, O1, _⟩ := ins_get I.hok hH
    obtain ⟨od, J, _⟩ := O1.look
    obtain ⟨mB, O2, _⟩ := ins_get I.hok hH2
    obtain ⟨od2, J2, _⟩ := O2.look
    obtain ⟨m, fr⟩ := I.fr
    refine PySem.W.cmp_K (op := .Eq) (tb := .ref (He.ga X.K d)) hB.room.units0 fr I.ok.mod.kin J J2.type (hn d hd) M.at_ M.fn ?_
    refine wpAny_mono (own_body tk F hb hB I hS l1 l2 hq) (fun r s' z => ?_) fun _ _ z => z
    obtain ⟨z, H', rfl, I', q⟩ := z
    exact ⟨z, H', rfl, I', q⟩
  · exact hq.elim
/-- as operators -/
def eqC (g : GE) : G2 := fun x y S => (g x y S).bind fun b S => .ok (.bl b) S
theorem fine_eqC {K : Fg} {W : WX} {F H : Hp} {p : As} {σ : L2.St} {Q : VK} {n : Bool → Bool} {r : R Bool} (h : fine K (RV K) F p H σ W Q (r.bind fun b S => .ok (.bl (n b)) S)) : fine K LB F p H σ W (fun b H => Q (.bl (n b)) H) r :=
  fine.bind h fun b S1 F1 p1 H1 b' _ e1 s1 l1 h1 => by
    obtain rfl : b = b' := l1
    exact h1 F1 p1 H1 _ (Ext.refl _ _ _) s1 rfl
theorem om_eqC {g : GE} (h : RcM X W k g) (hgd : X.A.guards = some []) (hr : Room k X.A) : OpM X W (compareOp .Eq) (eqC g) := by
  intro pins s σ H x y v u Q rI rx ry ⟨mx, my, S, F, p, hS, l1, l2, hq⟩
  show wpAny (model X.prog X.w) X.A (richCompare .Eq v u) (EP X pins σ Q) X.xe s
  refine wpAny_mono (h X.A pins s σ H x y v u _ mx my S F p ⟨hr, rfl, hgd⟩ rI rx ry hS l1 l2 (fine_eqC (n := id) hq)) (fun r s' z => ?_) fun _ _ z => z
  obtain ⟨b, H', rfl, I', q⟩ := z
  exact ⟨.bl b, H', I', rfl, q⟩
def neC (g : GE) : G2 := fun x y S => (g x y S).bind fun b S => .ok (.bl (!b)) S
end
end Mi
namespace PySem.W
open PySem PySem.Calls PyProof.Rows Builtin
section
variable {prog : Program} {w : World} {A A₀ : Around} {E : Value → Shared → Prop} {s : Shared} {K : Frag} {x C L f : Addr} {h₀ : Heap} {m : Str → Option Value} {ox : Obj} {od : Option Obj} {name : Str} {b tb : Value}
theorem bound_B {M : Model} {args : List Value} {id : String} {Q : Option Value → Shared → Prop} (X : K.In s.heap) (I : InstAt s.heap x ox C od) (hs : findIn K (.ref C) name = some (some (.builtin id))) (S : Slot "object" name id)
    (h : wpAny M A (call (.builtin id) (.ref x :: args)) (fun v => Q (some v)) E s) : wpAny M A (callSpecialIfBound? (.ref x) name args) Q E s := by
  simp only [callSpecialIfBound?, bindSpecialIfBound?]
  refine wpAny_holding (wpAny_bind (wpAny_bind (wpAny_bind (I.type.here ((looks_findIn X hs).here ?_)))))
  simp only [S.bind]
  refine wpAny_bind (wpAny_askSetting (wpAny_ite ?_))
  have fin : wpAny M A (call (.builtin id) ([.ref x] ++ args) >>= fun v => pure (some v)) Q E s := wpAny_bind (wpAny_mono h (fun v s' h' => wpAny_pure h') fun _ _ h' => h')
  split
  · exact wpAny_bind (wpAny_pure (wpAny_pure fin))
  · exact wpAny_tryCatch (wpAny_bind (wpAny_pure (wpAny_pure fin)))
theorem ne_K {Q : Value → Shared → Prop} (hu : A.units + 1 < cLine) (F : Fr h₀ L s.heap m) (X₀ : K.In h₀) (I : InstAt s.heap x ox C od) (hb : Looks (model prog w) s.heap (typeOf b) tb) (hn : notFirst K C tb = true)
    (hne : findIn K (.ref C) "__ne__" = some (some (.builtin "object.__ne__"))) (hm : mroIn K C (.type "object") = some true)
    (hs : findIn K (.ref C) "__eq__" = some (some (.ref f))) (hf : isFn K (.ref f) = true)
    (h : wpAny (model prog w) A.in1 (call (.ref f) [.ref x, b]) (fun v s' => ∃ z, v = .bool z ∧ Q (.bool (!z)) s') E s) : wpAny (model prog w) A (richCompare .NotEq (.ref x) b) Q E s := by
  have X := X₀.keeps F.keep
  have one : wpAny (model prog w) A (tryCompare (.ref x) "__ne__" b) (fun r s' => ∃ v, r = some v ∧ Q v s') E s := by
    unfold tryCompare
    refine wpAny_bind (bound_B X I hne PySem.F.cmp_object.ne (wpAny_call (codeAny_call_builtin PySem.F.cmp_object.ne.plain PySem.F.cmpEntry_ne
      (check_slot PySem.F.cmpKind_ne PySem.F.cmpSplit_ne (I.type.andThen (looks_mroIn X hm)) (PySem.F.cmpArgs_ne _ _) ?_))))
    unfold Builtin.«object.__ne__»
    repeat (first
      | with_reducible refine wpAny_cRoomFor (Nat.lt_of_succ_lt hu) ?_
      | with_reducible refine wpAny_cRoomFor hu ?_
      | (refine wpAny_bind (m := callSpecialIfBound? (.ref x) (Str.ofString "__eq__") [b])
          (ifBound_K X I hs hf (wpAny_mono h (fun r s' hr => by
            obtain ⟨z, rfl, hq⟩ := hr
            repeat (first | exact ⟨_, rfl, hq⟩ | exact wpAny_pure ⟨_, rfl, hq⟩ | exact wpAny_truthy_bool hq | (refine wpAny_bind (m := truthy (.bool _)) (wpAny_truthy_bool ?_)) | wp_step)) fun _ _ e => e)))
      | wp_step)
  unfold richCompare
  simp only [oneThing_ref]
  refine wpAny_holding (wpAny_bind (wpAny_cRoomFor (Nat.lt_of_succ_lt hu) ?_))
  refine wpAny_bind (I.type.here (wpAny_bind (hb.here ?_)))
  split
  · rename_i q
    have e : subIn K tb (.ref C) = some false := by
      rcases Bool.or_eq_true_iff.mp hn with e | e
      · rw [beq_iff_eq.mp e] at q; simp at q
      · exact beq_iff_eq.mp e
    refine wpAny_bind ((looks_subIn X e).here ?_)
    simp only [Bool.false_eq_true, if_false]
    refine wpAny_bind (wpAny_mono one (fun r s' z => ?_) fun _ _ e => e)
    obtain ⟨v, rfl, hq⟩ := z
    exact wpAny_pure hq
  · refine wpAny_bind (wpAny_pure ?_)
    simp only [Bool.false_eq_true, if_false]
    refine wpAny_bind (wpAny_mono one (fun r s' z => ?_) fun _ _ e => e)
    obtain ⟨v, rfl, hq⟩ := z
    exact wpAny_pure hq
end
end PySem.W
namespace Mi
open PySem PySem.Spec PyProof.Rows L2
section
variable {X : Cx} {W : WX} {k : Nat} {f : Addr} {fd : FuncData} {ps : List Str} {g : DF} {c : Str} {cs : List Str}
/-- a class with its own == and no != of its own -/
structure OwnE (K : Fg) (C f : Addr) (cs : List Str) : Prop where
  me : Meth K C "__eq__" f
  ne : PySem.W.findIn K (.ref C) "__ne__" = some (some (.builtin "object.__ne__"))
  ob : PySem.W.mroIn K C (.type "object") = some true
  nf : ∀ d ∈ cs, PySem.W.notFirst K C (.ref (He.ga K d)) = true
theorem om_neC (tk : Takes X W) (F : FnG X.prog X.w X.K X.mg X.base k f fd ps (spM X.K 2 g)) (hgd : X.A.guards = some []) (hr : Room (k + 1) X.A) (hb : Binds X.K fd ps []) (M : OwnE X.K (He.ga X.K c) f cs) : OpM X W (compareOp .NotEq) (neC (objEq c g cs)) := by
  intro pins s σ H x y u v Q I rx ry ⟨mx, my, S, F', p, hS, l1, l2, hq⟩
  have hq := fine_eqC (n := not) hq
  unfold objEq at hq
  split at hq
  · rename_i hc
    obtain ⟨hc1, hc2⟩ := hc
    obtain ⟨d, hd, hc2⟩ := List.any_eq_true.mp hc2
    obtain ⟨a, dx, fs, ns, xs, rfl, hH, hns, _, _⟩ := isCls_ok hS l1 hc1
    obtain ⟨b, dy, gs, ns2, xs2, rfl, hH2, _, _, _⟩ := isCls_ok hS l2 hc2
    cases rx
    cases ry
    obtain ⟨mA, O1, _⟩ := ins_get I.hok hH
    obtain ⟨od, J, _⟩ := O1.look
    obtain ⟨mB, O2, _⟩ := ins_get I.hok hH2
    obtain ⟨od2, J2, _⟩ := O2.look
    obtain ⟨m, fr⟩ := I.fr
    show wpAny (model X.prog X.w) X.A (richCompare .NotEq (.ref a) (.ref b)) (EP X pins σ Q) X.xe s
    refine PySem.W.ne_K (tb := .ref (He.ga X.K d)) (by have := hr.un; omega) fr I.ok.mod.kin J J2.type (M.nf d hd) M.ne M.ob M.me.at_ M.me.fn ?_
    refine wpAny_mono (own_body tk F hb (A := X.A.in1) ⟨hr.in1, rfl, hgd⟩ I hS l1 l2 hq) (fun r s' z => ?_) fun _ _ z => z
    obtain ⟨z, H', rfl, I', q⟩ := z
    exact ⟨z, rfl, .bl (!z), H', I', rfl, q⟩
  · exact hq.elim
variable {d : Df} {n : Nat}
theorem dEqO (tk : Takes X W) (D : DOk X.prog X.w X.K X.mg d ps k 2 g) (O : OwnE X.K (He.ga X.K c) (d.at_ X.K) cs) : RcM X W k (objEq c g cs) := by
  obtain ⟨fd, a, b, F⟩ := D.ex
  exact rcM_obj tk (F _) b O.me O.nf
theorem dNeO (tk : Takes X W) (D : DOk X.prog X.w X.K X.mg d ps k 2 g) (O : OwnE X.K (He.ga X.K c) (d.at_ X.K) cs) (hgd : X.A.guards = some []) (hr : Room (k + 1) X.A) : OpM X W (compareOp .NotEq) (neC (objEq c g cs)) := by
  obtain ⟨fd, a, b, F⟩ := D.ex
  exact om_neC tk (F _) hgd hr b O
/-- tuples of flat things and instances -/
theorem rcM_tupF {h : GE} {m : Nat} (a : RcM X W k h) (hm : k + 1 ≤ m) : RcM X W m (eqTup (eqOr eqFlat (eqI h))) := (rcM_tup (eqM_or (eqM_flat.mono (Nat.zero_le _)) (eqM_of a))).mono hm
end
section
variable {K : Fg}
def tEq (c : Str) (cs : List Str) : Ft := fun K => tFa (.meth c "__eq__") K && decide (PySem.W.findIn K (.ref (He.ga K c)) "__ne__" = some (some (.builtin "object.__ne__"))) && decide (PySem.W.mroIn K (He.ga K c) (.type "object") = some true) && cs.all fun d => PySem.W.notFirst K (He.ga K c) (.ref (He.ga K d))
theorem ft_eq {c : Str} {cs : List Str} (e : tEq c cs K = true) : OwnE K (He.ga K c) (mAt c "__eq__" K) cs := by
  unfold tEq at e
  obtain ⟨e, h4⟩ := He.ba e
  obtain ⟨e, h3⟩ := He.ba e
  obtain ⟨h1, h2⟩ := He.ba e
  exact ⟨ft_meth h1, of_decide_eq_true h2, of_decide_eq_true h3, fun d hd => List.all_eq_true.mp h4 d hd⟩
end
end Mi

set_option maxHeartbeats 4000000
namespace Mi
open PySem PySem.Spec PyProof.Rows L2
def repS (x : Str) (n : Nat) : Str := ⟨(List.replicate n x.cps).foldl (· ++ ·) #[]⟩
theorem repS_one (x : Str) : repS x 1 = x := by
  unfold repS
  simp [List.replicate]
theorem repS_nil (n : Nat) : ∀ a : Array Nat, a.size = 0 → (List.replicate n a).foldl (· ++ ·) #[] = #[] := by
  intro a h
  have e : a = #[] := Array.eq_empty_of_size_eq_zero h
  subst e
  induction n with
  | zero => rfl
  | succ n ih => simp [List.replicate_succ, ih]
theorem rep_size (n : Nat) (a : Array Nat) : ∀ acc : Array Nat, ((List.replicate n a).foldl (· ++ ·) acc).size = acc.size + n * a.size := by
  induction n with
  | zero => intro acc; simp
  | succ n ih =>
    intro acc
    rw [List.replicate_succ, List.foldl_cons, ih, Array.size_append, Nat.succ_mul]
    omega
def gRepS : G2 := fun x y S => match x, y with
  | .str z, .int n => if (1 ≤ n ∧ n < 1000000) ∧ z.length * n.toNat ≤ SZ then .ok (.str (repS z n.toNat)) S else .bad
  | _, _ => .bad
section
variable {X : Cx} {W : WX} {a b : Expr} {ma mb : ME} {apos pos : Pos}
theorem om_repS : OpM X W (binaryOp .Mult) gRepS := by
  intro pins s σ H x y u v Q I rx ry ⟨mx, my, S, F, p, hS, l1, l2, hq⟩
  unfold gRepS at hq
  split at hq
  · rename_i z n
    cases l1
    cases l2
    obtain ⟨t, rfl⟩ := rx
    obtain ⟨t', rfl⟩ := ry
    obtain ⟨⟨⟨h1, h2⟩, h3⟩, hq⟩ := fine_if hq
    have q : Q (.str (repS z n.toNat)) H := hq.done hS rfl
    have hn : ¬ n < 1 := by omega
    refine PySem.P.mul_str ?_ (fun _ hc => ?_) (fun _ _ => ?_) ?_
    · rw [decide_eq_false (by omega), decide_eq_false (by omega)]; rfl
    · have h4 : (2 ^ 63 - 1 : Int) / 1000000 ≤ (2 ^ 63 - 1) / n := by
        refine Int.le_ediv_of_mul_le (by omega) ?_
        have : (2 ^ 63 - 1 : Int) / 1000000 * n ≤ (2 ^ 63 - 1 : Int) / 1000000 * 1000000 := Int.mul_le_mul_of_nonneg_left (by omega) (by decide)
        exact Int.le_trans this (by decide)
      have h5 : z.length ≤ z.length * n.toNat := Nat.le_mul_of_pos_right _ (by omega)
      have h6 : (z.length : Int) ≤ 16777216 := by
        have : z.length ≤ 16777216 := Nat.le_trans h5 h3
        omega
      have h7 : (16777216 : Int) ≤ (2 ^ 63 - 1) / 1000000 := by decide
      omega
    · show decide (z.length * n.toNat > sizeLine) = false
      rw [← sz_line]
      exact decide_eq_false (Nat.not_lt.mpr h3)
    · rw [if_neg hn]
      split
      · rename_i hc
        have e : repS z n.toNat = z := by
          rcases Bool.or_eq_true_iff.mp hc with hc | hc
          · have : n = 1 := beq_iff_eq.mp hc
            subst this
            exact repS_one z
          · have hl : z.cps.size = 0 := beq_iff_eq.mp hc
            have e0 : z.cps = #[] := Array.eq_empty_of_size_eq_zero hl
            show (⟨_⟩ : Str) = z
            rw [repS_nil _ _ hl]
            cases z
            simp only at e0
            rw [e0]
        rw [e] at q
        exact ⟨.str z, H, I, ⟨_, rfl⟩, q⟩
      · refine ⟨?_, .str (repS z n.toNat), H, I.tok _, ⟨_, rfl⟩, q⟩
        show (repS z n.toNat).cps.size ≤ sizeLine
        rw [show (repS z n.toNat).cps.size = _ from rep_size n.toNat z.cps #[], ← sz_line]
        have h3' : z.cps.size * n.toNat ≤ SZ := h3
        rw [Nat.mul_comm] at h3'
        simpa using h3'
  · exact hq.elim
/-- sep.join(xs) -/
def gJoin : G2 := fun x y S => match x, (seqOf S y).bind strsOf with
  | .str a, some ys => if (ys.map (·.length)).sum + ys.length * a.length ≤ SZ then .ok (.str (Txt.join a ys)) S else .bad
  | _, _ => .bad
def isStr : MV → Bool
  | .str _ => true
  | _ => false
def mJoin (o e : ME) : ME := fun r S => (o r S).bind fun x S => if isStr x = true then (e r S).bind fun y S => gJoin x y S else .bad
theorem mp_join (ha : PEm X W a ma) (hb : PEm X W b mb) (hs : starEach [b] X.env = [(false, eval b X.env)] := by rfl) (hbase : attributeBase a "join" X.env (eval a X.env) = eval a X.env := by rfl) (hline : (apos.endLine == pos.line) = true := by rfl) :
    PEm X W (.Call (.Attribute a "join" apos) [b] [] pos) (mJoin ma mb) :=
  pe_weak (pe_join ha hb hs hbase hline) fun σ H Q ⟨r, S, F, p, hE, hS, h⟩ => by
    refine ⟨r, S, F, p, hE, hS, fine.bind h fun x S1 F1 p1 H1 v _ e1 s1 l1 h1 => ?_⟩
    obtain ⟨hx, h1⟩ := fine_if h1
    cases x with
    | str z =>
      cases l1
      refine ⟨⟨z, rfl⟩, r, S1, F1, p1, hE.ext e1, s1, fine.bind h1 fun y S2 F2 p2 H2 w _ e2 s2 l2 h2 => ?_⟩
      unfold gJoin at h2
      cases q1 : seqOf S2 y with
      | none => rw [q1] at h2; exact h2.elim
      | some ys =>
        rw [q1] at h2
        cases q2 : strsOf ys with
        | none => simp only [Option.bind_some, q2] at h2; exact h2.elim
        | some zs =>
          simp only [Option.bind_some, q2] at h2
          obtain ⟨hz, h2⟩ := fine_if h2
          obtain ⟨ad, vs, rfl, hsq, _, hv⟩ := seq_ok s2 l2 q1
          obtain rfl := strs_rel hv q2
          exact ⟨z, ad, zs, rfl, rfl, hsq.imp And.right And.right, hz, h2.done s2 rfl⟩
    | _ => cases hx
end
end Mi

set_option maxHeartbeats 4000000
namespace Mi
open PySem PySem.Spec PyProof.Rows L2
structure ErrC (K : Fg) (C fI : Addr) : Prop where
  ox : OexC K C
  xf : XfC K C
  no : PySem.W.findIn K (.ref C) "value" = some none
  ini : PySem.W.findIn K (.ref C) "__init__" = some (some (.ref fI))
  tI : PySem.W.typeIn K (.ref fI) = some (.type "function")
def spI (K : Fg) : Sp := fun vs H Q _ => ∃ (a C : Addr) (v : V), vs = [.ref a, v] ∧ OexC K C ∧ PySem.W.findIn K (.ref C) "value" = some none ∧ H a = some (exo a C none) ∧
  ∀ dx, H dx = none → dx ≠ a → Q .non (upd (upd H dx (exd dx [(("value" : Str), v)])) a (exo a C (some dx)))
/-- how the init stands in the text -/
def IniOk (P : Program) (w : World) (K : Fg) (mg : Str → Option Value) (f : Addr) : Prop := ∃ fd, Binds K fd ["self", "value"] [] ∧ ∀ base, FnOk P w K mg base CX0 1 f fd ["self", "value"] (spI K)
theorem init_ok {P : Program} {w : World} {K : Fg} {mg : Str → Option Value} {x qual : Str} {params : Arguments} {scope : Scope} {f : Addr} {fd : FuncData} {p1 p2 p3 p4 : Pos}
    (F : FunD K x qual params [.Assign [.Attribute (.Name "self" p1) "value" p2] (.Name "value" p3) p4] scope [] [] f fd) (S : FnScope ["self", "value"] ["self", "value"] scope)
    (hb : Binds K fd ["self", "value"] [])
    (hbody : ∀ (base : Heap) (cdv : Value) (A : Around) (outer : List Env) (s : Shared) (H : Hp) (E : XK), PS (cxOf CX0 P w K mg base ["self", "value"] qual scope f cdv A outer s H E) (.Assign [.Attribute (.Name "self" p1) "value" p2] (.Name "value" p3) p4) (tOst K "value" (tVar 0) (tVar 1))) : IniOk P w K mg f := by
  refine ⟨fd, hb, fun base => FunD.ok F S (fun vs H Q E h => ?_) fun cdv A outer s H vs Q E hr hsp => ⟨_, pss_one (hbody base cdv A outer s H E), ?_⟩⟩
  · obtain ⟨a, C, v, rfl, _⟩ := h
    rfl
  · obtain ⟨a, C, v, rfl, T, no, ha, q⟩ := hsp
    exact ⟨v, rfl, .ref a, rfl, a, C, rfl, T, no, .inl ⟨ha, fun dx h1 h2 => q dx h1 h2⟩⟩
theorem RS.up {K : Fg} {F H H' : Hp} {p : As} {S : So} (h : RS K F p S H) (k : ∀ b o, H b = some o → H' b = some o) : RS K F p S H' :=
  ⟨fun b o e => k b o (h.sub b o e), h.len, h.inj, fun i o a e1 e2 => by
    obtain ⟨u, e3, e4⟩ := h.ob i o a e1 e2
    exact ⟨u, k a u e3, e4⟩⟩
theorem Ext.up {F H H' : Hp} {p : As} (k : ∀ b o, H b = some o → H' b = some o) : Ext F p H F p H' := ⟨Same.refl _, Px.refl _, fun b o e _ => k b o e, fun b h h' => absurd h h', fun b _ _ h => h⟩
def sRaise (c : Str) (m : ME) : MS := fun r S => (m r S).to r fun x S => .exc c x r S
section
variable {X : Cx} {W : WX} {c : Str} {fI : Addr} {e : Expr} {m : ME} {p pos pos2 : Pos}
theorem ms_raise (tk : Takes X W) (EC : ErrC X.K (He.ga X.K c) fI) (hI : IniOk X.prog X.w X.K X.mg fI) (hc : X.calm = true) (hr : Room 2 X.A) (hg : Gl X c) (hm : X.mg c = some (.ref (He.ga X.K c))) (he : PEm X W e m)
    (hdb : (c == ("__debug__" : Str)) = false := by decide) (hs : starEach (e :: []) X.env = (false, eval e X.env) :: starEach [] X.env := by rfl) (hpl : (backTo pos (starEach [] X.env)).any (·.1) = false := by rfl) :
    PSm X W (.Raise (some (.Call (.Name c p) [e] [] pos)) none pos2) (sRaise c m) := by
  obtain ⟨fd, hb, F1⟩ := hI
  refine ps_weak (ps_raise hc tk (pmk_oex (dvs := []) (ds := []) EC.ox EC.ini EC.tI (F1 _) hr hb .nil pass0 hg hm (pa_cons he pa_nil hs) hdb hs hpl)) fun D σ H ⟨r, S, F, p, hE, hS, h⟩ => ?_
  refine ⟨r, S, F, p, hE, hS, fine.to hE h fun x S1 F1 p1 H1 v _ e1 s1 l1 E1 h1 => ?_⟩
  refine ⟨by show 1 ≤ 1000; decide, fun a ha => ⟨a, _, v, rfl, EC.ox, EC.no, upd_same, fun dx h2 hne => ⟨rfl, dx, _, upd_same, by rw [upd_ne hne, upd_same], by rw [upd_ne hne] at h2; exact h2, ?_⟩⟩⟩
  have hdx : H1 dx = none := by rw [upd_ne hne] at h2; exact h2
  have up : ∀ b o, H1 b = some o → (upd (del (upd (upd (upd H1 a (exo a (He.ga X.K c) none)) dx (exd dx [(("value" : Str), v)])) a (exo a (He.ga X.K c) (some dx))) a) dx (.xd [(("value" : Str), v)])) b = some o := fun b o e => by
    have n1 : b ≠ dx := fun z => by rw [z, hdx] at e; cases e
    have n2 : b ≠ a := fun z => by rw [z, ha] at e; cases e
    rw [upd_ne n1, del_ne n2, upd_ne n2, upd_ne n1, upd_ne n2]
    exact e
  exact h1 F1 p1 _ σ v dx (Ext.up up) (s1.up up) E1 l1 upd_same
end
inductive XI where
  | val | str (z : Str) | isi (tb : Str → Option Bool)
def XI.ev (c : Str) (x : MV) : XI → Option MV
  | .val => some x
  | .str z => some (.str z)
  | .isi tb => (tb c).map MV.bl
def sTry (ca : Str → Option Bool) (b : MS) (i j : Nat) (xs : List XI) : MS := fun r S => match b r S with
  | .exc c x r1 S1 => match ca c with
    | some true => match allSome (xs.map (XI.ev c x)) with
      | some ys => if i < r1.length then .nxt ((r1.set j (some (.lst ys))).set i none) S1 else .bad
      | none => .bad
    | some false => .exc c x r1 S1
    | none => .bad
  | z => z
/-- what isinstance asks of an error's class -/
structure ErrI (K : Fg) (C : Addr) : Prop where
  ha : PySem.W.findIn K (.ref C) "__class__" = some (some (.builtin "object.__class__"))
  hn : PySem.W.specialIn K (.builtin "object.__class__") "__get__" = some (some (.builtin "getset_descriptor.__get__"))
  ht : PySem.W.takesIn K (.builtin "object.__class__") = some true
  hm : PySem.W.mroIn K C (.type "object") = some true
theorem call_isX {X : Cx} {a D : Addr} {oe : Obj} {d : Option Addr} {pn : List (Addr × Obj)} (C : XfC X.K D) (CI : ErrI X.K D) (hz : Zc (.ref D) d oe) (hf : ∃ vs, oe.data = .fields vs) {cv : Value} {b : Bool} (hk : PySem.W.kitOne X.K (.ref D) cv = some b) :
    CallR (X.suite a ((a, oe) :: pn)) (.builtin "isinstance") (fun xs H Q => ∃ (c : V) (dd : Addr) (fs : List (Str × V)), d = some dd ∧ H dd = some (.xd fs) ∧ xs = [.ref a, c] ∧ (∀ u, RelV c u → u = cv) ∧ Q (.bl b) H) := by
  intro pins s σ H xs us Q I r h
  obtain ⟨c, dd, fs, ed, ea, rfl, hcv, q⟩ := h
  cases r with
  | cons rx rr =>
    cases rr with
    | cons rt rr =>
      cases rr
      cases rx
      have ec := hcv _ rt
      subst ec
      subst ed
      obtain ⟨hget, _⟩ := I.pin (a, oe) (List.mem_append.mpr (.inl List.mem_cons_self))
      obtain ⟨vs, hv⟩ := hf
      have hx : ObjOk X.prog X.w H s.heap dd (.xd fs) := I.hok dd _ ea
      obtain ⟨mA, hns, hrr⟩ := hx
      obtain ⟨od, ho, hl⟩ := lookIn_ns hns
      have J : PySem.W.InstAt s.heap a oe D (some od) := ⟨hget, hz.1, by unfold PySem.W.notCls; rw [hv] <;> rfl, by rw [hz.2]; exact ho⟩
      have hcl : (PySem.W.clsIn X.K D).isSome = true := by
        obtain ⟨cd, h1, _⟩ := PySem.W.any_some C.hdC
        rw [h1]; rfl
      exact PySem.W.kia_one (PySem.W.kitx_exc hcl C.ga C.gg C.exC CI.ha CI.hn CI.ht CI.hm) I.kIn J hk (fun z => nomatch z) fun tk => ⟨.bl b, H, I.kept (t' := tk) fun _ _ z => z, rfl, q⟩
/-- an entry of the list that a suite makes: of an error of one of some classes -/
def XI.evV (c : Str) (v : V) : XI → Option V
  | .val => some v
  | .str z => some (.str z)
  | .isi tb => (tb c).map V.bl
def tXI (K : Fg) (a : Addr) (i : Nat) (cls : Value) (d : Option Addr) (ok : Str → Prop) (xi : XI) : TE := fun σ H Q => ∃ (c : Str) (v : V) (dd : Addr) (y : V), ok c ∧ cls = .ref (He.ga K c) ∧ d = some dd ∧ H dd = some (.xd [(("value" : Str), v)]) ∧ σ[i]? = some (some (.ref a)) ∧
  XI.evV c v xi = some y ∧ Q y H
abbrev PXI (X : Cx) (i : Nat) (ok : Str → Prop) (e : Expr) (xi : XI) : Prop := ∀ (a : Addr) (oe : Obj) (cls : Value) (d : Option Addr) (pn : List (Addr × Obj)), Zc cls d oe → (∃ vs, oe.data = .fields vs) → PE (X.suite a ((a, oe) :: pn)) e (tXI X.K a i cls d ok xi)
section
variable {X : Cx} {W : WX} {i : Nat} {ok : Str → Prop} {n D : Str} {np ap dp pos : Pos}
theorem px_val (hn : ∀ a pn, PE (X.suite a pn) (.Name n np) (tVar i)) (hc : ∀ c, ok c → XfC X.K (He.ga X.K c) ∧ PySem.W.findIn X.K (.ref (He.ga X.K c)) "value" = some none) (hb : attributeBase (.Name n np) "value" X.env (eval (.Name n np) X.env) = eval (.Name n np) X.env := by rfl) :
    PXI X i ok (.Attribute (.Name n np) "value" pos) .val := by
  intro a oe cls d pn hz hf
  refine ⟨fun pins s σ H Q I h => ?_⟩
  obtain ⟨c, v, dd, y, hok, rfl, rfl, hd, hs, e, q⟩ := h
  cases e
  exact (pe_xf (hc c hok).1 (hc c hok).2 hz hf (hn a _) hb).run pins s σ H Q I ⟨.ref a, hs, rfl, rfl, dd, _, v, rfl, hd, rfl, q⟩
theorem px_str {z : Str} {j : Nat} : PXI X i ok (.Constant (.str z) j pos) (.str z) := by
  intro a oe cls d pn hz hf
  refine ⟨fun pins s σ H Q I h => ?_⟩
  obtain ⟨c, v, dd, y, hok, rfl, rfl, hd, hs, e, q⟩ := h
  cases e
  exact pe_str.run pins s σ H Q I q
theorem px_is {tb : Str → Option Bool} (hn : ∀ a pn, PE (X.suite a pn) (.Name n np) (tVar i)) (hD : ∀ a pn, PE (X.suite a pn) (.Name D dp) (tC (.ref (He.ga X.K D)))) (hc : ∀ c, ok c → XfC X.K (He.ga X.K c) ∧ ErrI X.K (He.ga X.K c))
    (hk : ∀ c b, ok c → tb c = some b → PySem.W.kitOne X.K (.ref (He.ga X.K c)) (.ref (He.ga X.K D)) = some b) (hg : Gl X "isinstance") (hm : X.mg "isinstance" = none)
    (hs : starEach [.Name n np, .Name D dp] X.env = (false, eval (.Name n np) X.env) :: starEach [.Name D dp] X.env := by rfl) (hs2 : starEach [.Name D dp] X.env = [(false, eval (.Name D dp) X.env)] := by rfl) (hpl : (backTo pos (starEach [.Name D dp] X.env)).any (·.1) = false := by rfl) :
    PXI X i ok (.Call (.Name "isinstance" ap) [.Name n np, .Name D dp] [] pos) (.isi tb) := by
  intro a oe cls d pn hz hf
  refine ⟨fun pins s σ H Q I h => ?_⟩
  obtain ⟨c, v, dd, y, hok, rfl, rfl, hd, hs', e, q⟩ := h
  obtain ⟨b, hb, rfl⟩ := Option.map_eq_some_iff.mp (show (tb c).map V.bl = some y from e)
  refine (pe_callB (X := X.suite a ((a, oe) :: pn)) (call_isX (hc c hok).1 (hc c hok).2 hz hf (hk c b hok hb)) hg hm (by decide +kernel) (pa_cons (hn a _) (pa_cons (hD a _) pa_nil hs2) hs) (by decide) (by decide) hs hpl).run pins s σ H Q I ?_
  exact ⟨.ref a, hs', _, dd, _, rfl, hd, rfl, fun u r => r, q⟩
/-- the entries -/
inductive PXs (X : Cx) (i : Nat) (ok : Str → Prop) : List Expr → List XI → Prop where
  | nil : PXs X i ok [] []
  | cons {e : Expr} {es : List Expr} {xi : XI} {xs : List XI} (h : PXI X i ok e xi) (r : PXs X i ok es xs) (hs : starEach (e :: es) X.env = (false, eval e X.env) :: starEach es X.env := by rfl) : PXs X i ok (e :: es) (xi :: xs)
def evVs (c : Str) (v : V) (xs : List XI) : Option (List V) := allSome (xs.map (XI.evV c v))
def tXs (K : Fg) (a : Addr) (i : Nat) (cls : Value) (d : Option Addr) (ok : Str → Prop) (xs : List XI) : TA := fun σ H Q => ∃ (c : Str) (v : V) (dd : Addr) (ys : List V), ok c ∧ cls = .ref (He.ga K c) ∧ d = some dd ∧ H dd = some (.xd [(("value" : Str), v)]) ∧ σ[i]? = some (some (.ref a)) ∧
  evVs c v xs = some ys ∧ Q ys H
theorem pa_weak' {X : Cx} {es : List Expr} {t t' : TA} (h : PA X es t) (i : ∀ σ H Q, t' σ H Q → t σ H Q) : PA X es t' := ⟨fun pos pins s σ H Q I q => h.run pos pins s σ H Q I (i σ H Q q)⟩
theorem pxs_ok : ∀ {es : List Expr} {xs : List XI}, PXs X i ok es xs → ∀ (a : Addr) (oe : Obj) (cls : Value) (d : Option Addr) (pn : List (Addr × Obj)), Zc cls d oe → (∃ vs, oe.data = .fields vs) → PA (X.suite a ((a, oe) :: pn)) es (tXs X.K a i cls d ok xs)
  | _, _, .nil, a, oe, cls, d, pn, hz, hf => pa_weak' pa_nil fun σ H Q ⟨c, v, dd, ys, hok, ec, ed, hd, hs, e, q⟩ => by
    cases e
    exact q
  | _, _, .cons (xi := xi) (xs := xs) h r hst, a, oe, cls, d, pn, hz, hf => pa_weak' (pa_cons (X := X.suite a ((a, oe) :: pn)) (h a oe cls d pn hz hf) (pxs_ok r a oe cls d pn hz hf) hst) fun σ H Q ⟨c, v, dd, ys, hok, ec, ed, hd, hs, e, q⟩ => by
    unfold evVs at e
    rw [List.map_cons] at e
    cases e1 : XI.evV c v xi with
    | none => rw [e1] at e; cases e
    | some y =>
      rw [e1] at e
      have e' : (allSome (xs.map (XI.evV c v))).map (y :: ·) = some ys := e
      obtain ⟨zs, e2, rfl⟩ := Option.map_eq_some_iff.mp e'
      exact ⟨c, v, dd, y, hok, ec, ed, hd, hs, e1, c, v, dd, zs, hok, ec, ed, hd, hs, e2, q⟩
theorem ev_rel {K : Fg} {F : Hp} {p : As} {c : Str} {x : MV} {v : V} (l : RV K F p x v) : ∀ {xs : List XI} {ys : List MV}, allSome (xs.map (XI.ev c x)) = some ys → ∃ vs, evVs c v xs = some vs ∧ RVs K F p ys vs
  | [], ys, e => by cases e; exact ⟨[], rfl, rfl⟩
  | xi :: xs, ys, e => by
    rw [List.map_cons] at e
    cases e1 : XI.ev c x xi with
    | none => rw [e1] at e; cases e
    | some y =>
      rw [e1] at e
      have e' : (allSome (xs.map (XI.ev c x))).map (y :: ·) = some ys := e
      obtain ⟨zs, e2, rfl⟩ := Option.map_eq_some_iff.mp e'
      obtain ⟨vs, e3, r3⟩ := ev_rel l e2
      have key : ∃ w, XI.evV c v xi = some w ∧ RV K F p y w := by
        cases xi with
        | val => cases e1; exact ⟨v, rfl, l⟩
        | str z => cases e1; exact ⟨_, rfl, rfl⟩
        | isi tb =>
          obtain ⟨b, hb, rfl⟩ := Option.map_eq_some_iff.mp (show (tb c).map MV.bl = some y from e1)
          exact ⟨.bl b, by show (tb c).map V.bl = _; rw [hb]; rfl, rfl⟩
      obtain ⟨w, e4, r4⟩ := key
      refine ⟨w :: vs, ?_, w, vs, rfl, r4, r3⟩
      unfold evVs
      rw [List.map_cons, e4]
      show (allSome (xs.map (XI.evV c v))).map (w :: ·) = _
      rw [show allSome (xs.map (XI.evV c v)) = some vs from e3]
      rfl
theorem evL {c : Str} {x : MV} : ∀ {xs : List XI} {ys : List MV}, allSome (xs.map (XI.ev c x)) = some ys → ys.length = xs.length
  | [], ys, e => by cases e; rfl
  | xi :: xs, ys, e => by
    rw [List.map_cons] at e
    cases e1 : XI.ev c x xi with
    | none => rw [e1] at e; cases e
    | some y =>
      rw [e1] at e
      have e' : (allSome (xs.map (XI.ev c x))).map (y :: ·) = some ys := e
      obtain ⟨zs, e2, rfl⟩ := Option.map_eq_some_iff.mp e'
      rw [List.length_cons, List.length_cons, evL e2]
/-- what the clause knows of the classes -/
structure CaF (K : Fg) (B : Str) (ca : Str → Option Bool) (ok : Str → Prop) : Prop where
  ex : ∀ c b, ca c = some b → PySem.W.exmOne K (.ref (He.ga K c)) (.ref (He.ga K B)) = some b
  ok : ∀ c, ca c = some true → ok c
theorem RE.wipeO {K : Fg} {F : Hp} {p : As} {r : En} {σ : L2.St} (h : RE K F p r σ) (i : Nat) (o : Option V) : RE K F p (r.set i none) (σ.set i o) := by
  refine ⟨by rw [List.length_set, List.length_set]; exact h.len, fun k x e => ?_⟩
  rw [List.getElem?_set] at e
  split at e
  · split at e <;> cases e
  · rename_i hne
    obtain ⟨v, e1, e2⟩ := h.at_ k x e
    exact ⟨v, by rw [List.getElem?_set_ne hne]; exact e1, e2⟩
theorem RE.put {K : Fg} {F : Hp} {p : As} {r : En} {σ : L2.St} (h : RE K F p r σ) (i : Nat) {x : MV} {v : V} (l : RV K F p x v) : RE K F p (r.set i (some x)) (σ.set i (some v)) := by
  refine ⟨by rw [List.length_set, List.length_set]; exact h.len, fun k y e => ?_⟩
  rw [List.getElem?_set] at e
  split at e
  · rename_i hk
    subst hk
    split at e
    · rename_i hl
      cases e
      exact ⟨v, by rw [List.getElem?_set]; simp [h.len, hl], l⟩
    · cases e
  · rename_i hne
    obtain ⟨w, e1, e2⟩ := h.at_ k y e
    exact ⟨w, by rw [List.getElem?_set_ne hne]; exact e1, e2⟩
end
section
variable {X : Cx} {W : WX} {i j : Nat} {ok : Str → Prop} {B n y : Str} {body : List Stmt} {es : List Expr} {np yp lp ap pos pos' : Pos} {ca : Str → Option Bool} {b : MS} {xs : List XI}
/-- try: .. except B as n: y = [..] -/
theorem ms_try (hs : X.stack = X.env :: X.outer) (hf : X.env.frame = some X.env.locals) (hN : X.N.Nodup) (hi : X.N[i]? = some n) (hln : X.env.kindOf n = some .local) (hc : Names X B (.ref (He.ga X.K B))) (tk : Takes X W) (C : CaF X.K B ca ok)
    (hb : ∀ (W' : WX) (pn : List (Addr × Obj)) (xe : Value → Shared → Prop), Takes (X.tr pn xe) W' → PassesOwn (model X.prog X.w) X.A X.env xe → PBm (X.tr pn xe) W' body b)
    (hx : PXs X i ok es xs) (hset : ∀ (a : Addr) (pn : List (Addr × Obj)) (te : TE), PE (X.suite a pn) (.List es lp) te → PS (X.suite a pn) (.Assign [.Name y yp] (.List es lp) ap) (tAsg te (gName j))) (hl : xs.length ≤ 1000 := by decide) (hij : (i == j) = false := by decide) :
    PSm X W (.Try body [.ExceptHandler (some (.Name B np)) (some n) [.Assign [.Name y yp] (.List es lp) ap] pos'] [] [] pos) (sTry ca b i j xs) := by
  refine ps_weak (ps_try_as (i := i) (tb := fun W' => tS X.K W' b) (ts := fun a cls d => tAsg (tLst (tXs X.K a i cls d ok xs)) (gName j)) hs hf hN hi hln hc tk (fun W' pn xe t po => hb W' pn xe t po) (fun a oe cls d pn hz hf' => pss_one (hset a _ _ (pe_lst (pxs_ok hx a oe cls d pn hz hf'))))) fun D σ H ⟨r, S, F, p, hE, hS, h⟩ => ?_
  refine ⟨r, S, F, p, hE, hS, ?_⟩
  unfold sTry at h
  cases q : b r S with
  | bad => rw [q] at h; exact h
  | nxt r1 S1 => rw [q] at h; exact h
  | ret x S1 => rw [q] at h; exact h
  | brk r1 S1 => rw [q] at h; exact h
  | cnt r1 S1 => rw [q] at h; exact h
  | exc c x r1 S1 =>
    rw [q] at h
    simp only at h
    intro F' p' H' σ' v d e1 s1 E1 l1 hd
    cases q1 : ca c with
    | none => rw [q1] at h; exact h.elim
    | some cb =>
      rw [q1] at h
      refine ⟨cb, C.ex c cb q1, fun hcb a ha => ?_, fun hcb => ?_⟩
      · subst hcb
        simp only at h
        cases q2 : allSome (xs.map (XI.ev c x)) with
        | none => rw [q2] at h; exact h.elim
        | some ys =>
          rw [q2] at h
          obtain ⟨vs, e2, r2⟩ := ev_rel (c := c) l1 q2
          simp only at h
          by_cases hir : i < r1.length
          case neg => rw [if_neg hir] at h; exact h.elim
          rw [if_pos hir] at h
          have hil : i < σ'.length := by
            rw [E1.len]
            exact hir
          have hlen : vs.length ≤ sizeLine := by
            rw [r2.length, evL q2]
            exact small_line hl
          refine ⟨c, v, d, vs, C.ok c q1, rfl, rfl, hd, by rw [List.getElem?_set]; simp [hil], e2, hlen, fun l hl' => ?_⟩
          have E2 := (E1.wipeO i (some (.ref a))).ext (s1.frozenE (u := .lst vs) hl')
          have R2 : RV X.K (upd F' l (.lst vs)) p' (.lst ys) (.ref l) := ⟨l, vs, rfl, upd_same, hlen, RVs.mono (Same.updF (s1.free hl')) (Px.refl _) _ r2⟩
          have E3 := (E2.put j R2).wipeO i none
          refine h (upd F' l (.lst vs)) p' (upd H' l (.lst vs)) _ (Ext.trans e1 (s1.frozenE hl')) (s1.frozen hl') ?_
          have z : ((r1.set i none).set j (some (.lst ys))).set i none = (r1.set j (some (.lst ys))).set i none := by
            have hne : i ≠ j := fun z => by subst z; simp at hij
            rw [List.set_comm _ _ hne, List.set_set]
          rw [← z]
          exact E3
      · subst hcb
        simp only at h
        exact h F' p' H' σ' v d e1 s1 E1 l1 hd
end
end Mi

set_option maxHeartbeats 4000000
namespace Mi
open PySem PySem.Spec PyProof.Rows L2
def clsB (K : Fg) (C : Addr) : Bool := match K.lookup C with
  | some ⟨.type "type", _, .cls cd, sl⟩ => (match cd.mro, sl.toList with
    | .ref C' :: bm, [_, _, _, _, some (.builtin n), _] => decide (C' = C) && decide (n = "ValueError.__new__") && !cd.hasDel && cd.hasDict && PySem.HandSPX.refsVE bm
    | _, _ => false)
  | _ => false
theorem clsB_ok {K : Fg} {C : Addr} (q : clsB K C = true) : ∃ nm q N bs bm sn sub ab col dd k0 k1 k2 k3 k5, K.lookup C = some (excClassObj nm q C N bs bm true sn sub ab col dd k0 k1 k2 k3 k5 "ValueError.__new__") ∧ PySem.HandSPX.refsVE bm = true := by
  unfold clsB at q
  split at q
  · rename_i dd cd sl ho
    split at q
    · rename_i C' bm k0 k1 k2 k3 n k5 hm hs
      simp only [Bool.and_eq_true, decide_eq_true_eq, Bool.not_eq_true'] at q
      obtain ⟨⟨⟨⟨rfl, rfl⟩, hdel⟩, hdc⟩, ht⟩ := q
      obtain ⟨nm, bs, mro, ns, qn, hd, sn, sub, ab, col, del⟩ := cd
      dsimp only at hm hdel hdc
      subst hm hdel hdc
      have hsl : sl = #[k0, k1, k2, k3, some (.builtin "ValueError.__new__"), k5] := by
        obtain ⟨l⟩ := sl
        simp only at hs
        rw [hs]
      subst hsl
      exact ⟨nm, qn, ns, bs, bm, sn, sub, ab, col, dd, k0, k1, k2, k3, k5, ho, ht⟩
    · cases q
  · cases q
/-- an error class c whose init is that of b -/
def tErr (c b : Str) : Ft := fun K => clsB K (He.ga K c) && decide (PySem.W.findIn K (.ref (He.ga K c)) "__setattr__" = some (some (.builtin "object.__setattr__"))) && decide (PySem.W.subIn K (.ref (He.ga K c)) (.type "BaseException") = some true) &&
  decide (PySem.W.typeIn K (.ref (He.ga K c)) = some (.type "type")) && PySem.W.keepIn K (.ref (He.ga K c)) && xfB K (He.ga K c) && decide (PySem.W.findIn K (.ref (He.ga K c)) "value" = some none) &&
  decide (PySem.W.findIn K (.ref (He.ga K c)) "__init__" = some (some (.ref (mAt b "__init__" K)))) && decide (PySem.W.typeIn K (.ref (mAt b "__init__" K)) = some (.type "function"))
section
variable {K : Fg}
theorem ft_err {c b : Str} (e : tErr c b K = true) : ErrC K (He.ga K c) (mAt b "__init__" K) := by
  unfold tErr at e
  obtain ⟨e, h9⟩ := He.ba e
  obtain ⟨e, h8⟩ := He.ba e
  obtain ⟨e, h7⟩ := He.ba e
  obtain ⟨e, h6⟩ := He.ba e
  obtain ⟨e, h5⟩ := He.ba e
  obtain ⟨e, h4⟩ := He.ba e
  obtain ⟨e, h3⟩ := He.ba e
  obtain ⟨h1, h2⟩ := He.ba e
  exact ⟨⟨clsB_ok h1, of_decide_eq_true h2, of_decide_eq_true h3, of_decide_eq_true h4, h5⟩, xfB_ok h6, of_decide_eq_true h7, of_decide_eq_true h8, of_decide_eq_true h9⟩
def tErrI (c : Str) : Ft := fun K => decide (PySem.W.findIn K (.ref (He.ga K c)) "__class__" = some (some (.builtin "object.__class__"))) && decide (PySem.W.specialIn K (.builtin "object.__class__") "__get__" = some (some (.builtin "getset_descriptor.__get__"))) &&
  decide (PySem.W.takesIn K (.builtin "object.__class__") = some true) && decide (PySem.W.mroIn K (He.ga K c) (.type "object") = some true)
theorem ft_errI {c : Str} (e : tErrI c K = true) : ErrI K (He.ga K c) := by
  unfold tErrI at e
  obtain ⟨e, h4⟩ := He.ba e
  obtain ⟨e, h3⟩ := He.ba e
  obtain ⟨h1, h2⟩ := He.ba e
  exact ⟨of_decide_eq_true h1, of_decide_eq_true h2, of_decide_eq_true h3, of_decide_eq_true h4⟩
/-- a clause: which classes it names, of which of these the suite knows its way -/
abbrev CaL := List (Str × Bool)
def caOf (l : CaL) (c : Str) : Option Bool := (l.find? fun q => decide (q.1 = c)).map (·.2)
theorem caOf_mem {l : CaL} {c : Str} {b : Bool} (h : caOf l c = some b) : (c, b) ∈ l := by
  unfold caOf at h
  cases q : l.find? fun q => decide (q.1 = c) with
  | none => rw [q] at h; cases h
  | some x =>
    rw [q] at h
    cases h
    have h1 := List.find?_some q
    have h2 := List.mem_of_find?_eq_some q
    rw [← of_decide_eq_true h1]
    exact h2
def tCa (B : Str) (l : CaL) : Ft := fun K => l.all fun q => decide (PySem.W.exmOne K (.ref (He.ga K q.1)) (.ref (He.ga K B)) = some q.2)
abbrev okOf (l : CaL) (c : Str) : Prop := (c, true) ∈ l
theorem ft_ca {B : Str} {l : CaL} (e : tCa B l K = true) : CaF K B (caOf l) (okOf l) :=
  ⟨fun c b h => of_decide_eq_true (List.all_eq_true.mp e (c, b) (caOf_mem h)), fun c h => caOf_mem h⟩
/-- all of the classes that the suite knows: fields, isinstance -/
def tCx (b : Str) (l : CaL) : Ft := fun K => l.all fun q => tErr q.1 b K && tErrI q.1 K
theorem ft_cx1 {b : Str} {l : CaL} (e : tCx b l K = true) : ∀ c, okOf l c → XfC K (He.ga K c) ∧ PySem.W.findIn K (.ref (He.ga K c)) "value" = some none := fun c h => by
  have := ft_err (He.ba (List.all_eq_true.mp e (c, true) h)).1
  exact ⟨this.xf, this.no⟩
theorem ft_cx2 {b : Str} {l : CaL} (e : tCx b l K = true) : ∀ c, okOf l c → XfC K (He.ga K c) ∧ ErrI K (He.ga K c) := fun c h =>
  ⟨(ft_err (He.ba (List.all_eq_true.mp e (c, true) h)).1).xf, ft_errI (He.ba (List.all_eq_true.mp e (c, true) h)).2⟩
def tKi (D : Str) (l : CaL) : Ft := fun K => l.all fun q => decide (PySem.W.kitOne K (.ref (He.ga K q.1)) (.ref (He.ga K D)) = some q.2)
theorem ft_ki {D : Str} {l : CaL} {ok : Str → Prop} (e : tKi D l K = true) : ∀ c b, ok c → caOf l c = some b → PySem.W.kitOne K (.ref (He.ga K c)) (.ref (He.ga K D)) = some b := fun c b _ h =>
  of_decide_eq_true (List.all_eq_true.mp e (c, b) (caOf_mem h))
end
end Mi

set_option maxHeartbeats 4000000
namespace PySem.W
open PySem PySem.Calls PyProof.Rows Builtin
section
variable {prog : Program} {w : World} {A : Around} {E : Value → Shared → Prop} {s : Shared} {K : Frag} {x C L f : Addr} {h₀ : Heap} {m : Str → Option Value} {ox : Obj} {od : Option Obj} {T : String} {nm : String} {M : Model}
theorem no_fillsI {h : Heap} {cd : ClassData} {add : Bool} (X : K.In h) (hc : clsIn K C = some cd) (hm : cd.mro = [.ref C, .type "object"]) (hs : findIn K (.ref C) (dunderI nm) = some none) (ho : findIn K (.type "object") (dunderI nm) = some none) : Looks M h (fillsInplaceSlot (.ref C) nm add) false := by
  intro A Q E s k q
  have Lm : Looks M h (mroOf (.ref C)) cd.mro := (looks_clsIn X hc).andThen (f := fun cd => pure cd.mro) .now
  have Lm' := Lm.keeps k
  obtain ⟨hh, g, d, tt, os⟩ := s
  have X' : K.In hh := X.keeps k
  have L1 : Looks M hh (typeLookup (.ref C) (dunderI nm)) none := looks_findIn X' hs
  have L2 : Looks M hh (typeLookup (.type "object") (dunderI nm)) none := looks_findIn X' ho
  unfold fillsInplaceSlot
  refine wpAny_bind (Lm'.at ?_)
  rw [hm, List.anyM_cons]
  refine wpAny_bind ?_
  refine wpAny_bind (L1.at (wpAny_pure ?_))
  simp only [Bool.false_eq_true, if_false]
  rw [List.anyM_cons]
  refine wpAny_bind ?_
  refine wpAny_bind (L2.at (wpAny_pure ?_))
  simp only [Bool.false_eq_true, if_false, List.anyM_nil]
  exact wpAny_pure q
/-- the class and the other thing's, as binop_K and ksp_binT -/
theorem inp_K {op : Operator} {b : Value} {Q : Value → Shared → Prop} {cd : ClassData} (F : Fr h₀ L s.heap m) (X₀ : K.In h₀) (I : InstAt s.heap x ox C od) (hb : Looks (model prog w) s.heap (typeOf b) (.ref C))
    (hcd : clsIn K C = some cd) (hm : cd.mro = [.ref C, .type "object"]) (hi : findIn K (.ref C) (dunderI op.info.2) = some none) (ho : findIn K (.type "object") (dunderI op.info.2) = some none)
    (hs : findIn K (.ref C) (PySem.dunder op.info.2) = some (some (.ref f))) (hf : isFn K (.ref f) = true)
    (h : wpAny (model prog w) A (call (.ref f) [.ref x, b]) (CmpBack Q) E s) : wpAny (model prog w) A (inplaceOp op (.ref x) b) Q E s := by
  have X := X₀.keeps F.keep
  unfold inplaceOp
  refine wpAny_holding (wpAny_bind (I.type.here (wpAny_bind ((no_fillsI X hcd hm hi ho).here ?_))))
  simp only [Bool.false_eq_true, if_false]
  refine wpAny_bind ?_
  unfold binaryOp1
  refine wpAny_bind (I.type.here (wpAny_bind (hb.here (wpAny_bind ((fills_K X hcd hm hs).here ?_)))))
  simp only [beq_self_eq_true, if_true]
  refine wpAny_bind (wpAny_pure ?_)
  simp only [Bool.and_false, Bool.false_eq_true, if_false, Bool.false_and]
  refine wpAny_bind (wpAny_pure ?_)
  simp only [Bool.false_eq_true, if_false]
  refine wpAny_bind (m := tryMethod (.ref x) _ b) ?_
  unfold tryMethod
  refine wpAny_bind (special_fn X I hs (beq_iff_eq.mp hf) (wpAny_mono h (fun v s' hv => ?_) fun _ _ e => e))
  cases v <;> first | exact hv.elim | exact wpAny_pure (wpAny_pure (wpAny_pure hv))
theorem inp_T {op : Operator} {b : Value} {fo ro rc : Option Value} {Q : Value → Shared → Prop} {cd : ClassData} (F : Fr h₀ L s.heap m) (X₀ : K.In h₀) (I : InstAt s.heap x ox C od) (hb : typeOf b = pure (.type T))
    (hcd : clsIn K C = some cd) (hm : cd.mro = [.ref C, .type "object"]) (hii : findIn K (.ref C) (dunderI op.info.2) = some none) (hio : findIn K (.type "object") (dunderI op.info.2) = some none)
    (hs : findIn K (.ref C) (PySem.dunder op.info.2) = some (some (.ref f))) (hf : isFn K (.ref f) = true) (hr : findIn K (.ref C) (dunderR op.info.2) = some rc) (hp : rc = none ∨ ∃ g : Addr, rc = some (.ref g))
    (h1 : findIn K (.type T) (PySem.dunder op.info.2) = some fo) (h2 : findIn K (.type T) (dunderR op.info.2) = some ro) (hsub : subIn K (.type T) (.ref C) = some false)
    (h : wpAny (model prog w) A (call (.ref f) [.ref x, b]) (CmpBack Q) E s) : wpAny (model prog w) A (inplaceOp op (.ref x) b) Q E s := by
  have X := X₀.keeps F.keep
  have one := ksp_try X I hs hf h
  obtain ⟨hh, g, d, tt, os⟩ := s
  have L0 : Looks (model prog w) hh (fillsInplaceSlot (.ref C) op.info.2 (op == .Add)) false := no_fillsI X hcd hm hii hio
  generalize hnm : op.info.2 = nm' at *
  have L1 : Looks (model prog w) hh (typeOf (.ref x)) (.ref C) := I.type
  have L2 : Looks (model prog w) hh (typeOf b) (.type T) := Looks.of_pure hb
  have L3 : Looks (model prog w) hh (fillsNumberSlot (.ref C) nm') true := fills_K X hcd hm hs
  have L4 : Looks (model prog w) hh (fillsNumberSlot (.type T) nm') ((fo.isSome && !isSeqSlot fo) || (ro.isSome && !isSeqSlot ro)) := ksp_fillsT X h1 h2
  have L5 : Looks (model prog w) hh (isSubtype (.type T) (.ref C)) false := looks_subIn X hsub
  have L6 : Looks (model prog w) hh (numberSlotInPython (.ref C) nm') true := ksp_inPy X hs hr hp
  have L7 : Looks (model prog w) hh (numberSlotInPython (.type T) nm') false := Looks.of_pure rfl
  have L8 : Looks (model prog w) hh (typeLookup (.type T) (dunderR nm')) ro := looks_findIn X h2
  generalize ((fo.isSome && !isSeqSlot fo) || (ro.isSome && !isSeqSlot ro)) = right at L4
  have hne : (Value.ref C == Value.type T) = false := Bool.eq_false_iff.mpr fun q => by cases beq_iff_eq.mp q
  unfold inplaceOp
  refine wpAny_holding (wpAny_bind (L1.at (wpAny_bind ?_)))
  rw [hnm]
  refine L0.at ?_
  simp only [Bool.false_eq_true, if_false]
  refine wpAny_bind ?_
  unfold binaryOp1
  refine wpAny_bind (L1.at (wpAny_bind (L2.at (wpAny_bind (L3.at ?_)))))
  simp only [hne, Bool.false_eq_true, if_false]
  cases right with
  | false =>
    ksp_lk
    refine wpAny_mono one (fun r s' hr' => ?_) fun _ _ e => e
    obtain ⟨v, rfl, hq⟩ := hr'
    ksp_lk
    exact hq
  | true =>
    ksp_lk
    refine wpAny_mono one (fun r s' hr' => ?_) fun _ _ e => e
    obtain ⟨v, rfl, hq⟩ := hr'
    ksp_lk
    exact hq
end
end PySem.W
namespace Mi
open PySem PySem.Spec PyProof.Rows L2
structure OwnI (K : Fg) (C : Addr) (nm : String) : Prop where
  mro : ∃ cd, PySem.W.clsIn K C = some cd ∧ cd.mro = [.ref C, .type "object"]
  ii : PySem.W.findIn K (.ref C) (dunderI nm) = some none
  io : PySem.W.findIn K (.type "object") (dunderI nm) = some none
theorem R.bind_to {α β : Type} (z : R α) (f : α → So → R β) (r : En) (k : β → So → SR) : (z.bind f).to r k = z.to r fun x S => (f x S).to r k := by cases z <;> rfl
section
variable {X : Cx} {W : WX} {k : Nat} {f : Addr} {fd : FuncData} {ps : List Str} {g : DF} {c : Str} {op : Operator} {d : Df}
theorem om_inOwn (tk : Takes X W) (O : OwnB X.K (He.ga X.K c) op.info.2 f) (J0 : OwnI X.K (He.ga X.K c) op.info.2) (F : FnG X.prog X.w X.K X.mg X.base k f fd ps (spM X.K 2 g)) (hgd : X.A.guards = some []) (hr : Room k X.A) (hb : Binds X.K fd ps []) : OpM X W (inplaceOp op) (gOwn c g) := by
  intro pins s σ H x y v u Q I rx ry ⟨mx, my, S, Fz, p, hS, l1, l2, hq⟩
  obtain ⟨cd, hcd, hmro⟩ := J0.mro
  unfold gOwn at hq
  split at hq
  · rename_i hc
    obtain ⟨hc1, hc2⟩ := hc
    obtain ⟨a, dx, fs, ns, xs, rfl, hH, hns, _, _⟩ := isCls_ok hS l1 hc1
    obtain rfl : v = Value.ref a := rx
    obtain ⟨mA, O1, _⟩ := ins_get I.hok hH
    obtain ⟨od, J, _⟩ := O1.look
    obtain ⟨m, fr⟩ := I.fr
    have body : wpAny (model X.prog X.w) X.A (call (.ref f) [.ref a, u]) (PySem.W.CmpBack (EP X pins σ Q)) X.xe s := by
      refine wpAny_mono (run_fnG (us := [.ref a, u]) (vs := [.ref a, y]) (dvs := []) tk F hgd hr hb .nil I (.cons rfl (.cons ry .nil)) ⟨rfl, [mx, my], S, Fz, p, ⟨_, _, rfl, l1, RVs.one l2⟩, hS, fine_w hq⟩) (fun u' s' h' => ep_back h') fun _ _ h' => h'
    by_cases hi : isInt my = true
    · cases my with
      | int i =>
        cases l2
        obtain ⟨t, rfl⟩ := ry
        obtain ⟨rc, r1, r2⟩ := O.ref
        obtain ⟨fo, h1⟩ := O.i1
        obtain ⟨ro, h2⟩ := O.i2
        exact PySem.W.inp_T fr I.ok.mod.kin J (T := "int") rfl hcd hmro J0.ii J0.io O.me.at_ O.me.fn r1 r2 h1 h2 O.sub body
      | _ => cases hi
    · have hc3 := hc2.resolve_right hi
      obtain ⟨b, dy, gs, ns2, xs2, rfl, hH2, _, _, _⟩ := isCls_ok hS l2 hc3
      obtain rfl : u = Value.ref b := ry
      obtain ⟨mB, O2, _⟩ := ins_get I.hok hH2
      obtain ⟨od2, J2, _⟩ := O2.look
      exact PySem.W.inp_K fr I.ok.mod.kin J J2.type hcd hmro J0.ii J0.io O.me.at_ O.me.fn body
  · exact hq.elim
theorem dInOwn (tk : Takes X W) (D : DOk X.prog X.w X.K X.mg d ps k 2 g) (O : OwnB X.K (He.ga X.K c) op.info.2 (d.at_ X.K)) (J0 : OwnI X.K (He.ga X.K c) op.info.2) (hgd : X.A.guards = some []) (hr : Room k X.A) : OpM X W (inplaceOp op) (gOwn c g) := by
  obtain ⟨fd, a, b, F⟩ := D.ex
  exact om_inOwn tk O J0 (F _) hgd hr b
def tIn (c : Str) (nm : String) : Ft := fun K => (match PySem.W.clsIn K (He.ga K c) with
  | some cd => decide (cd.mro = [.ref (He.ga K c), .type "object"])
  | none => false) && decide (PySem.W.findIn K (.ref (He.ga K c)) (dunderI nm) = some none) && decide (PySem.W.findIn K (.type "object") (dunderI nm) = some none)
theorem ft_in {K : Fg} {c : Str} {nm : String} (e : tIn c nm K = true) : OwnI K (He.ga K c) nm := by
  unfold tIn at e
  obtain ⟨e, h3⟩ := He.ba e
  obtain ⟨h1, h2⟩ := He.ba e
  refine ⟨?_, of_decide_eq_true h2, of_decide_eq_true h3⟩
  cases q : PySem.W.clsIn K (He.ga K c) with
  | none => rw [q] at h1; cases h1
  | some cd => rw [q] at h1; exact ⟨cd, rfl, of_decide_eq_true h1⟩
variable {x : Str} {e : Expr} {m : ME} {i : Nat} {g2 : G2} {pos pos' : Pos}
abbrev sAug (i : Nat) (g : G2) (m : ME) : MS := sAsg (gN i) (mBin g (mName i) m)
theorem ms_aug (hN : X.N.Nodup) (hi : X.N[i]? = some x) (hx : Loc X.env.scope x) (he : PEm X W e m) (ho : OpM X W (inplaceOp op) g2) (hf : X.fn x = true ∨ X.env.scope.names.lookup x = some .local := by first | exact .inl rfl | exact .inr rfl | assumption) :
    PSm X W (.AugAssign (.Name x pos') op e pos) (sAug i g2 m) := by
  refine ⟨fun pins s σ H D I ⟨r, S, F, p, hE, hS, h⟩ => ?_⟩
  have h1 : fineS X.K F p H W D ((mBin g2 (mName i) m r S).to r fun x S => gGo (gN i) x r fun r => .nxt r S) := h
  cases e0 : mName i r S with
  | bad => unfold mBin at h1; rw [e0] at h1; exact h1.elim
  | exc c z S' => unfold mName at e0; split at e0 <;> cases e0
  | ok x0 S0 =>
    have e2 : r[i]? = some (some x0) ∧ S0 = S := by
      unfold mName at e0
      split at e0
      · rename_i y hy
        cases e0
        exact ⟨hy, rfl⟩
      · cases e0
    obtain ⟨e2, rfl⟩ := e2
    unfold mBin at h1
    rw [e0] at h1
    simp only [R.bind_ok] at h1
    rw [R.bind_to] at h1
    obtain ⟨v, e1, rv0⟩ := hE.at_ i x0 e2
    obtain ⟨mm, hn, hl⟩ := I.loc
    have vis : Vis X.env.scope x := by rcases hx with k | k; exact .inl k; exact .inr (.inl k)
    obtain ⟨u, ru, l⟩ := hl i x v hi e1 vis
    refine wpAny_AugAssign_Name ?_
    have go : wpAny (model X.prog X.w) X.A (eval e X.env) (fun w s₂ => wpAny (model X.prog X.w) X.A (inplaceOp op u w) (fun z s₃ => wpAny (model X.prog X.w) X.A (storeName X.env x z) (fun _ => SP X pins D .next) X.xe s₃) X.xe s₂) X.xe s := by
      refine thn (he.run pins s σ H (fun y H1 => ∃ my S1 F1 p1, RS X.K F1 p1 S1 H1 ∧ RV X.K F1 p1 x0 v ∧ RV X.K F1 p1 my y ∧ RE X.K F1 p1 r σ ∧ fineS X.K F1 p1 H1 W D ((g2 x0 my S1).to r fun x S => gGo (gN i) x r fun r => .nxt r S)) I
        ⟨r, S0, F, p, hE, hS, fine.to hE h1 fun y S1 F1 p1 H1 w _ x1 s1 l1 E1 h2 => ⟨y, S1, F1, p1, s1, RV.mono x1.f x1.x x0 rv0, l1, E1, h2⟩⟩) fun w s1 ⟨y, H1, I1, r1, q1⟩ => ?_
      obtain ⟨my, S1, F1, p1, hS1, l0, l1, E1, h2⟩ := q1
      refine thn (ho pins s1 σ H1 v y u w (fun z H2 => D.nx (σ.set i (some z)) H2) I1 ru r1 ⟨x0, my, S1, F1, p1, hS1, l0, l1, fine.to E1 h2 fun z S2 F2 p2 H2 vz _ x2 s2 l2 E2 h3 => ?_⟩) fun z s2 ⟨zv, H2, I2, r2, q2⟩ => ?_
      · have h4 : fineS X.K F2 p2 H2 W D (.nxt (r.set i (some z)) S2) := h3
        exact h4 F2 p2 H2 _ (Ext.refl _ _ _) s2 (E2.put i l2)
      · exact store_ok I2 hN hi hx r2 (fun s3 I3 => ⟨_, H2, I3, q2⟩) hf
    rcases l with ⟨hk, hm⟩ | ⟨hk, c, hc, hcell⟩
    · exact wpAny_loadName_local I.ok.kind hk hn hm go
    · rcases hk with hk | hk
      · exact wpAny_loadName_cell I.ok.kind hk hc hcell go
      · rcases hx with k | k
        · have : X.env.scope.names.lookup x = some .free := hk
          rw [k] at this; cases this
        · have : X.env.scope.names.lookup x = some .free := hk
          rw [k] at this; cases this
end
end Mi
namespace Mi
open PySem PySem.Spec PyProof.Rows L2
theorem rcM_orM {X : Cx} {W : WX} {n m : Nat} {g h : GE} (a : RcM X W n g) (b : RcM X W m h) : RcM X W (max n m) (eqOr g h) := rcM_or (a.mono (Nat.le_max_left _ _)) (b.mono (Nat.le_max_right _ _))
end Mi
namespace Mi
open PySem PySem.Spec PyProof.Rows L2
/-- a, b = a list of that length -/
def gL (gs : List MG) : MG := fun x r => match x with
  | .lst xs => gTs gs xs r
  | _ => none
theorem mg_lst {X : Cx} {es : List Expr} {l : List Nat} {gs : List MG} {pos : Pos} {k : Nat} (hc : X.calm = true) (h : PGsm X es l gs) (hn : (assignEach es X.env).length = gs.length := by rfl) (hst : (assignEach es X.env).findIdx? (·.1) = none := by rfl) : PGm X (.Tuple es k pos) l (gL gs) :=
  pg_weak (pg_unl hc h hn hst) fun v σ H Q ⟨x, r, S, F, p, r', hE, hS, l, e, k⟩ => by
    cases x with
    | lst xs =>
      obtain ⟨a, vs, rfl, h1, _, l2⟩ := l
      exact ⟨a, vs, rfl, SqL.of (hS.sub _ _ h1), by rw [l2.length, gTs_length e], xs, r, S, F, p, r', hE, hS, l2, e, k⟩
    | _ => cases e
end Mi

set_option maxHeartbeats 4000000
namespace Mi
/-- so that no step is left to be found again -/
theorem irf {α : Sort _} {a b : α} (h : a = b) : a = b := h
open PySem PySem.Spec PyProof.Rows L2
def wp {α : Type} (z : R α) (Q : α → So → Prop) (E : PySem.Str → MV → So → Prop) : Prop := match z with
  | .ok x S => Q x S
  | .exc c x S => E c x S
  | .bad => False
structure SE where
  nx : En → So → Prop
  rt : MV → So → Prop
  bk : En → So → Prop
  ct : En → So → Prop
  ex : PySem.Str → MV → En → So → Prop
def ws (z : SR) (D : SE) : Prop := match z with
  | .nxt r S => D.nx r S
  | .ret x S => D.rt x S
  | .brk r S => D.bk r S
  | .cnt r S => D.ct r S
  | .exc c x r S => D.ex c x r S
  | .bad => False
abbrev noE : PySem.Str → MV → So → Prop := fun _ _ _ => False
section
variable {α β : Type} {Q : α → So → Prop} {P : β → So → Prop} {Qm : MV → So → Prop} {E : PySem.Str → MV → So → Prop} {D : SE}
theorem wp_ok (x : α) (S : So) : wp (.ok x S) Q E = Q x S := irf rfl
theorem wp_exc (c : PySem.Str) (x : MV) (S : So) : wp (.exc c x S : R α) Q E = E c x S := irf rfl
theorem wp_bad : wp (.bad : R α) Q E = False := irf rfl
theorem iteF (c : Prop) [Decidable c] (P : Prop) : (if c then P else False) = (c ∧ P) := by
  by_cases h : c
  · rw [if_pos h]; exact propext ⟨fun q => ⟨h, q⟩, fun q => q.2⟩
  · rw [if_neg h]; exact propext ⟨fun q => q.elim, fun q => h q.1⟩
theorem wp_bind (z : R α) (k : α → So → R β) : wp (z.bind k) P E = wp z (fun x S => wp (k x S) P E) E := by cases z <;> rfl
theorem wp_ite (c : Prop) [Decidable c] (a b : R α) : wp (if c then a else b) Q E = if c then wp a Q E else wp b Q E := by split <;> rfl
theorem ws_ite (c : Prop) [Decidable c] (a b : SR) : ws (if c then a else b) D = if c then ws a D else ws b D := by split <;> rfl
theorem ws_nxt (r : En) (S : So) : ws (.nxt r S) D = D.nx r S := irf rfl
theorem ws_ret (x : MV) (S : So) : ws (.ret x S) D = D.rt x S := irf rfl
theorem ws_brk (r : En) (S : So) : ws (.brk r S) D = D.bk r S := irf rfl
theorem ws_cnt (r : En) (S : So) : ws (.cnt r S) D = D.ct r S := irf rfl
theorem ws_exc (c : PySem.Str) (x : MV) (r : En) (S : So) : ws (.exc c x r S) D = D.ex c x r S := irf rfl
theorem ws_bad : ws .bad D = False := irf rfl
theorem ws_to (r : En) (z : R α) (k : α → So → SR) : ws (z.to r k) D = wp z (fun x S => ws (k x S) D) (fun c x S => D.ex c x r S) := by cases z <;> rfl
theorem wp_mono {z : R α} {Q Q' : α → So → Prop} {E E' : PySem.Str → MV → So → Prop} (h : wp z Q E) (hq : ∀ x S, Q x S → Q' x S) (he : ∀ c x S, E c x S → E' c x S := by intros; assumption) : wp z Q' E' := by
  cases z with
  | ok x S => exact hq x S h
  | exc c x S => exact he c x S h
  | bad => exact h
/-- a spec that raises nothing -/
theorem wp_use {z : R α} {Q Q' : α → So → Prop} {E' : PySem.Str → MV → So → Prop} (h : wp z Q noE) (hq : ∀ x S, Q x S → Q' x S) : wp z Q' E' := wp_mono h hq (fun _ _ _ h => h.elim)
theorem wp_eq {z : R α} {x : α} {S : So} (h : z = .ok x S) : wp z Q E = Q x S := by rw [h]; rfl
theorem wp_get {z : R α} (h : wp z Q noE) : ∃ x S, z = .ok x S ∧ Q x S := by
  cases z with
  | ok x S => exact ⟨x, S, rfl, h⟩
  | exc c x S => exact h.elim
  | bad => exact h.elim
theorem wp_is {z : R α} {x : α} {S : So} (h : wp z (fun y S' => y = x ∧ S' = S) noE) : z = .ok x S := by
  obtain ⟨y, S', e, rfl, rfl⟩ := wp_get h
  exact e
theorem wp_mBin (g : G2) (a b : ME) (r : En) (S : So) : wp (mBin g a b r S) Qm E = wp (a r S) (fun x S => wp (b r S) (fun y S => wp (g x y S) Qm E) E) E := by
  unfold mBin; rw [wp_bind]; simp only [wp_bind]
theorem wp_mC (x : MV) (r : En) (S : So) : wp (mC x r S) Qm E = Qm x S := irf rfl
theorem mName_0 (x : MV) (r : En) (S : So) : mName 0 (some x :: r) S = .ok x S := irf rfl
theorem mName_s (i : Nat) (y : Option MV) (r : En) (S : So) : mName (i + 1) (y :: r) S = mName i r S := irf rfl
variable {Ql : List MV → So → Prop} {Qb : Bool → So → Prop}
theorem wp_nil (r : En) (S : So) : wp (mArgs [] r S) Ql E = Ql [] S := irf rfl
theorem wp_cons (m : ME) (ms : List ME) (r : En) (S : So) : wp (mArgs (m :: ms) r S) Ql E = wp (m r S) (fun x S => wp (mArgs ms r S) (fun xs S => Ql (x :: xs) S) E) E := by
  show wp (aCons m (mArgs ms) r S) Ql E = _
  unfold aCons; rw [wp_bind]; simp only [wp_bind, wp_ok]
theorem wp_mTup (ms : List ME) (r : En) (S : So) : wp (mTup ms r S) Qm E = wp (mArgs ms r S) (fun xs S => Qm (.tup xs) S) E := by unfold mTup; rw [wp_bind]; rfl
theorem wp_mLst (ms : List ME) (r : En) (S : So) : wp (mLst ms r S) Qm E = wp (mArgs ms r S) (fun xs S => Qm (.lst xs) S) E := by unfold mLst; rw [wp_bind]; rfl
theorem wp_mLstM (ms : List ME) (r : En) (S : So) : wp (mLstM ms r S) Qm E = wp (mArgs ms r S) (fun xs S => Qm (.ref S.length) (S ++ [.lst xs])) E := by unfold mLstM; rw [wp_bind]; rfl
theorem wp_mFrz (m : ME) (r : En) (S : So) : wp (mFrz m r S) Qm E = wp (m r S) (fun x S => wp (frz x S) Qm E) E := by unfold mFrz; rw [wp_bind]
theorem wp_mCall (f : DF) (ds : List MV) (ms : List ME) (r : En) (S : So) : wp (mCall f ds ms r S) Qm E = wp (mArgs ms r S) (fun xs S => wp (f (xs ++ ds) S) Qm E) E := by unfold mCall; rw [wp_bind]
theorem wp_mCallK (gM : List MV → List MV → List MV) (f : DF) (ms ks : List ME) (r : En) (S : So) : wp (mCallK gM f ms ks r S) Qm E = wp (mArgs ms r S) (fun xs S => wp (mArgs ks r S) (fun zs S => wp (f (gM xs zs) S) Qm E) E) E := by unfold mCallK; rw [wp_bind]; simp only [wp_bind]
theorem wp_mBlt (g : GA) (ms : List ME) (r : En) (S : So) : wp (mBlt g ms r S) Qm E = wp (mArgs ms r S) (fun xs S => wp (g xs S) Qm E) E := by unfold mBlt; rw [wp_bind]
theorem wp_asB (b : Bool) (S : So) : wp (asB (.bl b) S) Qb E = Qb b S := irf rfl
theorem wp_tVal (m : ME) (r : En) (S : So) : wp (tVal m r S) Qb E = wp (m r S) (fun x S => wp (asB x S) Qb E) E := by
  have e : tVal m r S = (m r S).bind asB := rfl
  rw [e, wp_bind]
theorem wp_tNot (t : MT) (r : En) (S : So) : wp (tNot' t r S) Qb E = wp (t r S) (fun b S => Qb (!b) S) E := by unfold tNot'; rw [wp_bind]; rfl
theorem wp_tAnd (t u : MT) (r : En) (S : So) : wp (tAnd' t u r S) Qb E = wp (t r S) (fun b S => if b = true then wp (u r S) Qb E else Qb false S) E := by unfold tAnd'; rw [wp_bind]; simp only [wp_ite, wp_ok]
theorem wp_tOr (t u : MT) (r : En) (S : So) : wp (tOr' t u r S) Qb E = wp (t r S) (fun b S => if b = true then Qb true S else wp (u r S) Qb E) E := by unfold tOr'; rw [wp_bind]; simp only [wp_ite, wp_ok]
theorem wp_mNot (m : ME) (r : En) (S : So) : wp (mNot m r S) Qm E = wp (m r S) (fun x S => wp (asB x S) (fun b S => Qm (.bl (!b)) S) E) E := by
  have e : mNot m r S = (m r S).bind fun x S => (asB x S).bind fun b S => .ok (.bl (!b)) S := by
    unfold mNot; congr 1; funext x S; cases x <;> rfl
  rw [e, wp_bind]; simp only [wp_bind, wp_ok]
theorem wp_mAnd (a b : ME) (r : En) (S : So) : wp (mAnd a b r S) Qm E = wp (a r S) (fun x S => wp (asB x S) (fun c S => if c = true then wp (b r S) Qm E else Qm (.bl false) S) E) E := by
  have e : mAnd a b r S = (a r S).bind fun x S => (asB x S).bind fun c S => if c = true then b r S else .ok (.bl false) S := by
    unfold mAnd; congr 1; funext x S; cases x <;> rfl
  rw [e, wp_bind]; simp only [wp_bind, wp_ite, wp_ok]
theorem wp_mOr (a b : ME) (r : En) (S : So) : wp (mOr a b r S) Qm E = wp (a r S) (fun x S => wp (asB x S) (fun c S => if c = true then Qm (.bl true) S else wp (b r S) Qm E) E) E := by
  have e : mOr a b r S = (a r S).bind fun x S => (asB x S).bind fun c S => if c = true then .ok (.bl true) S else b r S := by
    unfold mOr; congr 1; funext x S; cases x <;> rfl
  rw [e, wp_bind]; simp only [wp_bind, wp_ite, wp_ok]
theorem wp_mIf (t : MT) (a b : ME) (r : En) (S : So) : wp (mIf t a b r S) Qm E = wp (t r S) (fun c S => if c = true then wp (a r S) Qm E else wp (b r S) Qm E) E := by unfold mIf; rw [wp_bind]; simp only [wp_ite]
/-- a field of what is in hand -/
def gFld (c f : PySem.Str) (x : MV) (S : So) : R MV := match clsOf x S with
  | some (d, ns, xs) => if d = c then (match lookN f ns xs with
    | some y => .ok y S
    | none => .bad) else .bad
  | none => .bad
theorem wp_mFld (c f : PySem.Str) (mo : ME) (r : En) (S : So) : wp (mFld c f mo r S) Qm E = wp (mo r S) (fun x S => wp (gFld c f x S) Qm E) E := by
  have e : mFld c f mo r S = (mo r S).bind (gFld c f) := rfl
  rw [e, wp_bind]
def gProp (c : PySem.Str) (g : DF) (x : MV) (S : So) : R MV := match clsOf x S with
  | some (d, _, _) => if d = c then noX (g [x] S) else .bad
  | none => .bad
theorem wp_mProp (c : PySem.Str) (g : DF) (mo : ME) (r : En) (S : So) : wp (mProp c g mo r S) Qm E = wp (mo r S) (fun x S => wp (gProp c g x S) Qm E) E := by
  have e : mProp c g mo r S = (mo r S).bind (gProp c g) := rfl
  rw [e, wp_bind]
theorem wp_mNeg (a : ME) (r : En) (S : So) : wp (mNeg a r S) Qm E = wp (a r S) (fun x S => wp (match x with
  | .int i => .ok (.int (-i)) S
  | _ => .bad) Qm E) E := by
  have e : mNeg a r S = (a r S).bind fun x S => match x with
    | .int i => .ok (.int (-i)) S
    | _ => .bad := rfl
  rw [e, wp_bind]
theorem wp_mInv (c : PySem.Str) (g : DF) (a : ME) (r : En) (S : So) : wp (mInv c g a r S) Qm E = wp (a r S) (fun x S => if isCls c x S = true then wp (g [x] S) Qm E else False) E := by
  unfold mInv; rw [wp_bind]; simp only [wp_ite, wp_bad]
def gIsi (tb : Tg → Option Bool) (x : MV) (S : So) : R MV := match tgOf S x with
  | some t => match tb t with
    | some b => .ok (.bl b) S
    | none => .bad
  | none => .bad
theorem wp_mIsi (tb : Tg → Option Bool) (m : ME) (r : En) (S : So) : wp (mIsi tb m r S) Qm E = wp (m r S) (fun x S => wp (gIsi tb x S) Qm E) E := by
  have e : mIsi tb m r S = (m r S).bind (gIsi tb) := rfl
  rw [e, wp_bind]
theorem oAdd (i j : Int) (S : So) : oAddI (.int i) (.int j) S = .ok (.int (i + j)) S := irf rfl
theorem oSub (i j : Int) (S : So) : oSubI (.int i) (.int j) S = .ok (.int (i - j)) S := irf rfl
theorem oLt (i j : Int) (S : So) : oLtI (.int i) (.int j) S = .ok (.bl (decide (i < j))) S := irf rfl
theorem oLe (i j : Int) (S : So) : oLeI (.int i) (.int j) S = .ok (.bl (decide (i ≤ j))) S := irf rfl
theorem oGt (i j : Int) (S : So) : oGtI (.int i) (.int j) S = .ok (.bl (decide (j < i))) S := irf rfl
theorem oGe (i j : Int) (S : So) : oGeI (.int i) (.int j) S = .ok (.bl (decide (j ≤ i))) S := irf rfl
theorem wp_mul (i j : Int) (S : So) : wp (oMulI (.int i) (.int j) S) Qm E = (okMul i j = true ∧ Qm (.int (i * j)) S) := by
  show wp (if okMul i j = true then .ok (.int (i * j)) S else .bad) Qm E = _
  rw [wp_ite, wp_bad, iteF, wp_ok]
theorem wp_div (i j : Int) (S : So) : wp (oDivI (.int i) (.int j) S) Qm E = (okDiv i j = true ∧ Qm (.int (i / j)) S) := by
  show wp (if okDiv i j = true then .ok (.int (i / j)) S else .bad) Qm E = _
  rw [wp_ite, wp_bad, iteF, wp_ok]
theorem wp_mod (i j : Int) (S : So) : wp (oModI (.int i) (.int j) S) Qm E = (0 < j ∧ Qm (.int (i % j)) S) := by
  show wp (if okMod i j = true then .ok (.int (i % j)) S else .bad) Qm E = _
  rw [wp_ite, wp_bad, iteF]; unfold okMod; simp only [decide_eq_true_eq, wp_ok]
theorem wp_pow (i j : Int) (S : So) : wp (oPowI (.int i) (.int j) S) Qm E = (okPow i j = true ∧ Qm (.int (i ^ j.toNat)) S) := by
  show wp (if okPow i j = true then .ok (.int (i ^ j.toNat)) S else .bad) Qm E = _
  rw [wp_ite, wp_bad, iteF, wp_ok]
theorem gAbs_i (i : Int) (S : So) : gAbs [.int i] S = .ok (.int (if i < 0 then -i else i)) S := irf rfl
theorem gInt_i (i : Int) (S : So) : gInt [.int i] S = .ok (.int i) S := irf rfl
theorem gInt_b (b : Bool) (S : So) : gInt [.bl b] S = .ok (.int (if b = true then 1 else 0)) S := irf rfl
theorem gMax_i (i j : Int) (S : So) : gMax [.int i, .int j] S = .ok (.int (if j > i then j else i)) S := irf rfl
theorem gMin_i (i j : Int) (S : So) : gMin [.int i, .int j] S = .ok (.int (if j < i then j else i)) S := irf rfl
theorem gEqS_i (i j : Int) (S : So) : gEqS (.int i) (.int j) S = .ok (.bl (decide (i = j))) S := irf rfl
theorem gNeS_i (i j : Int) (S : So) : gNeS (.int i) (.int j) S = .ok (.bl (!decide (i = j))) S := irf rfl
theorem gEqS_s (i j : PySem.Str) (S : So) : gEqS (.str i) (.str j) S = .ok (.bl (decide (i = j))) S := irf rfl
theorem gNeS_s (i j : PySem.Str) (S : So) : gNeS (.str i) (.str j) S = .ok (.bl (!decide (i = j))) S := irf rfl
theorem gEqS_b (i j : Bool) (S : So) : gEqS (.bl i) (.bl j) S = .ok (.bl (decide (i = j))) S := irf rfl
theorem gNeS_b (i j : Bool) (S : So) : gNeS (.bl i) (.bl j) S = .ok (.bl (!decide (i = j))) S := irf rfl
theorem ws_nil (r : En) (S : So) : ws (sBlk [] r S) D = D.nx r S := irf rfl
theorem ws_cons (a : MS) (l : List MS) (r : En) (S : So) : ws (sBlk (a :: l) r S) D = ws (a r S) { nx := fun r S => ws (sBlk l r S) D, rt := D.rt, bk := D.bk, ct := D.ct, ex := D.ex } := by
  show ws (sSeq a (sBlk l) r S) D = _
  unfold sSeq
  cases a r S <;> rfl
theorem ws_exp (m : ME) (r : En) (S : So) : ws (sExp m r S) D = wp (m r S) (fun _ S => D.nx r S) (fun c x S => D.ex c x r S) := by unfold sExp; rw [ws_to]; rfl
theorem ws_sRet (m : ME) (r : En) (S : So) : ws (sRet m r S) D = wp (m r S) (fun x S => D.rt x S) (fun c x S => D.ex c x r S) := by unfold sRet; rw [ws_to]; rfl
theorem ws_sRetN (r : En) (S : So) : ws (sRetN r S) D = D.rt .non S := irf rfl
theorem ws_sIf (t : MT) (a b : MS) (r : En) (S : So) : ws (sIf t a b r S) D = wp (t r S) (fun c S => if c = true then ws (a r S) D else ws (b r S) D) (fun c x S => D.ex c x r S) := by unfold sIf; rw [ws_to]; simp only [ws_ite]
theorem ws_sAsg (i : Nat) (m : ME) (r : En) (S : So) : ws (sAsg (gN i) m r S) D = wp (m r S) (fun x S => D.nx (r.set i (some x)) S) (fun c x S => D.ex c x r S) := by unfold sAsg; rw [ws_to]; rfl
theorem ws_sPar (i j : Nat) (a b : ME) (r : En) (S : So) : ws (sPar i j a b r S) D = wp (a r S) (fun x S => wp (b r S) (fun y S => D.nx ((r.set i (some x)).set j (some y)) S) (fun c x S => D.ex c x r S)) (fun c x S => D.ex c x r S) := by unfold sPar; rw [ws_to]; simp only [ws_to, ws_nxt]
theorem ws_sFor (i : MI) (g : MG) (b : MS) (r : En) (S : So) : ws (sFor i g b r S) D = wp (i r S) (fun xs S => ws (forL g b xs r S) D) (fun c x S => D.ex c x r S) := by unfold sFor; rw [ws_to]
theorem ws_sIx (mo mi mv : ME) (r : En) (S : So) : ws (sIxM mo mi mv r S) D = wp (mv r S) (fun y S => wp (mo r S) (fun x S => wp (mi r S) (fun i S => match stIx x i y S with
  | some S => D.nx r S
  | none => False) (fun c x S => D.ex c x r S)) (fun c x S => D.ex c x r S)) (fun c x S => D.ex c x r S) := by
  unfold sIxM; rw [ws_to]; simp only [ws_to]
  congr 1; funext y S; congr 1; funext x S; congr 1; funext i S
  cases stIx x i y S <;> rfl
theorem ws_for0 (g : MG) (b : MS) (r : En) (S : So) : ws (forL g b [] r S) D = D.nx r S := irf rfl
theorem ws_forN (i : Nat) (b : MS) (x : MV) (xs : List MV) (r : En) (S : So) : ws (forL (gN i) b (x :: xs) r S) D = ws (b (r.set i (some x)) S) { nx := fun r S => ws (forL (gN i) b xs r S) D, ct := fun r S => ws (forL (gN i) b xs r S) D, bk := D.nx, rt := D.rt, ex := D.ex } := by
  show ws (match b (r.set i (some x)) S with
    | .nxt r S => forL (gN i) b xs r S
    | .cnt r S => forL (gN i) b xs r S
    | .brk r S => .nxt r S
    | z => z) D = _
  cases b (r.set i (some x)) S <;> rfl
theorem ws_mono {z : SR} {D' : SE} (h : ws z D) (n : ∀ r S, D.nx r S → D'.nx r S) (t : ∀ x S, D.rt x S → D'.rt x S) (b : ∀ r S, D.bk r S → D'.bk r S) (c : ∀ r S, D.ct r S → D'.ct r S) (e : ∀ c x r S, D.ex c x r S → D'.ex c x r S) : ws z D' := by
  cases z with
  | nxt r S => exact n r S h
  | ret x S => exact t x S h
  | brk r S => exact b r S h
  | cnt r S => exact c r S h
  | exc k x r S => exact e k x r S h
  | bad => exact h
/-- a walk with what holds ahead of each turn -/
theorem ws_for {g : MG} {b : MS} (I : List MV → En → So → Prop) (step : ∀ x l r S, I (x :: l) r S → ∃ r1, g x r = some r1 ∧ ws (b r1 S) { nx := I l, ct := I l, bk := D.nx, rt := D.rt, ex := D.ex }) (fin : ∀ r S, I [] r S → D.nx r S) :
    ∀ (xs : List MV) (r : En) (S : So), I xs r S → ws (forL g b xs r S) D
  | [], r, S, h => fin r S h
  | x :: xs, r, S, h => by
    obtain ⟨r1, e, w⟩ := step x xs r S h
    show ws (gGo g x r fun r => match b r S with
      | .nxt r S => forL g b xs r S
      | .cnt r S => forL g b xs r S
      | .brk r S => .nxt r S
      | z => z) D
    unfold gGo
    rw [e]
    show ws (match b r1 S with
      | .nxt r S => forL g b xs r S
      | .cnt r S => forL g b xs r S
      | .brk r S => .nxt r S
      | z => z) D
    cases eb : b r1 S <;> rw [eb] at w
    · exact ws_for I step fin xs _ _ w
    · exact w
    · exact w
    · exact ws_for I step fin xs _ _ w
    · exact w
    · exact w
abbrev dE (S : So) (Q : MV → So → Prop) (E : PySem.Str → MV → So → Prop) : SE :=
  { nx := fun _ S' => S'.length = S.length ∧ Q .non S', rt := fun x S' => S'.length = S.length ∧ Q x S', bk := fun _ _ => False, ct := fun _ _ => False, ex := fun c x _ S' => S'.length = S.length ∧ E c x S' }
theorem wp_def {n : Nat} {b : MS} {xs : List MV} {S : So} (h : ws (b (en0 n xs) S) (dE S Qm E)) : wp (runDef n b xs S) Qm E := by
  unfold runDef
  cases e : b (en0 n xs) S <;> rw [e] at h
  · obtain ⟨l, q⟩ := h
    show wp (trim S (.ok .non _)) Qm E
    rw [trim_ok (Nat.le_of_eq l)]; exact q
  · obtain ⟨l, q⟩ := h
    show wp (trim S (.ok _ _)) Qm E
    rw [trim_ok (Nat.le_of_eq l)]; exact q
  · exact h.elim
  · exact h.elim
  · obtain ⟨l, q⟩ := h
    show wp (trim S (.exc _ _ _)) Qm E
    rw [trim_exc (Nat.le_of_eq l)]; exact q
  · exact h.elim
end
end Mi
namespace Mi
open PySem PySem.Spec PyProof.Rows L2
section
variable {Qm : MV → So → Prop} {Ql : List MV → So → Prop} {E : PySem.Str → MV → So → Prop} {D : SE}
theorem wp_mMeth (c m : PySem.Str) (g : DF) (ds : List MV) (mo : ME) (ms : List ME) (r : En) (S : So) : wp (mMeth c m g ds mo ms r S) Qm E =
    wp (mo r S) (fun x S => (isCls c x S && !(fldNames x S).contains m) = true ∧ wp (mArgs ms r S) (fun xs S => wp (g (x :: (xs ++ ds)) S) Qm E) E) E := by
  unfold mMeth; rw [wp_bind]; simp only [wp_ite, wp_bind, wp_bad, iteF]
theorem wp_mMethK (c m : PySem.Str) (gM : List MV → List MV → List MV) (f : DF) (mo : ME) (ms ks : List ME) (r : En) (S : So) : wp (mMethK c m gM f mo ms ks r S) Qm E =
    wp (mo r S) (fun x S => (isCls c x S && !(fldNames x S).contains m) = true ∧ wp (mArgs ms r S) (fun xs S => wp (mArgs ks r S) (fun zs S => wp (f (gM (x :: xs) zs) S) Qm E) E) E) E := by
  unfold mMethK; rw [wp_bind]; simp only [wp_ite, wp_bind, wp_bad, iteF]
theorem wp_own (c : PySem.Str) (g : DF) (x y : MV) (S : So) : wp (gOwn c g x y S) Qm E = ((isCls c x S = true ∧ (isCls c y S = true ∨ isInt y = true)) ∧ wp (g [x, y] S) Qm E) := by
  unfold gOwn; rw [wp_ite, wp_bad, iteF]
theorem wp_ownR (c : PySem.Str) (g : DF) (x y : MV) (S : So) : wp (gOwnR c g x y S) Qm E = ((isInt x = true ∧ isCls c y S = true) ∧ wp (g [y, x] S) Qm E) := by
  unfold gOwnR; rw [wp_ite, wp_bad, iteF]
theorem wp_mLc (i : MI) (vs : List Nat) (g : MG) (t : MT) (m : ME) (r : En) (S : So) : wp (mLc i vs g t m r S) Qm E = wp (i r S) (fun xs S => wp (lcL vs g t m xs r S) (fun ys S => Qm (.lst ys) S) E) E := by
  unfold mLc; rw [wp_bind]; simp only [wp_bind, wp_ok]
theorem wp_mLcM (i : MI) (vs : List Nat) (g : MG) (t : MT) (m : ME) (r : En) (S : So) : wp (mLcM i vs g t m r S) Qm E = wp (i r S) (fun xs S => wp (lcL vs g t m xs r S) (fun ys S => Qm (.ref S.length) (S ++ [.lst ys])) E) E := by
  unfold mLcM; rw [wp_bind]; simp only [wp_bind, wp_ok]
theorem wp_capI (i : MI) (r : En) (S : So) : wp (capI i r S) Ql E = wp (i r S) (fun xs S => xs.length ≤ SZ ∧ Ql xs S) E := by
  unfold capI; rw [wp_bind]; simp only [wp_ite, wp_ok, wp_bad, iteF]
theorem lc_nil (vs : List Nat) (g : MG) (t : MT) (m : ME) (r : En) (S : So) : lcL vs g t m [] r S = .ok [] S := irf rfl
theorem wp_nx {α : Type} {Q : α → So → Prop} (z : R α) : wp (nx z) Q E = wp z Q noE := by cases z <;> rfl
theorem wp_nxX {α : Type} {Q : α → So → Prop} (z : R α) : wp (nx z) Q E = wp z Q noE := wp_nx z
theorem wp_lc1 (vs : List Nat) (i : Nat) (m : ME) (x : MV) (xs : List MV) (r : En) (S : So) : wp (lcL vs (gN i) tYesM m (x :: xs) r S) Ql E =
    wp (m ((wipeM r vs).set i (some x)) S) (fun y S => wp (lcL vs (gN i) tYesM m xs r S) (fun ys S => Ql (y :: ys) S) E) noE := by
  show wp ((nx (m ((wipeM r vs).set i (some x)) S)).bind fun y S => (lcL vs (gN i) tYesM m xs r S).bind fun ys S => .ok (y :: ys) S) Ql E = _
  rw [wp_bind, wp_nx]
  show wp (m ((wipeM r vs).set i (some x)) S) _ noE = _
  cases m ((wipeM r vs).set i (some x)) S with
  | ok y S => show wp ((lcL vs (gN i) tYesM m xs r S).bind fun ys S => .ok (y :: ys) S) Ql E = _; rw [wp_bind]; rfl
  | exc c x S => rfl
  | bad => rfl
/-- each item by itself, nothing of the store changed -/
theorem lc_pure {vs : List Nat} {g : MG} {t : MT} {m : ME} {r : En} {S : So} (p : MV → Bool) (f : MV → MV) : ∀ xs : List MV,
    (∀ x ∈ xs, ∃ r1, g x (wipeM r vs) = some r1 ∧ t r1 S = .ok (p x) S ∧ (p x = true → m r1 S = .ok (f x) S)) → lcL vs g t m xs r S = .ok ((xs.filter p).map f) S
  | [], _ => rfl
  | x :: xs, h => by
    obtain ⟨r1, e1, e2, e3⟩ := h x List.mem_cons_self
    have ih := lc_pure p f xs fun y hy => h y (List.mem_cons_of_mem _ hy)
    rw [lcL, e1]
    simp only [e2, nx, R.bind_ok]
    cases q : p x with
    | true => simp only [e3 q, nx, R.bind_ok, if_true, ih, List.filter_cons_of_pos q, List.map_cons]
    | false => simp [ih, q]
theorem lc_map {vs : List Nat} {i : Nat} {m : ME} {r : En} {S : So} (f : MV → MV) (xs : List MV) (h : ∀ x ∈ xs, m ((wipeM r vs).set i (some x)) S = .ok (f x) S) : lcL vs (gN i) tYesM m xs r S = .ok (xs.map f) S := by
  have e := lc_pure (vs := vs) (g := gN i) (t := tYesM) (m := m) (r := r) (S := S) (fun _ => true) f xs fun x hx => ⟨_, rfl, rfl, fun _ => h x hx⟩
  rwa [List.filter_eq_self.mpr (fun _ _ => rfl)] at e
/-- item by item, the store going on -/
theorem wp_lcI {vs : List Nat} {i : Nat} {m : ME} {r : En} (I : List MV → List MV → So → Prop) : ∀ (xs ys : List MV) (S : So),
    (∀ x l ys S, I (x :: l) ys S → wp (m ((wipeM r vs).set i (some x)) S) (fun y S' => I l (ys ++ [y]) S') noE) → I xs ys S → wp (lcL vs (gN i) tYesM m xs r S) (fun zs S' => I [] (ys ++ zs) S') E
  | [], ys, S, _, h => by
    show I [] (ys ++ []) S
    rw [List.append_nil]; exact h
  | x :: xs, ys, S, st, h => by
    rw [wp_lc1]
    refine wp_mono (st x xs ys S h) (fun y S1 h1 => ?_) (fun _ _ _ h => h)
    refine wp_mono (wp_lcI I xs (ys ++ [y]) S1 st h1) (fun zs S2 h2 => ?_) (fun _ _ _ h => h)
    rwa [List.append_assoc] at h2
theorem wp_iSeq (m : ME) (r : En) (S : So) : wp (iSeq m r S) Ql E = wp (m r S) (fun x S => ∃ xs, pureSeq x = some xs ∧ Ql xs S) E := by
  unfold iSeq; rw [wp_bind]
  congr 1; funext x S
  cases pureSeq x <;> simp [wp_ok, wp_bad]
theorem wp_iRng (m : ME) (r : En) (S : So) : wp (iRng m r S) Ql E = wp (m r S) (fun x S => ∃ j, x = .int j ∧ (-B62 ≤ j ∧ j < B62) ∧ Ql (rngM 0 j.toNat) S) E := by
  unfold iRng; rw [wp_bind]
  congr 1; funext x S
  cases x <;> simp [wp_ite, wp_ok, wp_bad]
theorem wp_mAlt {a b : ME} {r : En} {S : So} (h : wp (a r S) Qm E) : wp (mAlt a b r S) Qm E := by
  unfold mAlt
  cases e : a r S <;> rw [e] at h
  · exact h
  · exact h
  · exact h.elim
theorem wp_mAlt2 {a b : ME} {r : En} {S : So} (e : a r S = .bad) (h : wp (b r S) Qm E) : wp (mAlt a b r S) Qm E := by
  unfold mAlt
  rw [e]; exact h
theorem at_end (S : So) (o : MO) : (S ++ [o])[S.length]? = some o := by simp
theorem set_end (S : So) (o u : MO) : (S ++ [o]).set S.length u = S ++ [u] := by simp
theorem trim_keep (S S' : So) (x : MV) (h : MV.lt S.length x = false) : trim S (.ok x S') = .ok x S' := by
  show (if S'.length ≤ S.length then _ else if (MV.lt S.length x && okTail S.length S S') = true then _ else _) = _
  rw [h]
  split <;> rfl
theorem trim_one (S : So) (x : MV) (u : MO) (h : MV.lt S.length x = true) : trim S (.ok x (S ++ [u])) = .ok x S := by
  refine trim_app rfl h ?_
  exact okTail_refl _ _ _
/-- an instance whose init only stores: made, frozen -/
theorem wp_make {c : PySem.Str} {g : DF} {ds : List MV} {ms : List ME} {r : En} {S : So} {ns : List PySem.Str} {fx : List MV → List MV} (hg : ∀ (S1 : So) (xs : List MV), xs.length = ns.length → g (.ref S1.length :: xs) (S1 ++ [.ins c [] []]) = .ok .non (S1 ++ [.ins c ns (fx xs)]))
    (h : wp (mArgs ms r S) (fun xs S1 => S1.length = S.length ∧ (xs ++ ds).length = ns.length ∧ Qm (.obj c ns (fx (xs ++ ds))) (S1 ++ [.dead])) noE) : wp (mFrz (mTrim (mMake c g ds ms)) r S) Qm E := by
  rw [wp_mFrz]
  show wp (trim S (mMake c g ds ms r S)) _ E
  unfold mMake
  cases e : mArgs ms r S with
  | ok xs S1 =>
    rw [e] at h
    obtain ⟨hl, hn, q⟩ := h
    simp only [R.bind_ok]
    rw [hg S1 (xs ++ ds) hn]
    simp only [R.bind_ok]
    rw [trim_keep S _ (.ref S1.length) (show decide (S1.length < S.length) = false from decide_eq_false (by omega))]
    show wp (frz (.ref S1.length) (S1 ++ [.ins c ns (fx (xs ++ ds))])) _ _
    unfold frz
    simp only [at_end, set_end]
    exact q
  | exc k x S1 => rw [e] at h; exact h.elim
  | bad => rw [e] at h; exact h.elim
end
end Mi
namespace Mi
section
variable {Qm : MV → So → Prop} {E : PySem.Str → MV → So → Prop}
variable (a b c d e f g h i j k l m n o p q t u v w : Option MV) (x : MV) (r : En) (S : So)
theorem nm0 : wp (mName 0 (some x :: r) S) Qm E = Qm x S := irf rfl
theorem nm1 : wp (mName 1 (a :: some x :: r) S) Qm E = Qm x S := irf rfl
theorem nm2 : wp (mName 2 (a :: b :: some x :: r) S) Qm E = Qm x S := irf rfl
theorem nm3 : wp (mName 3 (a :: b :: c :: some x :: r) S) Qm E = Qm x S := irf rfl
theorem nm4 : wp (mName 4 (a :: b :: c :: d :: some x :: r) S) Qm E = Qm x S := irf rfl
theorem nm5 : wp (mName 5 (a :: b :: c :: d :: e :: some x :: r) S) Qm E = Qm x S := irf rfl
theorem nm6 : wp (mName 6 (a :: b :: c :: d :: e :: f :: some x :: r) S) Qm E = Qm x S := irf rfl
theorem nm7 : wp (mName 7 (a :: b :: c :: d :: e :: f :: g :: some x :: r) S) Qm E = Qm x S := irf rfl
theorem nm8 : wp (mName 8 (a :: b :: c :: d :: e :: f :: g :: h :: some x :: r) S) Qm E = Qm x S := irf rfl
theorem nm9 : wp (mName 9 (a :: b :: c :: d :: e :: f :: g :: h :: i :: some x :: r) S) Qm E = Qm x S := irf rfl
theorem nm10 : wp (mName 10 (a :: b :: c :: d :: e :: f :: g :: h :: i :: j :: some x :: r) S) Qm E = Qm x S := irf rfl
theorem nm11 : wp (mName 11 (a :: b :: c :: d :: e :: f :: g :: h :: i :: j :: k :: some x :: r) S) Qm E = Qm x S := irf rfl
theorem nm12 : wp (mName 12 (a :: b :: c :: d :: e :: f :: g :: h :: i :: j :: k :: l :: some x :: r) S) Qm E = Qm x S := irf rfl
theorem nm13 : wp (mName 13 (a :: b :: c :: d :: e :: f :: g :: h :: i :: j :: k :: l :: m :: some x :: r) S) Qm E = Qm x S := irf rfl
theorem nm14 : wp (mName 14 (a :: b :: c :: d :: e :: f :: g :: h :: i :: j :: k :: l :: m :: n :: some x :: r) S) Qm E = Qm x S := irf rfl
theorem nm15 : wp (mName 15 (a :: b :: c :: d :: e :: f :: g :: h :: i :: j :: k :: l :: m :: n :: o :: some x :: r) S) Qm E = Qm x S := irf rfl
end
end Mi
namespace Mi
open PySem PySem.Spec PyProof.Rows L2
section
variable {Qm : MV → So → Prop} {Ql : List MV → So → Prop} {Qb : Bool → So → Prop} {E : PySem.Str → MV → So → Prop} {D : SE}
theorem wp_isX {α : Type} {z : R α} {c : PySem.Str} {x : MV} {S : So} (h : wp z (fun _ _ => False) (fun c' y S' => c' = c ∧ y = x ∧ S' = S)) : z = .exc c x S := by
  cases z with
  | ok y S' => exact h.elim
  | exc c' y S' => obtain ⟨rfl, rfl, rfl⟩ := h; rfl
  | bad => exact h.elim
theorem ws_sRaise (c : PySem.Str) (m : ME) (r : En) (S : So) : ws (sRaise c m r S) D = wp (m r S) (fun x S => D.ex c x r S) (fun c' x S => D.ex c' x r S) := by unfold sRaise; rw [ws_to]; rfl
def tryE (ca : PySem.Str → Option Bool) (i j : Nat) (xs : List XI) (D : SE) (c : PySem.Str) (x : MV) (r1 : En) (S1 : So) : Prop := match ca c with
  | some true => match allSome (xs.map (XI.ev c x)) with
    | some ys => i < r1.length ∧ D.nx ((r1.set j (some (.lst ys))).set i none) S1
    | none => False
  | some false => D.ex c x r1 S1
  | none => False
theorem ws_sTry (ca : PySem.Str → Option Bool) (b : MS) (i j : Nat) (xs : List XI) (r : En) (S : So) : ws (sTry ca b i j xs r S) D = ws (b r S) { nx := D.nx, rt := D.rt, bk := D.bk, ct := D.ct, ex := tryE ca i j xs D } := by
  unfold sTry
  cases b r S with
  | exc c x r1 S1 =>
    show _ = tryE ca i j xs D c x r1 S1
    unfold tryE
    simp only
    cases ca c with
    | none => rfl
    | some cb => cases cb with
      | false => rfl
      | true =>
        simp only
        cases allSome (xs.map (XI.ev c x)) with
        | none => rfl
        | some ys => simp only [ws_ite, ws_bad, iteF]; rfl
  | _ => rfl
def gCh (f' : Int → Int → Bool) (j : Int) (z : MV) (S : So) : R MV := match z with
  | .int k => .ok (.bl (f' j k)) S
  | _ => .bad
theorem wp_gCh (f' : Int → Int → Bool) (j : Int) (z : MV) (S : So) : wp (gCh f' j z S) Qm E = ∃ k, z = .int k ∧ Qm (.bl (f' j k)) S := by
  unfold gCh
  cases z <;> simp [wp_bad, wp_ok]
theorem wp_mCh (f f' : Int → Int → Bool) (a b c : ME) (r : En) (S : So) : wp (mCh f f' a b c r S) Qm E = wp (a r S) (fun x S => wp (b r S) (fun y S => ∃ i, x = .int i ∧ ∃ j, y = .int j ∧ if f i j = true then wp (c r S) (fun z S => ∃ k, z = .int k ∧ Qm (.bl (f' j k)) S) E else Qm (.bl false) S) E) E := by
  have e : mCh f f' a b c r S = (a r S).bind fun x S => (b r S).bind fun y S => match x, y with
    | .int i, .int j => if f i j = true then (c r S).bind (gCh f' j) else .ok (.bl false) S
    | _, _ => .bad := rfl
  rw [e, wp_bind]
  congr 1; funext x S; rw [wp_bind]
  congr 1; funext y S
  cases x <;> cases y <;> simp [wp_bad]
  rw [wp_ite, wp_bind, wp_ok]
  simp only [wp_gCh]
theorem wp_len (z : PySem.Str) (S : So) : wp (gLen [.str z] S) Qm E = (z.length ≤ SZ ∧ Qm (.int z.length) S) := by
  show wp (if z.length ≤ SZ then .ok (.int z.length) S else .bad) Qm E = _
  rw [wp_ite, wp_ok, wp_bad, iteF]
theorem len_lst (xs : List MV) (S : So) : gLen [.lst xs] S = .ok (.int xs.length) S := irf rfl
theorem len_tup (xs : List MV) (S : So) : gLen [.tup xs] S = .ok (.int xs.length) S := irf rfl
theorem len_scr (xs : List MV) (S : So) : gLen [.scr xs] S = .ok (.int xs.length) S := irf rfl
theorem wp_iStr (m : ME) (r : En) (S : So) : wp (iStrM m r S) Ql E = wp (m r S) (fun x S => ∃ z, x = .str z ∧ Ql (signsM z) S) E := by
  unfold iStrM; rw [wp_bind]
  congr 1; funext x S
  cases x <;> simp [wp_bad, wp_ok]
theorem wp_mJoin (o e : ME) (r : En) (S : So) : wp (mJoin o e r S) Qm E = wp (o r S) (fun x S => isStr x = true ∧ wp (e r S) (fun y S => wp (gJoin x y S) Qm E) E) E := by
  unfold mJoin; rw [wp_bind]; simp only [wp_ite, wp_bind, wp_bad, iteF]
theorem wp_eqC (g : GE) (x y : MV) (S : So) : wp (eqC g x y S) Qm E = wp (g x y S) (fun b S => Qm (.bl b) S) E := by unfold eqC; rw [wp_bind]; rfl
theorem wp_neC (g : GE) (x y : MV) (S : So) : wp (neC g x y S) Qm E = wp (g x y S) (fun b S => Qm (.bl (!b)) S) E := by unfold neC; rw [wp_bind]; rfl
theorem wp_mSl (a : ME) (lo hi : MP) (r : En) (S : So) : wp (mSl a lo hi r S) Qm E = wp (a r S) (fun x S => wp (lo r S) (fun l S => wp (hi r S) (fun h S => wp (slM x l h S) Qm E) E) E) E := by
  unfold mSl; rw [wp_bind]; simp only [wp_bind]
theorem wp_oNone {Qo : Option Int → So → Prop} (r : En) (S : So) : wp (oNone r S) Qo E = Qo none S := irf rfl
theorem wp_oSome {Qo : Option Int → So → Prop} (m : ME) (r : En) (S : So) : wp (oSome m r S) Qo E = wp (m r S) (fun x S => ∃ i, x = .int i ∧ Qo (some i) S) E := by
  unfold oSome; rw [wp_bind]
  congr 1; funext x S
  cases x <;> simp [wp_bad, wp_ok]
/-- targets of a tuple -/
theorem ws_sAsgT (gs : List MG) (m : ME) (r : En) (S : So) : ws (sAsg (gT gs) m r S) D = wp (m r S) (fun x S => ∃ xs, x = .tup xs ∧ ∃ r1, gTs gs xs r = some r1 ∧ D.nx r1 S) (fun c x S => D.ex c x r S) := by
  unfold sAsg; rw [ws_to]
  congr 1; funext x S
  unfold gGo gT
  cases x <;> simp [ws_bad]
  cases gTs gs _ r <;> simp [ws_bad, ws_nxt]
theorem gTs_nil (r : En) : gTs [] [] r = some r := irf rfl
theorem gTs_cons (i : Nat) (gs : List MG) (x : MV) (xs : List MV) (r : En) : gTs (gN i :: gs) (x :: xs) r = gTs gs xs (r.set i (some x)) := irf rfl
theorem atI_nat {α : Type} (xs : List α) (k : Nat) (h : k < xs.length) : atI xs (k : Int) = some xs[k] := by
  unfold atI ixN
  rw [if_pos (by omega), if_pos (by omega)]
  simp [h]
theorem ix_l0 (x : MV) (xs : List MV) (S : So) : ixM (.lst (x :: xs)) (.int 0) S = .ok x S := by
  have e := atI_nat (x :: xs) 0 (by simp)
  show (match atI (x :: xs) 0 with | some y => Mi.R.ok y S | none => .bad) = _
  rw [show (0 : Int) = ((0 : Nat) : Int) from rfl, e]; rfl
theorem ix_t0 (x : MV) (xs : List MV) (S : So) : ixM (.tup (x :: xs)) (.int 0) S = .ok x S := by
  have e := atI_nat (x :: xs) 0 (by simp)
  show (match atI (x :: xs) 0 with | some y => Mi.R.ok y S | none => .bad) = _
  rw [show (0 : Int) = ((0 : Nat) : Int) from rfl, e]; rfl
theorem ix_t1 (x y : MV) (xs : List MV) (S : So) : ixM (.tup (x :: y :: xs)) (.int 1) S = .ok y S := by
  have e := atI_nat (x :: y :: xs) 1 (by simp)
  show (match atI (x :: y :: xs) 1 with | some y => Mi.R.ok y S | none => .bad) = _
  rw [show (1 : Int) = ((1 : Nat) : Int) from rfl, e]; rfl
theorem ix_t2 (x y z : MV) (xs : List MV) (S : So) : ixM (.tup (x :: y :: z :: xs)) (.int 2) S = .ok z S := by
  have e := atI_nat (x :: y :: z :: xs) 2 (by simp)
  show (match atI (x :: y :: z :: xs) 2 with | some y => Mi.R.ok y S | none => .bad) = _
  rw [show (2 : Int) = ((2 : Nat) : Int) from rfl, e]; rfl
/-- an item of a list at a place that is there -/
theorem atI_at (xs : List MV) (t : Int) (h0 : 0 ≤ t) (h1 : t < xs.length) : ∃ y ∈ xs, atI xs t = some y := by
  unfold atI
  have e : ixN xs.length t = some t.toNat := by
    unfold ixN
    rw [if_pos h0, if_pos h1]
  rw [e]
  have hl : t.toNat < xs.length := by omega
  exact ⟨xs[t.toNat], List.getElem_mem hl, List.getElem?_eq_getElem hl⟩
theorem wp_ixL (xs : List MV) (t : Int) (S : So) (h0 : 0 ≤ t) (h1 : t < xs.length) (P : MV → Prop) (hp : ∀ y ∈ xs, P y) : wp (ixM (.lst xs) (.int t) S) (fun y S' => P y ∧ S' = S) noE := by
  obtain ⟨y, hy, e⟩ := atI_at xs t h0 h1
  have e2 : ixM (.lst xs) (.int t) S = .ok y S := by
    show (match atI xs t with
      | some y => Mi.R.ok y S
      | none => .bad) = _
    rw [e]
  rw [e2]
  exact ⟨hp y hy, rfl⟩
end
end Mi
namespace Mi
open PySem PySem.Spec PyProof.Rows L2
theorem ws_cut {D : SE} {a : MS} {l : List MS} {r : En} {S : So} (P : En → So → Prop) (h1 : ws (a r S) { nx := P, rt := D.rt, bk := D.bk, ct := D.ct, ex := D.ex }) (h2 : ∀ r S, P r S → ws (sBlk l r S) D) : ws (sBlk (a :: l) r S) D := by
  rw [ws_cons]
  exact ws_mono h1 h2 (fun _ _ h => h) (fun _ _ h => h) (fun _ _ h => h) (fun _ _ _ _ h => h)
theorem ws_last {D : SE} {a : MS} {r : En} {S : So} (h : ws (a r S) D) : ws (sBlk [a] r S) D := by
  rw [ws_cons]
  exact ws_mono h (fun _ _ h => h) (fun _ _ h => h) (fun _ _ h => h) (fun _ _ h => h) (fun _ _ _ _ h => h)
/-- a plain item of a list -/
theorem ixP (xs : List MV) (t : Int) (S : So) (h0 : 0 ≤ t) (h1 : t < xs.length) : ∃ y ∈ xs, ixM (.lst xs) (.int t) S = .ok y S := by
  obtain ⟨y, hy, e⟩ := atI_at xs t h0 h1
  refine ⟨y, hy, ?_⟩
  show (match atI xs t with
    | some y => Mi.R.ok y S
    | none => .bad) = _
  rw [e]
theorem ixS (z : PySem.Str) (t : Int) (S : So) (hz : z.length ≤ SZ) (h0 : 0 ≤ t) (h1 : t < z.length) : ∃ c ∈ z.cps.toList, ixM (.str z) (.int t) S = .ok (.str ⟨#[c]⟩) S := by
  have h1' : t < z.cps.toList.length := by simpa [PySem.Str.length] using h1
  obtain ⟨j, hj⟩ : ∃ j : Nat, t = j := ⟨t.toNat, by omega⟩
  subst hj
  have hl : j < z.cps.toList.length := by omega
  refine ⟨z.cps.toList[j], List.getElem_mem hl, ?_⟩
  show (if z.length ≤ SZ then (match atI z.cps.toList (j : Int) with
    | some c => Mi.R.ok (MV.str ⟨#[c]⟩) S
    | none => .bad) else .bad) = _
  rw [if_pos hz, atI_nat _ _ hl]
end Mi

set_option maxHeartbeats 4000000
namespace Mi
open PySem PySem.Spec PyProof.Rows L2
section
variable {Qm : MV → So → Prop} {Ql : List MV → So → Prop} {Qb : Bool → So → Prop} {Qo : Option Int → So → Prop} {E : PySem.Str → MV → So → Prop} {D : SE}
def K3 (g : G2) (x : MV) (Qm : MV → So → Prop) (E : PySem.Str → MV → So → Prop) (y : MV) (S : So) : Prop := wp (g x y S) Qm E
theorem k3 (g : G2) (x y : MV) (S : So) : K3 g x Qm E y S = wp (g x y S) Qm E := irf rfl
def K2 (g : G2) (b : ME) (r : En) (Qm : MV → So → Prop) (E : PySem.Str → MV → So → Prop) (x : MV) (S : So) : Prop := wp (b r S) (K3 g x Qm E) E
theorem k2 (g : G2) (b : ME) (r : En) (x : MV) (S : So) : K2 g b r Qm E x S = wp (b r S) (K3 g x Qm E) E := irf rfl
theorem w_bin (g : G2) (a b : ME) (r : En) (S : So) : wp (mBin g a b r S) Qm E = wp (a r S) (K2 g b r Qm E) E := wp_mBin g a b r S
def Kc (x : MV) (Ql : List MV → So → Prop) (xs : List MV) (S : So) : Prop := Ql (x :: xs) S
theorem kc (x : MV) (xs : List MV) (S : So) : Kc x Ql xs S = Ql (x :: xs) S := irf rfl
def Ka (ms : List ME) (r : En) (Ql : List MV → So → Prop) (E : PySem.Str → MV → So → Prop) (x : MV) (S : So) : Prop := wp (mArgs ms r S) (Kc x Ql) E
theorem ka (ms : List ME) (r : En) (x : MV) (S : So) : Ka ms r Ql E x S = wp (mArgs ms r S) (Kc x Ql) E := irf rfl
theorem w_cons (m : ME) (ms : List ME) (r : En) (S : So) : wp (mArgs (m :: ms) r S) Ql E = wp (m r S) (Ka ms r Ql E) E := wp_cons m ms r S
def Kt (Qm : MV → So → Prop) (xs : List MV) (S : So) : Prop := Qm (.tup xs) S
theorem kt (xs : List MV) (S : So) : Kt Qm xs S = Qm (.tup xs) S := irf rfl
theorem w_tup (ms : List ME) (r : En) (S : So) : wp (mTup ms r S) Qm E = wp (mArgs ms r S) (Kt Qm) E := wp_mTup ms r S
def Kl (Qm : MV → So → Prop) (xs : List MV) (S : So) : Prop := Qm (.lst xs) S
theorem kl (xs : List MV) (S : So) : Kl Qm xs S = Qm (.lst xs) S := irf rfl
theorem w_lst (ms : List ME) (r : En) (S : So) : wp (mLst ms r S) Qm E = wp (mArgs ms r S) (Kl Qm) E := wp_mLst ms r S
def KlM (Qm : MV → So → Prop) (xs : List MV) (S : So) : Prop := Qm (.ref S.length) (S ++ [.lst xs])
theorem klM (xs : List MV) (S : So) : KlM Qm xs S = Qm (.ref S.length) (S ++ [.lst xs]) := irf rfl
theorem w_lstM (ms : List ME) (r : En) (S : So) : wp (mLstM ms r S) Qm E = wp (mArgs ms r S) (KlM Qm) E := wp_mLstM ms r S
def Kf (Qm : MV → So → Prop) (E : PySem.Str → MV → So → Prop) (x : MV) (S : So) : Prop := wp (frz x S) Qm E
theorem kf (x : MV) (S : So) : Kf Qm E x S = wp (frz x S) Qm E := irf rfl
theorem w_frz (m : ME) (r : En) (S : So) : wp (mFrz m r S) Qm E = wp (m r S) (Kf Qm E) E := wp_mFrz m r S
def Kg (f : DF) (ds : List MV) (Qm : MV → So → Prop) (E : PySem.Str → MV → So → Prop) (xs : List MV) (S : So) : Prop := wp (f (xs ++ ds) S) Qm E
theorem kg (f : DF) (ds xs : List MV) (S : So) : Kg f ds Qm E xs S = wp (f (xs ++ ds) S) Qm E := irf rfl
theorem w_call (f : DF) (ds : List MV) (ms : List ME) (r : En) (S : So) : wp (mCall f ds ms r S) Qm E = wp (mArgs ms r S) (Kg f ds Qm E) E := wp_mCall f ds ms r S
def KkB (gM : List MV → List MV → List MV) (f : DF) (xs : List MV) (Qm : MV → So → Prop) (E : PySem.Str → MV → So → Prop) (zs : List MV) (S : So) : Prop := wp (f (gM xs zs) S) Qm E
theorem kkB (gM : List MV → List MV → List MV) (f : DF) (xs zs : List MV) (S : So) : KkB gM f xs Qm E zs S = wp (f (gM xs zs) S) Qm E := irf rfl
def KkA (gM : List MV → List MV → List MV) (f : DF) (ks : List ME) (r : En) (Qm : MV → So → Prop) (E : PySem.Str → MV → So → Prop) (xs : List MV) (S : So) : Prop := wp (mArgs ks r S) (KkB gM f xs Qm E) E
theorem kkA (gM : List MV → List MV → List MV) (f : DF) (ks : List ME) (r : En) (xs : List MV) (S : So) : KkA gM f ks r Qm E xs S = wp (mArgs ks r S) (KkB gM f xs Qm E) E := irf rfl
theorem w_callK (gM : List MV → List MV → List MV) (f : DF) (ms ks : List ME) (r : En) (S : So) : wp (mCallK gM f ms ks r S) Qm E = wp (mArgs ms r S) (KkA gM f ks r Qm E) E := wp_mCallK gM f ms ks r S
def Kb (g : GA) (Qm : MV → So → Prop) (E : PySem.Str → MV → So → Prop) (xs : List MV) (S : So) : Prop := wp (g xs S) Qm E
theorem kb (g : GA) (xs : List MV) (S : So) : Kb g Qm E xs S = wp (g xs S) Qm E := irf rfl
theorem w_blt (g : GA) (ms : List ME) (r : En) (S : So) : wp (mBlt g ms r S) Qm E = wp (mArgs ms r S) (Kb g Qm E) E := wp_mBlt g ms r S
def Kv (Qb : Bool → So → Prop) (E : PySem.Str → MV → So → Prop) (x : MV) (S : So) : Prop := wp (asB x S) Qb E
theorem kv (b : Bool) (S : So) : Kv Qb E (.bl b) S = Qb b S := irf rfl
theorem w_val (m : ME) (r : En) (S : So) : wp (tVal m r S) Qb E = wp (m r S) (Kv Qb E) E := wp_tVal m r S
def Kn (Qb : Bool → So → Prop) (b : Bool) (S : So) : Prop := Qb (!b) S
theorem kn (b : Bool) (S : So) : Kn Qb b S = Qb (!b) S := irf rfl
theorem w_not (t : MT) (r : En) (S : So) : wp (tNot' t r S) Qb E = wp (t r S) (Kn Qb) E := wp_tNot t r S
def Kan (u : MT) (r : En) (Qb : Bool → So → Prop) (E : PySem.Str → MV → So → Prop) (b : Bool) (S : So) : Prop := if b = true then wp (u r S) Qb E else Qb false S
theorem kan_t (u : MT) (r : En) (S : So) : Kan u r Qb E true S = wp (u r S) Qb E := irf rfl
theorem kan_f (u : MT) (r : En) (S : So) : Kan u r Qb E false S = Qb false S := irf rfl
theorem w_and (t u : MT) (r : En) (S : So) : wp (tAnd' t u r S) Qb E = wp (t r S) (Kan u r Qb E) E := wp_tAnd t u r S
def Kor (u : MT) (r : En) (Qb : Bool → So → Prop) (E : PySem.Str → MV → So → Prop) (b : Bool) (S : So) : Prop := if b = true then Qb true S else wp (u r S) Qb E
theorem kor_t (u : MT) (r : En) (S : So) : Kor u r Qb E true S = Qb true S := irf rfl
theorem kor_f (u : MT) (r : En) (S : So) : Kor u r Qb E false S = wp (u r S) Qb E := irf rfl
theorem w_or (t u : MT) (r : En) (S : So) : wp (tOr' t u r S) Qb E = wp (t r S) (Kor u r Qb E) E := wp_tOr t u r S
def Kmn (Qm : MV → So → Prop) (x : MV) (S : So) : Prop := wp (asB x S) (fun b S => Qm (.bl (!b)) S) noE
def Knn (Qm : MV → So → Prop) (b : Bool) (S : So) : Prop := Qm (.bl (!b)) S
theorem knn (b : Bool) (S : So) : Knn Qm b S = Qm (.bl (!b)) S := irf rfl
theorem w_mnot (m : ME) (r : En) (S : So) : wp (mNot m r S) Qm E = wp (m r S) (Kv (Knn Qm) E) E := wp_mNot m r S
def Kma (b : ME) (r : En) (Qm : MV → So → Prop) (E : PySem.Str → MV → So → Prop) (c : Bool) (S : So) : Prop := if c = true then wp (b r S) Qm E else Qm (.bl false) S
theorem kma_t (b : ME) (r : En) (S : So) : Kma b r Qm E true S = wp (b r S) Qm E := irf rfl
theorem kma_f (b : ME) (r : En) (S : So) : Kma b r Qm E false S = Qm (.bl false) S := irf rfl
theorem w_mand (a b : ME) (r : En) (S : So) : wp (mAnd a b r S) Qm E = wp (a r S) (Kv (Kma b r Qm E) E) E := wp_mAnd a b r S
def Kmo (b : ME) (r : En) (Qm : MV → So → Prop) (E : PySem.Str → MV → So → Prop) (c : Bool) (S : So) : Prop := if c = true then Qm (.bl true) S else wp (b r S) Qm E
theorem kmo_t (b : ME) (r : En) (S : So) : Kmo b r Qm E true S = Qm (.bl true) S := irf rfl
theorem kmo_f (b : ME) (r : En) (S : So) : Kmo b r Qm E false S = wp (b r S) Qm E := irf rfl
theorem w_mor (a b : ME) (r : En) (S : So) : wp (mOr a b r S) Qm E = wp (a r S) (Kv (Kmo b r Qm E) E) E := wp_mOr a b r S
def Kmi (a b : ME) (r : En) (Qm : MV → So → Prop) (E : PySem.Str → MV → So → Prop) (c : Bool) (S : So) : Prop := if c = true then wp (a r S) Qm E else wp (b r S) Qm E
theorem kmi_t (a b : ME) (r : En) (S : So) : Kmi a b r Qm E true S = wp (a r S) Qm E := irf rfl
theorem kmi_f (a b : ME) (r : En) (S : So) : Kmi a b r Qm E false S = wp (b r S) Qm E := irf rfl
theorem w_mif (t : MT) (a b : ME) (r : En) (S : So) : wp (mIf t a b r S) Qm E = wp (t r S) (Kmi a b r Qm E) E := wp_mIf t a b r S
def Kfl (c f : PySem.Str) (Qm : MV → So → Prop) (E : PySem.Str → MV → So → Prop) (x : MV) (S : So) : Prop := wp (gFld c f x S) Qm E
theorem kfl (c f : PySem.Str) (x : MV) (S : So) : Kfl c f Qm E x S = wp (gFld c f x S) Qm E := irf rfl
theorem w_fld (c f : PySem.Str) (mo : ME) (r : En) (S : So) : wp (mFld c f mo r S) Qm E = wp (mo r S) (Kfl c f Qm E) E := wp_mFld c f mo r S
def Kpr (c : PySem.Str) (g : DF) (Qm : MV → So → Prop) (E : PySem.Str → MV → So → Prop) (x : MV) (S : So) : Prop := wp (gProp c g x S) Qm E
theorem kpr (c : PySem.Str) (g : DF) (x : MV) (S : So) : Kpr c g Qm E x S = wp (gProp c g x S) Qm E := irf rfl
theorem w_prop (c : PySem.Str) (g : DF) (mo : ME) (r : En) (S : So) : wp (mProp c g mo r S) Qm E = wp (mo r S) (Kpr c g Qm E) E := wp_mProp c g mo r S
def Kis (tb : Tg → Option Bool) (Qm : MV → So → Prop) (E : PySem.Str → MV → So → Prop) (x : MV) (S : So) : Prop := wp (gIsi tb x S) Qm E
theorem kis (tb : Tg → Option Bool) (x : MV) (S : So) : Kis tb Qm E x S = wp (gIsi tb x S) Qm E := irf rfl
theorem w_isi (tb : Tg → Option Bool) (m : ME) (r : En) (S : So) : wp (mIsi tb m r S) Qm E = wp (m r S) (Kis tb Qm E) E := wp_mIsi tb m r S
def Kng (Qm : MV → So → Prop) (x : MV) (S : So) : Prop := ∃ i, x = .int i ∧ Qm (.int (-i)) S
theorem kng (i : Int) (S : So) : Kng Qm (.int i) S = Qm (.int (-i)) S := propext ⟨fun ⟨_, e, h⟩ => by cases e; exact h, fun h => ⟨i, rfl, h⟩⟩
theorem w_neg (a : ME) (r : En) (S : So) : wp (mNeg a r S) Qm E = wp (a r S) (Kng Qm) E := by
  rw [wp_mNeg]
  congr 1; funext x S
  unfold Kng
  cases x <;> simp [wp_bad, wp_ok]
def Kiv (c : PySem.Str) (g : DF) (Qm : MV → So → Prop) (E : PySem.Str → MV → So → Prop) (x : MV) (S : So) : Prop := if isCls c x S = true then wp (g [x] S) Qm E else False
theorem kiv (c : PySem.Str) (g : DF) (x : MV) (S : So) : Kiv c g Qm E x S = (isCls c x S = true ∧ wp (g [x] S) Qm E) := by unfold Kiv; rw [iteF]
theorem w_inv (c : PySem.Str) (g : DF) (a : ME) (r : En) (S : So) : wp (mInv c g a r S) Qm E = wp (a r S) (Kiv c g Qm E) E := wp_mInv c g a r S
def KmB (g : DF) (ds : List MV) (x : MV) (Qm : MV → So → Prop) (E : PySem.Str → MV → So → Prop) (xs : List MV) (S : So) : Prop := wp (g (x :: (xs ++ ds)) S) Qm E
theorem kmB (g : DF) (ds : List MV) (x : MV) (xs : List MV) (S : So) : KmB g ds x Qm E xs S = wp (g (x :: (xs ++ ds)) S) Qm E := irf rfl
def KmA (c m : PySem.Str) (g : DF) (ds : List MV) (ms : List ME) (r : En) (Qm : MV → So → Prop) (E : PySem.Str → MV → So → Prop) (x : MV) (S : So) : Prop := (isCls c x S && !(fldNames x S).contains m) = true ∧ wp (mArgs ms r S) (KmB g ds x Qm E) E
theorem kmA (c m : PySem.Str) (g : DF) (ds : List MV) (ms : List ME) (r : En) (x : MV) (S : So) : KmA c m g ds ms r Qm E x S = ((isCls c x S && !(fldNames x S).contains m) = true ∧ wp (mArgs ms r S) (KmB g ds x Qm E) E) := irf rfl
theorem w_meth (c m : PySem.Str) (g : DF) (ds : List MV) (mo : ME) (ms : List ME) (r : En) (S : So) : wp (mMeth c m g ds mo ms r S) Qm E = wp (mo r S) (KmA c m g ds ms r Qm E) E := wp_mMeth c m g ds mo ms r S
def KnC (gM : List MV → List MV → List MV) (f : DF) (x : MV) (xs : List MV) (Qm : MV → So → Prop) (E : PySem.Str → MV → So → Prop) (zs : List MV) (S : So) : Prop := wp (f (gM (x :: xs) zs) S) Qm E
theorem knC (gM : List MV → List MV → List MV) (f : DF) (x : MV) (xs zs : List MV) (S : So) : KnC gM f x xs Qm E zs S = wp (f (gM (x :: xs) zs) S) Qm E := irf rfl
def KnB (gM : List MV → List MV → List MV) (f : DF) (ks : List ME) (r : En) (x : MV) (Qm : MV → So → Prop) (E : PySem.Str → MV → So → Prop) (xs : List MV) (S : So) : Prop := wp (mArgs ks r S) (KnC gM f x xs Qm E) E
theorem knB (gM : List MV → List MV → List MV) (f : DF) (ks : List ME) (r : En) (x : MV) (xs : List MV) (S : So) : KnB gM f ks r x Qm E xs S = wp (mArgs ks r S) (KnC gM f x xs Qm E) E := irf rfl
def KnA (c m : PySem.Str) (gM : List MV → List MV → List MV) (f : DF) (ms ks : List ME) (r : En) (Qm : MV → So → Prop) (E : PySem.Str → MV → So → Prop) (x : MV) (S : So) : Prop := (isCls c x S && !(fldNames x S).contains m) = true ∧ wp (mArgs ms r S) (KnB gM f ks r x Qm E) E
theorem knA (c m : PySem.Str) (gM : List MV → List MV → List MV) (f : DF) (ms ks : List ME) (r : En) (x : MV) (S : So) : KnA c m gM f ms ks r Qm E x S = ((isCls c x S && !(fldNames x S).contains m) = true ∧ wp (mArgs ms r S) (KnB gM f ks r x Qm E) E) := irf rfl
theorem w_methK (c m : PySem.Str) (gM : List MV → List MV → List MV) (f : DF) (mo : ME) (ms ks : List ME) (r : En) (S : So) : wp (mMethK c m gM f mo ms ks r S) Qm E = wp (mo r S) (KnA c m gM f ms ks r Qm E) E := wp_mMethK c m gM f mo ms ks r S
def Kq (Qm : MV → So → Prop) (b : Bool) (S : So) : Prop := Qm (.bl b) S
theorem kq (b : Bool) (S : So) : Kq Qm b S = Qm (.bl b) S := irf rfl
theorem w_eqC (g : GE) (x y : MV) (S : So) : wp (eqC g x y S) Qm E = wp (g x y S) (Kq Qm) E := wp_eqC g x y S
theorem w_neC (g : GE) (x y : MV) (S : So) : wp (neC g x y S) Qm E = wp (g x y S) (Knn Qm) E := wp_neC g x y S
def Kcp (Ql : List MV → So → Prop) (xs : List MV) (S : So) : Prop := xs.length ≤ SZ ∧ Ql xs S
theorem kcp (xs : List MV) (S : So) : Kcp Ql xs S = (xs.length ≤ SZ ∧ Ql xs S) := irf rfl
theorem w_capI (i : MI) (r : En) (S : So) : wp (capI i r S) Ql E = wp (i r S) (Kcp Ql) E := wp_capI i r S
def Klc (vs : List Nat) (g : MG) (t : MT) (m : ME) (r : En) (Qm : MV → So → Prop) (E : PySem.Str → MV → So → Prop) (xs : List MV) (S : So) : Prop := wp (lcL vs g t m xs r S) (Kl Qm) E
theorem klc (vs : List Nat) (g : MG) (t : MT) (m : ME) (r : En) (xs : List MV) (S : So) : Klc vs g t m r Qm E xs S = wp (lcL vs g t m xs r S) (Kl Qm) E := irf rfl
theorem w_lc (i : MI) (vs : List Nat) (g : MG) (t : MT) (m : ME) (r : En) (S : So) : wp (mLc i vs g t m r S) Qm E = wp (i r S) (Klc vs g t m r Qm E) E := wp_mLc i vs g t m r S
def Ksq (Ql : List MV → So → Prop) (x : MV) (S : So) : Prop := ∃ xs, pureSeq x = some xs ∧ Ql xs S
theorem ksq_l (xs : List MV) (S : So) : Ksq Ql (.lst xs) S = Ql xs S := propext ⟨fun ⟨_, e, h⟩ => by cases e; exact h, fun h => ⟨xs, rfl, h⟩⟩
theorem ksq_t (xs : List MV) (S : So) : Ksq Ql (.tup xs) S = Ql xs S := propext ⟨fun ⟨_, e, h⟩ => by cases e; exact h, fun h => ⟨xs, rfl, h⟩⟩
theorem ksq_s (xs : List MV) (S : So) : Ksq Ql (.scr xs) S = Ql xs S := propext ⟨fun ⟨_, e, h⟩ => by cases e; exact h, fun h => ⟨xs, rfl, h⟩⟩
theorem w_seq (m : ME) (r : En) (S : So) : wp (iSeq m r S) Ql E = wp (m r S) (Ksq Ql) E := wp_iSeq m r S
def Krg (Ql : List MV → So → Prop) (x : MV) (S : So) : Prop := ∃ j, x = .int j ∧ (-B62 ≤ j ∧ j < B62) ∧ Ql (rngM 0 j.toNat) S
theorem krg (j : Int) (S : So) : Krg Ql (.int j) S = ((-B62 ≤ j ∧ j < B62) ∧ Ql (rngM 0 j.toNat) S) := propext ⟨fun ⟨_, e, h⟩ => by cases e; exact h, fun h => ⟨j, rfl, h⟩⟩
theorem w_rng (m : ME) (r : En) (S : So) : wp (iRng m r S) Ql E = wp (m r S) (Krg Ql) E := wp_iRng m r S
def Kst (Ql : List MV → So → Prop) (x : MV) (S : So) : Prop := ∃ z, x = .str z ∧ Ql (signsM z) S
theorem kst (z : PySem.Str) (S : So) : Kst Ql (.str z) S = Ql (signsM z) S := propext ⟨fun ⟨_, e, h⟩ => by cases e; exact h, fun h => ⟨z, rfl, h⟩⟩
theorem w_str (m : ME) (r : En) (S : So) : wp (iStrM m r S) Ql E = wp (m r S) (Kst Ql) E := wp_iStr m r S
def KjB (x : MV) (Qm : MV → So → Prop) (E : PySem.Str → MV → So → Prop) (y : MV) (S : So) : Prop := wp (gJoin x y S) Qm E
theorem kjB (x y : MV) (S : So) : KjB x Qm E y S = wp (gJoin x y S) Qm E := irf rfl
def KjA (e : ME) (r : En) (Qm : MV → So → Prop) (E : PySem.Str → MV → So → Prop) (x : MV) (S : So) : Prop := isStr x = true ∧ wp (e r S) (KjB x Qm E) E
theorem kjA (e : ME) (r : En) (z : PySem.Str) (S : So) : KjA e r Qm E (.str z) S = wp (e r S) (KjB (.str z) Qm E) E := propext ⟨fun h => h.2, fun h => ⟨rfl, h⟩⟩
theorem w_join (o e : ME) (r : En) (S : So) : wp (mJoin o e r S) Qm E = wp (o r S) (KjA e r Qm E) E := wp_mJoin o e r S
def KsC (x : MV) (l : Option Int) (Qm : MV → So → Prop) (E : PySem.Str → MV → So → Prop) (h : Option Int) (S : So) : Prop := wp (slM x l h S) Qm E
theorem ksC (x : MV) (l h : Option Int) (S : So) : KsC x l Qm E h S = wp (slM x l h S) Qm E := irf rfl
def KsB (hi : MP) (r : En) (x : MV) (Qm : MV → So → Prop) (E : PySem.Str → MV → So → Prop) (l : Option Int) (S : So) : Prop := wp (hi r S) (KsC x l Qm E) E
theorem ksB (hi : MP) (r : En) (x : MV) (l : Option Int) (S : So) : KsB hi r x Qm E l S = wp (hi r S) (KsC x l Qm E) E := irf rfl
def KsA (lo hi : MP) (r : En) (Qm : MV → So → Prop) (E : PySem.Str → MV → So → Prop) (x : MV) (S : So) : Prop := wp (lo r S) (KsB hi r x Qm E) E
theorem ksA (lo hi : MP) (r : En) (x : MV) (S : So) : KsA lo hi r Qm E x S = wp (lo r S) (KsB hi r x Qm E) E := irf rfl
theorem w_sl (a : ME) (lo hi : MP) (r : En) (S : So) : wp (mSl a lo hi r S) Qm E = wp (a r S) (KsA lo hi r Qm E) E := wp_mSl a lo hi r S
def Kso (Qo : Option Int → So → Prop) (x : MV) (S : So) : Prop := ∃ i, x = .int i ∧ Qo (some i) S
theorem kso (i : Int) (S : So) : Kso Qo (.int i) S = Qo (some i) S := propext ⟨fun ⟨_, e, h⟩ => by cases e; exact h, fun h => ⟨i, rfl, h⟩⟩
theorem w_some (m : ME) (r : En) (S : So) : wp (oSome m r S) Qo E = wp (m r S) (Kso Qo) E := wp_oSome m r S
def KhC (f' : Int → Int → Bool) (j : Int) (Qm : MV → So → Prop) (z : MV) (S : So) : Prop := ∃ k, z = .int k ∧ Qm (.bl (f' j k)) S
theorem khC (f' : Int → Int → Bool) (j k : Int) (S : So) : KhC f' j Qm (.int k) S = Qm (.bl (f' j k)) S := propext ⟨fun ⟨_, e, h⟩ => by cases e; exact h, fun h => ⟨k, rfl, h⟩⟩
def KhD (f' : Int → Int → Bool) (c : ME) (r : En) (j : Int) (Qm : MV → So → Prop) (E : PySem.Str → MV → So → Prop) (b : Bool) (S : So) : Prop := if b = true then wp (c r S) (KhC f' j Qm) E else Qm (.bl false) S
theorem khD_t (f' : Int → Int → Bool) (c : ME) (r : En) (j : Int) (S : So) : KhD f' c r j Qm E true S = wp (c r S) (KhC f' j Qm) E := irf rfl
theorem khD_f (f' : Int → Int → Bool) (c : ME) (r : En) (j : Int) (S : So) : KhD f' c r j Qm E false S = Qm (.bl false) S := irf rfl
def KhB (f f' : Int → Int → Bool) (c : ME) (r : En) (x : MV) (Qm : MV → So → Prop) (E : PySem.Str → MV → So → Prop) (y : MV) (S : So) : Prop := ∃ i, x = .int i ∧ ∃ j, y = .int j ∧ KhD f' c r j Qm E (f i j) S
theorem khB (f f' : Int → Int → Bool) (c : ME) (r : En) (i j : Int) (S : So) : KhB f f' c r (.int i) Qm E (.int j) S = KhD f' c r j Qm E (f i j) S := propext ⟨fun ⟨_, e, _, e', h⟩ => by cases e; cases e'; exact h, fun h => ⟨i, rfl, j, rfl, h⟩⟩
def KhA (f f' : Int → Int → Bool) (b c : ME) (r : En) (Qm : MV → So → Prop) (E : PySem.Str → MV → So → Prop) (x : MV) (S : So) : Prop := wp (b r S) (KhB f f' c r x Qm E) E
theorem khA (f f' : Int → Int → Bool) (b c : ME) (r : En) (x : MV) (S : So) : KhA f f' b c r Qm E x S = wp (b r S) (KhB f f' c r x Qm E) E := irf rfl
theorem w_ch (f f' : Int → Int → Bool) (a b c : ME) (r : En) (S : So) : wp (mCh f f' a b c r S) Qm E = wp (a r S) (KhA f f' b c r Qm E) E := wp_mCh f f' a b c r S
def Kx (r : En) (D : SE) (c : PySem.Str) (x : MV) (S : So) : Prop := D.ex c x r S
theorem kx (r : En) (c : PySem.Str) (x : MV) (S : So) : Kx r D c x S = D.ex c x r S := irf rfl
def Kk (l : List MS) (D : SE) (r : En) (S : So) : Prop := ws (sBlk l r S) D
theorem kk (l : List MS) (r : En) (S : So) : Kk l D r S = ws (sBlk l r S) D := irf rfl
abbrev Dk (l : List MS) (D : SE) : SE := ⟨Kk l D, D.rt, D.bk, D.ct, D.ex⟩
theorem s_cons (a : MS) (l : List MS) (r : En) (S : So) : ws (sBlk (a :: l) r S) D = ws (a r S) (Dk l D) := ws_cons a l r S
def Ke (r : En) (D : SE) (_ : MV) (S : So) : Prop := D.nx r S
theorem ke (r : En) (x : MV) (S : So) : Ke r D x S = D.nx r S := irf rfl
theorem s_exp (m : ME) (r : En) (S : So) : ws (sExp m r S) D = wp (m r S) (Ke r D) (Kx r D) := ws_exp m r S
theorem s_ret (m : ME) (r : En) (S : So) : ws (sRet m r S) D = wp (m r S) D.rt (Kx r D) := ws_sRet m r S
def Ki (a b : MS) (r : En) (D : SE) (c : Bool) (S : So) : Prop := if c = true then ws (a r S) D else ws (b r S) D
theorem ki_t (a b : MS) (r : En) (S : So) : Ki a b r D true S = ws (a r S) D := irf rfl
theorem ki_f (a b : MS) (r : En) (S : So) : Ki a b r D false S = ws (b r S) D := irf rfl
theorem s_if (t : MT) (a b : MS) (r : En) (S : So) : ws (sIf t a b r S) D = wp (t r S) (Ki a b r D) (Kx r D) := ws_sIf t a b r S
def Ks (i : Nat) (r : En) (D : SE) (x : MV) (S : So) : Prop := D.nx (r.set i (some x)) S
theorem ks (i : Nat) (r : En) (x : MV) (S : So) : Ks i r D x S = D.nx (r.set i (some x)) S := irf rfl
theorem s_set (i : Nat) (m : ME) (r : En) (S : So) : ws (sAsg (gN i) m r S) D = wp (m r S) (Ks i r D) (Kx r D) := ws_sAsg i m r S
def KpB (i j : Nat) (r : En) (D : SE) (x y : MV) (S : So) : Prop := D.nx ((r.set i (some x)).set j (some y)) S
theorem kpB (i j : Nat) (r : En) (x y : MV) (S : So) : KpB i j r D x y S = D.nx ((r.set i (some x)).set j (some y)) S := irf rfl
def KpA (i j : Nat) (b : ME) (r : En) (D : SE) (x : MV) (S : So) : Prop := wp (b r S) (KpB i j r D x) (Kx r D)
theorem kpA (i j : Nat) (b : ME) (r : En) (x : MV) (S : So) : KpA i j b r D x S = wp (b r S) (KpB i j r D x) (Kx r D) := irf rfl
theorem s_par (i j : Nat) (a b : ME) (r : En) (S : So) : ws (sPar i j a b r S) D = wp (a r S) (KpA i j b r D) (Kx r D) := ws_sPar i j a b r S
def Kfo (g : MG) (b : MS) (r : En) (D : SE) (xs : List MV) (S : So) : Prop := ws (forL g b xs r S) D
theorem kfo (g : MG) (b : MS) (r : En) (xs : List MV) (S : So) : Kfo g b r D xs S = ws (forL g b xs r S) D := irf rfl
theorem s_for (i : MI) (g : MG) (b : MS) (r : En) (S : So) : ws (sFor i g b r S) D = wp (i r S) (Kfo g b r D) (Kx r D) := ws_sFor i g b r S
def Kr (c : PySem.Str) (r : En) (D : SE) (x : MV) (S : So) : Prop := D.ex c x r S
theorem kr (c : PySem.Str) (r : En) (x : MV) (S : So) : Kr c r D x S = D.ex c x r S := irf rfl
theorem s_raise (c : PySem.Str) (m : ME) (r : En) (S : So) : ws (sRaise c m r S) D = wp (m r S) (Kr c r D) (Kx r D) := ws_sRaise c m r S
theorem s_try (ca : PySem.Str → Option Bool) (b : MS) (i j : Nat) (xs : List XI) (r : En) (S : So) : ws (sTry ca b i j xs r S) D = ws (b r S) ⟨D.nx, D.rt, D.bk, D.ct, tryE ca i j xs D⟩ := ws_sTry ca b i j xs r S
def Kat (gs : List MG) (r : En) (D : SE) (x : MV) (S : So) : Prop := ∃ xs, x = .tup xs ∧ ∃ r1, gTs gs xs r = some r1 ∧ D.nx r1 S
theorem kat (gs : List MG) (r : En) (xs : List MV) (S : So) : Kat gs r D (.tup xs) S = ∃ r1, gTs gs xs r = some r1 ∧ D.nx r1 S := propext ⟨fun ⟨_, e, h⟩ => by cases e; exact h, fun h => ⟨xs, rfl, h⟩⟩
theorem s_asgT (gs : List MG) (m : ME) (r : En) (S : So) : ws (sAsg (gT gs) m r S) D = wp (m r S) (Kat gs r D) (Kx r D) := ws_sAsgT gs m r S
def KaL (gs : List MG) (r : En) (D : SE) (x : MV) (S : So) : Prop := ∃ xs, x = .lst xs ∧ ∃ r1, gTs gs xs r = some r1 ∧ D.nx r1 S
theorem kaL (gs : List MG) (r : En) (xs : List MV) (S : So) : KaL gs r D (.lst xs) S = ∃ r1, gTs gs xs r = some r1 ∧ D.nx r1 S := propext ⟨fun ⟨_, e, h⟩ => by cases e; exact h, fun h => ⟨xs, rfl, h⟩⟩
theorem s_asgL (gs : List MG) (m : ME) (r : En) (S : So) : ws (sAsg (gL gs) m r S) D = wp (m r S) (KaL gs r D) (Kx r D) := by
  unfold sAsg; rw [ws_to]
  congr 1; funext x S
  unfold gGo gL KaL
  cases x <;> simp [ws_bad]
  cases gTs gs _ r <;> simp [ws_bad, ws_nxt]
theorem dE_rt (S : So) (x : MV) (S' : So) : (dE S Qm E).rt x S' = (S'.length = S.length ∧ Qm x S') := irf rfl
theorem dE_nx (S : So) (r : En) (S' : So) : (dE S Qm E).nx r S' = (S'.length = S.length ∧ Qm .non S') := irf rfl
theorem dE_ex (S : So) (c : PySem.Str) (x : MV) (r : En) (S' : So) : (dE S Qm E).ex c x r S' = (S'.length = S.length ∧ E c x S') := irf rfl
end
end Mi
namespace Mi
open PySem PySem.Spec PyProof.Rows L2
theorem map_toNat_inj : ∀ l m : List Char, l.map Char.toNat = m.map Char.toNat → l = m
  | [], [], _ => rfl
  | [], _ :: _, h => by cases h
  | _ :: _, [], h => by cases h
  | x :: l, y :: m, h => by
    rw [List.map_cons, List.map_cons] at h
    obtain ⟨h1, h2⟩ := List.cons.inj h
    rw [Char.ext (UInt32.toNat_inj.mp h1), map_toNat_inj l m h2]
theorem ofS (a b : String) : (PySem.Str.ofString a = PySem.Str.ofString b) = (a = b) := by
  refine propext ⟨fun h => ?_, fun h => by rw [h]⟩
  rw [PySem.Str.ofString_eq_toList, PySem.Str.ofString_eq_toList] at h
  injection h with h
  have h2 : a.toList.map Char.toNat = b.toList.map Char.toNat := by simpa using h
  have h3 : a.toList = b.toList := map_toNat_inj _ _ h2
  exact String.toList_inj.mp h3
theorem beq_ofS (a b : String) : (PySem.Str.ofString a == PySem.Str.ofString b) = (a == b) := by
  rw [Bool.eq_iff_iff]
  simp [ofS]
theorem eq_dec (x a : PySem.Str) : (a == x) = decide (x = a) := by
  by_cases h : x = a
  · subst h; simp
  · have h' : ¬ a = x := fun e => h e.symm
    simp [h, h']
theorem in_one (x a : PySem.Str) (S : So) : gInSeq false (.str x) (.tup [.str a]) S = .ok (.bl (decide (x = a))) S := by
  show Mi.R.ok (MV.bl (inV (V.str x) [V.str a])) S = _
  unfold inV
  simp only [List.any_cons, List.any_nil, Bool.or_false, eqV, eq_dec]
theorem in_two (x a b : PySem.Str) (S : So) : gInSeq false (.str x) (.tup [.str a, .str b]) S = .ok (.bl (decide (x = a) || decide (x = b))) S := by
  show Mi.R.ok (MV.bl (inV (V.str x) [V.str a, V.str b])) S = _
  unfold inV
  simp only [List.any_cons, List.any_nil, Bool.or_false, eqV, eq_dec]
theorem in_twoI (x a b : Int) (S : So) : gInSeq false (.int x) (.tup [.int a, .int b]) S = .ok (.bl (decide (x = a) || decide (x = b))) S := by
  show Mi.R.ok (MV.bl (inV (V.int x) [V.int a, V.int b])) S = _
  unfold inV
  have e : ∀ a : Int, (a == x) = decide (x = a) := fun a => by
    by_cases h : x = a
    · subst h; simp
    · have h' : ¬ a = x := fun e => h e.symm
      simp [h, h']
  simp only [List.any_cons, List.any_nil, Bool.or_false, eqV, e]
end Mi
namespace Mi
theorem pm01 (x y : MV) : gPm [0, 1] [x] [y] = [x, y] := irf rfl
end Mi
namespace Mi
open PySem PySem.Spec PyProof.Rows L2
section
variable {Ql : List MV → So → Prop} {E : PySem.Str → MV → So → Prop}
def Kl1 (vs : List Nat) (i : Nat) (m : ME) (xs : List MV) (r : En) (Ql : List MV → So → Prop) (E : PySem.Str → MV → So → Prop) (y : MV) (S : So) : Prop := wp (lcL vs (gN i) tYesM m xs r S) (Kc y Ql) E
theorem kl1 (vs : List Nat) (i : Nat) (m : ME) (xs : List MV) (r : En) (y : MV) (S : So) : Kl1 vs i m xs r Ql E y S = wp (lcL vs (gN i) tYesM m xs r S) (Kc y Ql) E := irf rfl
theorem w_lc1 (vs : List Nat) (i : Nat) (m : ME) (x : MV) (xs : List MV) (r : En) (S : So) : wp (lcL vs (gN i) tYesM m (x :: xs) r S) Ql E = wp (m ((wipeM r vs).set i (some x)) S) (Kl1 vs i m xs r Ql E) noE := wp_lc1 vs i m x xs r S
theorem w_lc0 (vs : List Nat) (g : MG) (t : MT) (m : ME) (r : En) (S : So) : wp (lcL vs g t m [] r S) Ql E = Ql [] S := irf rfl
theorem wipe1 (r : En) (v : Nat) : wipeM r [v] = r.set v none := irf rfl
end
end Mi
namespace Mi
open PySem PySem.Spec PyProof.Rows L2
theorem wp_cat {Qm : MV → So → Prop} {E : PySem.Str → MV → So → Prop} (xs ys : List MV) (S : So) : wp (gCat (.lst xs) (.lst ys) S) Qm E = (xs.length + ys.length ≤ SZ ∧ Qm (.lst (xs ++ ys)) S) := by
  show wp (if xs.length + ys.length ≤ SZ then .ok (.lst (xs ++ ys)) S else .bad) Qm E = _
  rw [wp_ite, wp_ok, wp_bad, iteF]
theorem le_SZ (n : Nat) (h : n ≤ 100 := by decide) : n ≤ SZ := Nat.le_trans h (Nat.le_of_ble_eq_true rfl)
end Mi

set_option maxHeartbeats 4000000
namespace Q2
open PySem PySem.Spec PyProof.Rows L2 Mi
abbrev top (i : Nat) : Stmt := PySem.Challenge.pw_anyworker_k02_names_of_cells.main.body.getD i (.Pass ⟨0, 0, 0, 0⟩)
abbrev s_Value___eq__ : Stmt := inCls (top 13) 1
abbrev N_Value___eq__ : List PySem.Str := ["self", "other"]
abbrev df_Value___eq__ : Df := ⟨mAt "Value" "__eq__", "__eq__", "Value.__eq__", defArgs s_Value___eq__, defBody s_Value___eq__, defScope s_Value___eq__⟩
theorem sc_Value___eq__ : FnScope N_Value___eq__ ["self", "other"] (defScope s_Value___eq__) := ⟨rfl, rfl, rfl, by decide +kernel, rfl, by decide +kernel, by decide +kernel⟩
def f_Value___eq__ : DF := runDef 2 (sBlk [(sRet (mAnd (mIsi (tbOf [(.own "Value", true)]) (mName 1)) (mAnd (mBin gEqS (mFld "Value" "sign" (mName 0)) (mFld "Value" "sign" (mName 1))) (mBin gEqD (mFld "Value" "parts" (mName 0)) (mFld "Value" "parts" (mName 1))))))])
abbrev s_Step___eq__ : Stmt := inCls (top 21) 1
abbrev N_Step___eq__ : List PySem.Str := ["self", "other"]
abbrev df_Step___eq__ : Df := ⟨mAt "Step" "__eq__", "__eq__", "Step.__eq__", defArgs s_Step___eq__, defBody s_Step___eq__, defScope s_Step___eq__⟩
theorem sc_Step___eq__ : FnScope N_Step___eq__ ["self", "other"] (defScope s_Step___eq__) := ⟨rfl, rfl, rfl, by decide +kernel, rfl, by decide +kernel, by decide +kernel⟩
def f_Step___eq__ : DF := runDef 2 (sBlk [(sRet (mAnd (mIsi (tbOf [(.own "Step", true)]) (mName 1)) (mAnd (mBin gEqS (mFld "Step" "sign" (mName 0)) (mFld "Step" "sign" (mName 1))) (mBin (eqC (eqTup (eqOr eqFlat (eqI (objEq "Value" f_Value___eq__ ["Value"]))))) (mFld "Step" "parts" (mName 0)) (mFld "Step" "parts" (mName 1))))))])
abbrev s_Value_names : Stmt := inCls (top 13) 17
abbrev N_Value_names : List PySem.Str := ["self"]
abbrev df_Value_names : Df := ⟨pgAt "Value" "names", "names", "Value.names", defArgs s_Value_names, defBody s_Value_names, defScope s_Value_names⟩
theorem sc_Value_names : FnScope N_Value_names ["self"] (defScope s_Value_names) := ⟨rfl, rfl, rfl, by decide +kernel, rfl, by decide +kernel, by decide +kernel⟩
def f_Value_names : DF := runDef 1 (sBlk [(sRet (mBlt gList [(mFld "Value" "_names" (mName 0))]))])
abbrev s_Step_names : Stmt := inCls (top 21) 2
abbrev N_Step_names : List PySem.Str := ["self"]
abbrev df_Step_names : Df := ⟨pgAt "Step" "names", "names", "Step.names", defArgs s_Step_names, defBody s_Step_names, defScope s_Step_names⟩
theorem sc_Step_names : FnScope N_Step_names ["self"] (defScope s_Step_names) := ⟨rfl, rfl, rfl, by decide +kernel, rfl, by decide +kernel, by decide +kernel⟩
def f_Step_names : DF := runDef 1 (sBlk [(sRet (mBlt gList [(mFld "Step" "_names" (mName 0))]))])
abbrev s_Value___init__ : Stmt := inCls (top 13) 0
abbrev N_Value___init__ : List PySem.Str := ["self", "sign", "parts", "names"]
abbrev df_Value___init__ : Df := ⟨mAt "Value" "__init__", "__init__", "Value.__init__", defArgs s_Value___init__, defBody s_Value___init__, defScope s_Value___init__⟩
theorem sc_Value___init__ : FnScope N_Value___init__ ["self", "sign", "parts", "names"] (defScope s_Value___init__) := ⟨rfl, rfl, rfl, by decide +kernel, rfl, by decide +kernel, by decide +kernel⟩
def f_Value___init__ : DF := runDef 4 (sBlk [(sFldM "Value" "sign" (mName 0) (mName 1)),
      (sFldM "Value" "parts" (mName 0) (mName 2)),
      (sFldM "Value" "_names" (mName 0) (mName 3))])
abbrev s_WorkError___init__ : Stmt := inCls (top 2) 0
abbrev df_WorkError___init__ : Df := ⟨mAt "WorkError" "__init__", "__init__", "WorkError.__init__", defArgs s_WorkError___init__, defBody s_WorkError___init__, defScope s_WorkError___init__⟩
theorem sc_WorkError___init__ : FnScope ["self", "value"] ["self", "value"] (defScope s_WorkError___init__) := ⟨rfl, rfl, rfl, by decide +kernel, rfl, by decide +kernel, by decide +kernel⟩

abbrev s_check_name : Stmt := top 9
abbrev N_check_name : List PySem.Str := ["name", "sign"]
abbrev df_check_name : Df := ⟨gAt "check_name", "check_name", "check_name", defArgs s_check_name, defBody s_check_name, defScope s_check_name⟩
theorem sc_check_name : FnScope N_check_name ["name"] (defScope s_check_name) := ⟨rfl, rfl, rfl, by decide +kernel, rfl, by decide +kernel, by decide +kernel⟩
def f_check_name : DF := runDef 2 (sBlk [(sIf (tOr' (tNot' (tVal (mCh (fun i j => decide (i ≤ j)) (fun i j => decide (i ≤ j)) (mC (.int 1)) (mBlt gLen [(mName 0)]) (mC (.int 8))))) (tNot' (tVal (mBlt gAll [(mLc (capI (iStrM (mName 0))) (([("sign", 1)] : List (PySem.Str × Nat)).map (·.2)) (gN 1) tYesM (mBin gInSign (mName 1) (mC (.str "abcdefghijklmnopqrstuvwxyz"))))])))) (sBlk [(sRaise "InvalidName" (mName 0))]) (sBlk []))])
abbrev s_cell : Stmt := top 11
abbrev N_cell : List PySem.Str := ["name"]
abbrev df_cell : Df := ⟨gAt "cell", "cell", "cell", defArgs s_cell, defBody s_cell, defScope s_cell⟩
theorem sc_cell : FnScope N_cell ["name"] (defScope s_cell) := ⟨rfl, rfl, rfl, by decide +kernel, rfl, by decide +kernel, by decide +kernel⟩
def f_cell : DF := runDef 1 (sBlk [(sExp (mCall f_check_name [] [(mName 0)])),
      (sRet (mFrz (mTrim (mMake "Value" f_Value___init__ [] [(mC (.str "cell")), (mTup [(mName 0)]), (mTup [(mName 0)])]))))])
abbrev s_number : Stmt := top 12
abbrev N_number : List PySem.Str := ["n"]
abbrev df_number : Df := ⟨gAt "number", "number", "number", defArgs s_number, defBody s_number, defScope s_number⟩
theorem sc_number : FnScope N_number ["n"] (defScope s_number) := ⟨rfl, rfl, rfl, by decide +kernel, rfl, by decide +kernel, by decide +kernel⟩
def f_number : DF := runDef 1 (sBlk [(sRet (mFrz (mTrim (mMake "Value" f_Value___init__ [] [(mC (.str "number")), (mTup [(mName 0)]), (mTup [])]))))])
abbrev s_Step___init__ : Stmt := inCls (top 21) 0
abbrev N_Step___init__ : List PySem.Str := ["self", "sign", "parts", "names"]
abbrev df_Step___init__ : Df := ⟨mAt "Step" "__init__", "__init__", "Step.__init__", defArgs s_Step___init__, defBody s_Step___init__, defScope s_Step___init__⟩
theorem sc_Step___init__ : FnScope N_Step___init__ ["self", "sign", "parts", "names"] (defScope s_Step___init__) := ⟨rfl, rfl, rfl, by decide +kernel, rfl, by decide +kernel, by decide +kernel⟩
def f_Step___init__ : DF := runDef 4 (sBlk [(sFldM "Step" "sign" (mName 0) (mName 1)),
      (sFldM "Step" "parts" (mName 0) (mName 2)),
      (sFldM "Step" "_names" (mName 0) (mName 3))])
abbrev s__as_value : Stmt := top 16
abbrev N__as_value : List PySem.Str := ["given"]
abbrev df__as_value : Df := ⟨gAt "_as_value", "_as_value", "_as_value", defArgs s__as_value, defBody s__as_value, defScope s__as_value⟩
theorem sc__as_value : FnScope N__as_value ["given"] (defScope s__as_value) := ⟨rfl, rfl, rfl, by decide +kernel, rfl, by decide +kernel, by decide +kernel⟩
def f__as_value : DF := runDef 1 (sBlk [(sRet (mIf (tVal (mIsi (tbOf [(.own "Value", true), (.int, false)]) (mName 0))) (mName 0) (mCall f_number [] [(mName 0)])))])
abbrev s_names_in : Stmt := top 17
abbrev N_names_in : List PySem.Str := ["things", "thing", "name"]
abbrev df_names_in : Df := ⟨gAt "names_in", "names_in", "names_in", defArgs s_names_in, defBody s_names_in, defScope s_names_in⟩
theorem sc_names_in : FnScope N_names_in ["things"] (defScope s_names_in) := ⟨rfl, rfl, rfl, by decide +kernel, rfl, by decide +kernel, by decide +kernel⟩
def f_names_in : DF := runDef 3 (sBlk [(sRet (mBlt gTuple [(mSortSet (iSeq (mName 0)) (([("thing", 1), ("name", 2)] : List (PySem.Str × Nat)).map (·.2)) (gN 1) (iSeq (mProp "Value" f_Value_names (mName 1))) [2] (gN 2) (mName 2))]))])
abbrev s_put : Stmt := top 22
abbrev N_put : List PySem.Str := ["name", "value", "target", "told"]
abbrev df_put : Df := ⟨gAt "put", "put", "put", defArgs s_put, defBody s_put, defScope s_put⟩
theorem sc_put : FnScope N_put ["name", "value"] (defScope s_put) := ⟨rfl, rfl, rfl, by decide +kernel, rfl, by decide +kernel, by decide +kernel⟩
def f_put : DF := runDef 4 (sBlk [(sPar 2 3 (mCall f_cell [] [(mName 0)]) (mCall f__as_value [] [(mName 1)])),
      (sRet (mFrz (mTrim (mMake "Step" f_Step___init__ [] [(mC (.str "put")), (mTup [(mName 0), (mName 3)]), (mCall f_names_in [] [(mLst [(mName 2), (mName 3)])])]))))])
abbrev s__law_caught : Stmt := top 27
abbrev N__law_caught : List PySem.Str := ["text", "way", "caught", "made", "e"]
abbrev df__law_caught : Df := ⟨gAt "_law_caught", "_law_caught", "_law_caught", defArgs s__law_caught, defBody s__law_caught, defScope s__law_caught⟩
theorem sc__law_caught : FnScope N__law_caught ["text", "way"] (defScope s__law_caught) := ⟨rfl, rfl, rfl, by decide +kernel, rfl, by decide +kernel, by decide +kernel⟩
def f__law_caught : DF := runDef 5 (sBlk [(sAsg (gT [(gN 2), (gN 3)]) (mTup [(mC .non), (mC .non)])),
      (sTry (caOf [("InvalidDivisor", true), ("InvalidName", true), ("UnknownName", true)]) (sBlk [(sIf (tVal (mBin gEqS (mName 1) (mC (.int 0)))) (sBlk [(sAsg (gN 3) (mCall f_cell [] [(mName 0)]))]) (sBlk [(sIf (tVal (mBin gEqS (mName 1) (mC (.int 1)))) (sBlk [(sAsg (gN 3) (mCallK (gPm [0]) f_cell [] [(mName 0)]))]) (sBlk [(sIf (tVal (mBin gEqS (mName 1) (mC (.int 2)))) (sBlk [(sAsg (gN 3) (mCall f_put [] [(mName 0), (mC (.int 5))]))]) (sBlk [(sAsg (gN 3) (mCallK (gPm [1, 0]) f_put [] [(mCall f_number [] [(mC (.int 0))]), (mName 0)]))]))]))]))]) 4 2 [(.isi (caOf [("InvalidDivisor", false), ("InvalidName", true), ("UnknownName", false)])), .val]),
      (sRet (mIf (tVal (mBin gIsN (mName 3) (mC .non))) (mName 2) (mAlt (mProp "Step" f_Step_names (mName 3)) (mProp "Value" f_Value_names (mName 3)))))])
abbrev s__law_take : Stmt := top 25
abbrev N__law_take : List PySem.Str := ["well", "many", "taken", "mixed"]
abbrev df__law_take : Df := ⟨gAt "_law_take", "_law_take", "_law_take", defArgs s__law_take, defBody s__law_take, defScope s__law_take⟩
theorem sc__law_take : FnScope N__law_take ["well", "many"] (defScope s__law_take) := ⟨rfl, rfl, rfl, by decide +kernel, rfl, by decide +kernel, by decide +kernel⟩
def f__law_take : DF := runDef 4 (sBlk [(sIf (tVal (mBin oGtI (mBin ixM (mName 0) (mC (.int 0))) (mC (.int 0)))) (sBlk [(sAsg (gN 2) (mBin oModI (mBlt gInt [(mBin ixM (mName 0) (mC (.int 0)))]) (mName 1))),
      (sIxM (mName 0) (mC (.int 0)) (mBin oDivI (mBin ixM (mName 0) (mC (.int 0))) (mName 1))),
      (sRet (mName 2))]) (sBlk [])),
      (sIxM (mName 0) (mC (.int 2)) (mBin oAddI (mBin ixM (mName 0) (mC (.int 2))) (mC (.int 1)))),
      (sAsg (gN 3) (mBin oAddI (mBin oPowI (mBin oAddI (mBin ixM (mName 0) (mC (.int 1))) (mBin oMulI (mC (.int 6700417)) (mBin ixM (mName 0) (mC (.int 2))))) (mC (.int 3))) (mBin oMulI (mC (.int 97)) (mBin ixM (mName 0) (mC (.int 2)))))),
      (sAsg (gN 3) (mBin oAddI (mBin oModI (mBlt gInt [(mName 3)]) (mC (.int 2305843009213693951))) (mBin oMulI (mC (.int 2971215073)) (mBin ixM (mName 0) (mC (.int 2)))))),
      (sAsg (gN 3) (mBin oModI (mBlt gInt [(mBin oPowI (mName 3) (mC (.int 3)))]) (mC (.int 618970019642690137449562111)))),
      (sRet (mBin oModI (mBlt gInt [(mBin oDivI (mName 3) (mC (.int 131072)))]) (mName 1)))])
abbrev s__law_cells : Stmt := top 26
abbrev N__law_cells : List PySem.Str := ["well", "many", "letters", "way", "at", "words", "base", "spot", "pace", "k", "turn"]
abbrev df__law_cells : Df := ⟨gAt "_law_cells", "_law_cells", "_law_cells", defArgs s__law_cells, defBody s__law_cells, defScope s__law_cells⟩
theorem sc__law_cells : FnScope N__law_cells ["well", "many"] (defScope s__law_cells) := ⟨rfl, rfl, rfl, by decide +kernel, rfl, by decide +kernel, by decide +kernel⟩
def f__law_cells : DF := runDef 11 (sBlk [(sAsg (gT [(gN 2), (gN 3), (gN 4)]) (mTup [(mC (.str "abcdefghijklmnopqrstuvwxyz")), (mCall f__law_take [] [(mName 0), (mC (.int 4))]), (mCall f__law_take [] [(mName 0), (mC (.int 26))])])),
      (sIf (tVal (mBin gEqS (mName 3) (mC (.int 0)))) (sBlk [(sRet (mLc (capI (iRng (mName 1))) (([("k", 9)] : List (PySem.Str × Nat)).map (·.2)) (gN 9) tYesM (mBin gRepS (mBin ixM (mName 2) (mName 4)) (mBin oAddI (mName 9) (mC (.int 1))))))]) (sBlk [])),
      (sIf (tVal (mBin gEqS (mName 3) (mC (.int 1)))) (sBlk [(sAsg (gN 5) (mLst [(mC (.str "put")), (mC (.str "when")), (mC (.str "answer")), (mC (.str "else")), (mC (.str "own")), (mC (.str "common")), (mC (.str "kind")), (mC (.str "mod")), (mC (.str "argument")), (mC (.str "passed")), (mC (.str "names")), (mC (.str "held"))])),
      (sRet (mLc (capI (iRng (mName 1))) (([("k", 9)] : List (PySem.Str × Nat)).map (·.2)) (gN 9) tYesM (mBin ixM (mName 5) (mBin oModI (mBlt gInt [(mBin oAddI (mName 4) (mName 9))]) (mC (.int 12))))))]) (sBlk [])),
      (sAsg (gN 6) (mJoin (mC (.str "")) (mLc (capI (iRng (mBin oAddI (mC (.int 1)) (mCall f__law_take [] [(mName 0), (mC (.int 8))])))) (([("turn", 10)] : List (PySem.Str × Nat)).map (·.2)) (gN 10) tYesM (mBin ixM (mName 2) (mCall f__law_take [] [(mName 0), (mC (.int 26))]))))),
      (sAsg (gT [(gN 7), (gN 8)]) (mTup [(mCall f__law_take [] [(mName 0), (mBlt gLen [(mName 6)])]), (mBin ixM (mLst [(mC (.int 1)), (mC (.int 3)), (mC (.int 5)), (mC (.int 7)), (mC (.int 11))]) (mCall f__law_take [] [(mName 0), (mC (.int 5))]))])),
      (sRet (mLc (capI (iRng (mName 1))) (([("k", 9)] : List (PySem.Str × Nat)).map (·.2)) (gN 9) tYesM (mBin gAddS (mBin gAddS (mSl (mName 6) oNone (oSome (mName 7))) (mBin ixM (mName 2) (mBin oModI (mBlt gInt [(mBin oAddI (mName 4) (mBin oMulI (mName 8) (mName 9)))]) (mC (.int 26))))) (mSl (mName 6) (oSome (mBin oAddI (mName 7) (mC (.int 1)))) oNone))))])
abbrev s__law_text : Stmt := top 28
abbrev N__law_text : List PySem.Str := ["well", "signs", "text", "odd", "place", "turn"]
abbrev df__law_text : Df := ⟨gAt "_law_text", "_law_text", "_law_text", defArgs s__law_text, defBody s__law_text, defScope s__law_text⟩
theorem sc__law_text : FnScope N__law_text ["well"] (defScope s__law_text) := ⟨rfl, rfl, rfl, by decide +kernel, rfl, by decide +kernel, by decide +kernel⟩
def f__law_text : DF := runDef 6 (sBlk [(sAsg (gN 1) (mC (.str "abcdefghijklmnopqrstuvwxyz"))),
      (sAsg (gN 2) (mJoin (mC (.str "")) (mLc (capI (iRng (mCall f__law_take [] [(mName 0), (mBin ixM (mLst [(mC (.int 10)), (mC (.int 13))]) (mCall f__law_take [] [(mName 0), (mC (.int 2))]))]))) (([("turn", 5)] : List (PySem.Str × Nat)).map (·.2)) (gN 5) tYesM (mBin ixM (mName 1) (mCall f__law_take [] [(mName 0), (mC (.int 26))]))))),
      (sIf (tVal (mBin gEqS (mCall f__law_take [] [(mName 0), (mC (.int 2))]) (mC (.int 0)))) (sBlk [(sRet (mName 2))]) (sBlk [])),
      (sAsg (gN 3) (mBin ixM (mC (.str "`{AZ09_ ~!@-.:?")) (mCall f__law_take [] [(mName 0), (mC (.int 15))]))),
      (sAsg (gN 4) (mCall f__law_take [] [(mName 0), (mBin oAddI (mBlt gLen [(mName 2)]) (mC (.int 1)))])),
      (sRet (mBin gAddS (mBin gAddS (mSl (mName 2) oNone (oSome (mName 4))) (mName 3)) (mSl (mName 2) (oSome (mBin oAddI (mName 4) (mCall f__law_take [] [(mName 0), (mC (.int 2))]))) oNone)))])
abbrev s__law_fits : Stmt := top 29
abbrev N__law_fits : List PySem.Str := ["well", "turn", "text", "good", "want", "row", "one", "two", "told", "alike", "way", "sign"]
abbrev df__law_fits : Df := ⟨gAt "_law_fits", "_law_fits", "_law_fits", defArgs s__law_fits, defBody s__law_fits, defScope s__law_fits⟩
theorem sc__law_fits : FnScope N__law_fits ["well"] (defScope s__law_fits) := ⟨rfl, rfl, rfl, by decide +kernel, rfl, by decide +kernel, by decide +kernel⟩
def f__law_fits : DF := runDef 12 (sBlk [(sFor (iRng (mC (.int 4))) (gN 1) (sBlk [(sAsg (gN 2) (mCall f__law_text [] [(mName 0)])),
      (sAsg (gN 3) (mAnd (mCh (fun i j => decide (i ≤ j)) (fun i j => decide (i ≤ j)) (mC (.int 1)) (mBlt gLen [(mName 2)]) (mC (.int 8))) (mBin gEqD (mLc (capI (iStrM (mName 2))) (([("sign", 11)] : List (PySem.Str × Nat)).map (·.2)) (gN 11) (tOr' (tVal (mBin (gStrC ltT) (mName 11) (mC (.str "a")))) (tVal (mBin (gStrC fun i j => ltT j i) (mName 11) (mC (.str "z"))))) (mName 11)) (mLst [])))),
      (sAsg (gN 4) (mIf (tVal (mName 3)) (mLst [(mName 2)]) (mLst [(mC (.bl true)), (mName 2)]))),
      (sIf (tVal (mBin gNeD (mLc (capI (iRng (mC (.int 4)))) (([("way", 10)] : List (PySem.Str × Nat)).map (·.2)) (gN 10) (tVal (mBin gNeS (mBlt gRepr [(mCall f__law_caught [] [(mName 2), (mName 10)])]) (mBlt gRepr [(mName 4)]))) (mName 10)) (mLst []))) (sBlk [(sRet (mC (.bl false)))]) (sBlk []))])),
      (sAsg (gN 5) (mCall f__law_cells [] [(mName 0), (mC (.int 5))])),
      (sPar 6 7 (mBin ixM (mName 5) (mCall f__law_take [] [(mName 0), (mC (.int 5))])) (mBin ixM (mName 5) (mCall f__law_take [] [(mName 0), (mC (.int 5))]))),
      (sAsg (gN 8) (mLst [(mBin (eqC (objEq "Value" f_Value___eq__ ["Value"])) (mCall f_cell [] [(mName 6)]) (mCall f_cell [] [(mName 7)])), (mBin (neC (objEq "Value" f_Value___eq__ ["Value"])) (mCall f_cell [] [(mName 6)]) (mCall f_cell [] [(mName 7)])), (mBin (eqC (objEq "Step" f_Step___eq__ ["Step"])) (mCall f_put [] [(mName 6), (mC (.int 3))]) (mCall f_put [] [(mName 7), (mC (.int 3))])), (mBin (neC (objEq "Step" f_Step___eq__ ["Step"])) (mCall f_put [] [(mName 6), (mC (.int 3))]) (mCall f_put [] [(mName 7), (mC (.int 3))]))])),
      (sAsg (gN 9) (mBin gEqS (mName 6) (mName 7))),
      (sRet (mBin gEqS (mBlt gRepr [(mBin gCat (mName 8) (mLst [(mProp "Value" f_Value_names (mCall f_cell [] [(mName 6)]))]))]) (mBlt gRepr [(mLst [(mName 9), (mNot (mName 9)), (mName 9), (mNot (mName 9)), (mLst [(mName 6)])])])))])
abbrev s__law_well : Stmt := top 24
abbrev N__law_well : List PySem.Str := ["script", "place", "figure", "seed"]
abbrev df__law_well : Df := ⟨gAt "_law_well", "_law_well", "_law_well", defArgs s__law_well, defBody s__law_well, defScope s__law_well⟩
theorem sc__law_well : FnScope N__law_well ["script", "place"] (defScope s__law_well) := ⟨rfl, rfl, rfl, by decide +kernel, rfl, by decide +kernel, by decide +kernel⟩
def f__law_well : DF := runDef 4 (sBlk [(sAsg (gN 2) (mC (.int 0))),
      (sIf (tVal (mBin oLtI (mName 1) (mBlt gLen [(mName 0)]))) (sBlk [(sAsg (gN 2) (mBin ixM (mName 0) (mName 1)))]) (sBlk [])),
      (sAsg (gN 3) (mBin oModI (mBlt gInt [(mBin oAddI (mBin oMulI (mBlt gAbs [(mName 2)]) (mC (.int 2))) (mBlt gInt [(mBin oLtI (mName 2) (mC (.int 0)))]))]) (mC (.int 2305843009213693951)))),
      (sRet (mLstM [(mBin oMulI (mName 2) (mBlt gInt [(mBin oGeI (mName 2) (mBin oPowI (mC (.int 10)) (mC (.int 18))))])), (mBin oAddI (mName 3) (mBin oMulI (mC (.int 1000003)) (mName 1))), (mC (.int 0))]))])
abbrev s_law : Stmt := top 30
abbrev N_law : List PySem.Str := ["script", "place", "well", "turn"]
abbrev df_law : Df := ⟨gAt "law", "law", "law", defArgs s_law, defBody s_law, defScope s_law⟩
theorem sc_law : FnScope N_law ["script"] (defScope s_law) := ⟨rfl, rfl, rfl, by decide +kernel, rfl, by decide +kernel, by decide +kernel⟩
def f_law : DF := runDef 4 (sBlk [(sFor (iRng (mBlt gMax [(mC (.int 1)), (mBlt gMin [(mC (.int 24)), (mBlt gLen [(mName 0)])])])) (gN 1) (sBlk [(sAsg (gN 2) (mCall f__law_well [] [(mName 0), (mName 1)])),
      (sFor (iRng (mC (.int 2))) (gN 3) (sBlk [(sIf (tNot' (tVal (mCall f__law_fits [] [(mName 2)]))) (sBlk [(sRet (mC (.bl false)))]) (sBlk []))]))])),
      (sRet (mC (.bl true)))])
abbrev fn : List Df := [df_Value___eq__, df_Step___eq__, df_Value_names, df_Step_names, df_Value___init__, df_WorkError___init__, df_check_name, df_cell, df_number, df_Step___init__, df__as_value, df_names_in, df_put, df__law_caught, df__law_take, df__law_cells, df__law_text, df__law_fits, df__law_well, df_law]
abbrev fb : List Ft := [tFa (.free "len"),
  tFa (.free "min"),
  tFa (.free "max"),
  tFa (.free "range"),
  tFa (.glo "_law_well"),
  tFa (.glo "_law_fits"),
  tFa (.glo "_law_text"),
  tFa (.glo "_law_caught"),
  tFa (.free "repr"),
  tFa (.glo "_law_cells"),
  tFa (.glo "_law_take"),
  tFa (.glo "cell"),
  tEq "Value" ["Value"],
  tFa (.glo "put"),
  tEq "Step" ["Step"],
  tFa (.cls "Value"),
  tProp "Value" "names",
  tIs (fun K => .ref (gAt "Step" K)) [(.own "Step", true)],
  tFa (.free "isinstance"),
  tFa (.glo "Step"),
  tFa (.cls "Step"),
  tFa (.noat "Step" "sign"),
  tFa (.noat "Step" "parts"),
  tIs (fun K => .ref (gAt "Value" K)) [(.own "Value", true)],
  tFa (.glo "Value"),
  tFa (.noat "Value" "sign"),
  tFa (.noat "Value" "parts"),
  tFa (.noat "Value" "_names"),
  tFa (.free "list"),
  tFa (.glo "InvalidName"),
  tCx "WorkError" ([("InvalidDivisor", true), ("InvalidName", true), ("UnknownName", true)]),
  tKi "InvalidName" [("InvalidDivisor", false), ("InvalidName", true), ("UnknownName", false)],
  tCx "WorkError" [("InvalidDivisor", true), ("InvalidName", true), ("UnknownName", true)],
  tFa (.glo "number"),
  tFa (.glo "WorkError"),
  tCa "WorkError" [("InvalidDivisor", true), ("InvalidName", true), ("UnknownName", true)],
  tProp "Step" "names",
  tFa (.noat "Step" "_names"),
  tFa (.glo "check_name"),
  tFa (.mkr "Value"),
  tFa (.int "LONGEST" 8),
  tFa (.str "LETTERS" "abcdefghijklmnopqrstuvwxyz"),
  tFa (.free "all"),
  tErr "InvalidName" "WorkError",
  tFa (.glo "_as_value"),
  tFa (.glo "names_in"),
  tFa (.mkr "Step"),
  tIs (fun K => .ref (gAt "Value" K)) [(.own "Value", true), (.int, false)],
  tFa (.free "sorted"),
  tFa (.free "tuple"),
  tFa (.free "int"),
  tFa (.free "abs"),
  tFa (.glo "law")]
section
variable {P : Program} {w : World} {K : Fg} {mg : PySem.Str → Option Value} {h : Heap} (cS : SaysB fb fn K) (XK : K.In h) (GN : h.Ns mainGlobals mg)
include cS XK GN
theorem x_free_len : mg "len" = none := ft_free XK GN (cS.fact (i := 0) (t := tFa (.free "len")) rfl)
theorem x_free_min : mg "min" = none := ft_free XK GN (cS.fact (i := 1) (t := tFa (.free "min")) rfl)
theorem x_free_max : mg "max" = none := ft_free XK GN (cS.fact (i := 2) (t := tFa (.free "max")) rfl)
theorem x_free_range : mg "range" = none := ft_free XK GN (cS.fact (i := 3) (t := tFa (.free "range")) rfl)
theorem x_glo__law_well : mg "_law_well" = some (.ref (gAt "_law_well" K)) := ft_glo XK GN (cS.fact (i := 4) (t := tFa (.glo "_law_well")) rfl)
theorem x_glo__law_fits : mg "_law_fits" = some (.ref (gAt "_law_fits" K)) := ft_glo XK GN (cS.fact (i := 5) (t := tFa (.glo "_law_fits")) rfl)
theorem x_glo__law_text : mg "_law_text" = some (.ref (gAt "_law_text" K)) := ft_glo XK GN (cS.fact (i := 6) (t := tFa (.glo "_law_text")) rfl)
theorem x_glo__law_caught : mg "_law_caught" = some (.ref (gAt "_law_caught" K)) := ft_glo XK GN (cS.fact (i := 7) (t := tFa (.glo "_law_caught")) rfl)
theorem x_free_repr : mg "repr" = none := ft_free XK GN (cS.fact (i := 8) (t := tFa (.free "repr")) rfl)
theorem x_glo__law_cells : mg "_law_cells" = some (.ref (gAt "_law_cells" K)) := ft_glo XK GN (cS.fact (i := 9) (t := tFa (.glo "_law_cells")) rfl)
theorem x_glo__law_take : mg "_law_take" = some (.ref (gAt "_law_take" K)) := ft_glo XK GN (cS.fact (i := 10) (t := tFa (.glo "_law_take")) rfl)
theorem x_glo_cell : mg "cell" = some (.ref (gAt "cell" K)) := ft_glo XK GN (cS.fact (i := 11) (t := tFa (.glo "cell")) rfl)
theorem x_eq_Value_Value : OwnE K (He.ga K "Value") (mAt "Value" "__eq__" K) ["Value"] := ft_eq (cS.fact (i := 12) (t := tEq "Value" ["Value"]) rfl)
theorem x_glo_put : mg "put" = some (.ref (gAt "put" K)) := ft_glo XK GN (cS.fact (i := 13) (t := tFa (.glo "put")) rfl)
theorem x_eq_Step_Step : OwnE K (He.ga K "Step") (mAt "Step" "__eq__" K) ["Step"] := ft_eq (cS.fact (i := 14) (t := tEq "Step" ["Step"]) rfl)
theorem x_cls_Value : Cls K (He.ga K "Value") := ft_cls (cS.fact (i := 15) (t := tFa (.cls "Value")) rfl)
theorem x_prop_Value_names : PropOf K (He.ga K "Value") "names" (pAt "Value" "names" K) (pgAt "Value" "names" K) := ft_prop (cS.fact (i := 16) (t := tProp "Value" "names") rfl)
theorem x_is_Step_17 : IsF K (.ref (gAt "Step" K)) (tbOf [(.own "Step", true)]) := ft_is (u := fun K => .ref (gAt "Step" K)) (cS.fact (i := 17) (t := tIs (fun K => .ref (gAt "Step" K)) [(.own "Step", true)]) rfl)
theorem x_free_isinstance : mg "isinstance" = none := ft_free XK GN (cS.fact (i := 18) (t := tFa (.free "isinstance")) rfl)
theorem x_glo_Step : mg "Step" = some (.ref (gAt "Step" K)) := ft_glo XK GN (cS.fact (i := 19) (t := tFa (.glo "Step")) rfl)
theorem x_cls_Step : Cls K (He.ga K "Step") := ft_cls (cS.fact (i := 20) (t := tFa (.cls "Step")) rfl)
theorem x_no_Step_sign : NoAttr K (He.ga K "Step") "sign" := ft_no (cS.fact (i := 21) (t := tFa (.noat "Step" "sign")) rfl)
theorem x_no_Step_parts : NoAttr K (He.ga K "Step") "parts" := ft_no (cS.fact (i := 22) (t := tFa (.noat "Step" "parts")) rfl)
theorem x_is_Value_23 : IsF K (.ref (gAt "Value" K)) (tbOf [(.own "Value", true)]) := ft_is (u := fun K => .ref (gAt "Value" K)) (cS.fact (i := 23) (t := tIs (fun K => .ref (gAt "Value" K)) [(.own "Value", true)]) rfl)
theorem x_glo_Value : mg "Value" = some (.ref (gAt "Value" K)) := ft_glo XK GN (cS.fact (i := 24) (t := tFa (.glo "Value")) rfl)
theorem x_no_Value_sign : NoAttr K (He.ga K "Value") "sign" := ft_no (cS.fact (i := 25) (t := tFa (.noat "Value" "sign")) rfl)
theorem x_no_Value_parts : NoAttr K (He.ga K "Value") "parts" := ft_no (cS.fact (i := 26) (t := tFa (.noat "Value" "parts")) rfl)
theorem x_no_Value__names : NoAttr K (He.ga K "Value") "_names" := ft_no (cS.fact (i := 27) (t := tFa (.noat "Value" "_names")) rfl)
theorem x_free_list : mg "list" = none := ft_free XK GN (cS.fact (i := 28) (t := tFa (.free "list")) rfl)
theorem x_glo_InvalidName : mg "InvalidName" = some (.ref (gAt "InvalidName" K)) := ft_glo XK GN (cS.fact (i := 29) (t := tFa (.glo "InvalidName")) rfl)
theorem x_cxi_WorkError : ∀ c, okOf [("InvalidDivisor", true), ("InvalidName", true), ("UnknownName", true)] c → XfC K (He.ga K c) ∧ ErrI K (He.ga K c) := ft_cx2 (cS.fact (i := 30) (t := tCx "WorkError" ([("InvalidDivisor", true), ("InvalidName", true), ("UnknownName", true)])) rfl)
theorem x_ki_InvalidName_WorkError : ∀ c b, okOf [("InvalidDivisor", true), ("InvalidName", true), ("UnknownName", true)] c → caOf [("InvalidDivisor", false), ("InvalidName", true), ("UnknownName", false)] c = some b → PySem.W.kitOne K (.ref (He.ga K c)) (.ref (He.ga K "InvalidName")) = some b := ft_ki (cS.fact (i := 31) (t := tKi "InvalidName" [("InvalidDivisor", false), ("InvalidName", true), ("UnknownName", false)]) rfl)
theorem x_cx_WorkError : ∀ c, okOf [("InvalidDivisor", true), ("InvalidName", true), ("UnknownName", true)] c → XfC K (He.ga K c) ∧ PySem.W.findIn K (.ref (He.ga K c)) "value" = some none := ft_cx1 (cS.fact (i := 32) (t := tCx "WorkError" [("InvalidDivisor", true), ("InvalidName", true), ("UnknownName", true)]) rfl)
theorem x_glo_number : mg "number" = some (.ref (gAt "number" K)) := ft_glo XK GN (cS.fact (i := 33) (t := tFa (.glo "number")) rfl)
theorem x_glo_WorkError : mg "WorkError" = some (.ref (gAt "WorkError" K)) := ft_glo XK GN (cS.fact (i := 34) (t := tFa (.glo "WorkError")) rfl)
theorem x_ca_WorkError : CaF K "WorkError" (caOf [("InvalidDivisor", true), ("InvalidName", true), ("UnknownName", true)]) (okOf [("InvalidDivisor", true), ("InvalidName", true), ("UnknownName", true)]) := ft_ca (cS.fact (i := 35) (t := tCa "WorkError" [("InvalidDivisor", true), ("InvalidName", true), ("UnknownName", true)]) rfl)
theorem x_prop_Step_names : PropOf K (He.ga K "Step") "names" (pAt "Step" "names" K) (pgAt "Step" "names" K) := ft_prop (cS.fact (i := 36) (t := tProp "Step" "names") rfl)
theorem x_no_Step__names : NoAttr K (He.ga K "Step") "_names" := ft_no (cS.fact (i := 37) (t := tFa (.noat "Step" "_names")) rfl)
theorem x_glo_check_name : mg "check_name" = some (.ref (gAt "check_name" K)) := ft_glo XK GN (cS.fact (i := 38) (t := tFa (.glo "check_name")) rfl)
theorem x_mkr_Value : Mk K (He.ga K "Value") (mAt "Value" "__init__" K) := ft_mkr (cS.fact (i := 39) (t := tFa (.mkr "Value")) rfl)
theorem x_int_LONGEST : ∃ t, mg "LONGEST" = some (.int 8 t) := ft_int XK GN (cS.fact (i := 40) (t := tFa (.int "LONGEST" 8)) rfl)
theorem x_str_LETTERS : ∃ t, mg "LETTERS" = some (.str "abcdefghijklmnopqrstuvwxyz" t) := ft_str XK GN (cS.fact (i := 41) (t := tFa (.str "LETTERS" "abcdefghijklmnopqrstuvwxyz")) rfl)
theorem x_free_all : mg "all" = none := ft_free XK GN (cS.fact (i := 42) (t := tFa (.free "all")) rfl)
theorem x_err_InvalidName : ErrC K (He.ga K "InvalidName") (mAt "WorkError" "__init__" K) := ft_err (cS.fact (i := 43) (t := tErr "InvalidName" "WorkError") rfl)
theorem x_glo__as_value : mg "_as_value" = some (.ref (gAt "_as_value" K)) := ft_glo XK GN (cS.fact (i := 44) (t := tFa (.glo "_as_value")) rfl)
theorem x_glo_names_in : mg "names_in" = some (.ref (gAt "names_in" K)) := ft_glo XK GN (cS.fact (i := 45) (t := tFa (.glo "names_in")) rfl)
theorem x_mkr_Step : Mk K (He.ga K "Step") (mAt "Step" "__init__" K) := ft_mkr (cS.fact (i := 46) (t := tFa (.mkr "Step")) rfl)
theorem x_is_Value_47 : IsF K (.ref (gAt "Value" K)) (tbOf [(.own "Value", true), (.int, false)]) := ft_is (u := fun K => .ref (gAt "Value" K)) (cS.fact (i := 47) (t := tIs (fun K => .ref (gAt "Value" K)) [(.own "Value", true), (.int, false)]) rfl)
theorem x_free_sorted : mg "sorted" = none := ft_free XK GN (cS.fact (i := 48) (t := tFa (.free "sorted")) rfl)
theorem x_free_tuple : mg "tuple" = none := ft_free XK GN (cS.fact (i := 49) (t := tFa (.free "tuple")) rfl)
theorem x_free_int : mg "int" = none := ft_free XK GN (cS.fact (i := 50) (t := tFa (.free "int")) rfl)
theorem x_free_abs : mg "abs" = none := ft_free XK GN (cS.fact (i := 51) (t := tFa (.free "abs")) rfl)
theorem x_glo_law : mg "law" = some (.ref (gAt "law" K)) := ft_glo XK GN (cS.fact (i := 52) (t := tFa (.glo "law")) rfl)
theorem d_Value___eq__ : DOk P w K mg df_Value___eq__ ["self", "other"] 1 2 f_Value___eq__ := by
  obtain ⟨fd, F⟩ := cS.def_ (i := 0) (d := df_Value___eq__) rfl
  refine ⟨fd, F, F.bindsN fun _ _ _ _ _ _ us hl => match us, hl with | [_, _], _ => rfl, fun base => fn_def (N := N_Value___eq__) (k := 0) F sc_Value___eq__ fun cdv A outer s H E hgd hr => ?_⟩
  exact (ms_cons (ms_ret (mp_and (mp_isi (cv := .ref (gAt "Value" _)) (x_is_Value_23 cS XK GN) (.own _) rfl (x_free_isinstance cS XK GN) (mp_name 1) (pe_glob (v := .ref (gAt "Value" _)) rfl (x_glo_Value cS XK GN) rfl)) (mp_and (mp_cmp om_eqS (mp_fld (mp_name 0) (x_cls_Value cS XK GN) (x_no_Value_sign cS XK GN)) (mp_fld (mp_name 1) (x_cls_Value cS XK GN) (x_no_Value_sign cS XK GN)) rfl) (mp_one (mp_cmp (om_eqD (rm2 hr)) (mp_fld (mp_name 0) (x_cls_Value cS XK GN) (x_no_Value_parts cS XK GN)) (mp_fld (mp_name 1) (x_cls_Value cS XK GN) (x_no_Value_parts cS XK GN)) rfl)))))
      ms_nil)
theorem d_Step___eq__ : DOk P w K mg df_Step___eq__ ["self", "other"] 3 2 f_Step___eq__ := by
  obtain ⟨fd, F⟩ := cS.def_ (i := 1) (d := df_Step___eq__) rfl
  refine ⟨fd, F, F.bindsN fun _ _ _ _ _ _ us hl => match us, hl with | [_, _], _ => rfl, fun base => fn_def (N := N_Step___eq__) (k := 2) F sc_Step___eq__ fun cdv A outer s H E hgd hr => ?_⟩
  exact (ms_cons (ms_ret (mp_and (mp_isi (cv := .ref (gAt "Step" _)) (x_is_Step_17 cS XK GN) (.own _) rfl (x_free_isinstance cS XK GN) (mp_name 1) (pe_glob (v := .ref (gAt "Step" _)) rfl (x_glo_Step cS XK GN) rfl)) (mp_and (mp_cmp om_eqS (mp_fld (mp_name 0) (x_cls_Step cS XK GN) (x_no_Step_sign cS XK GN)) (mp_fld (mp_name 1) (x_cls_Step cS XK GN) (x_no_Step_sign cS XK GN)) rfl) (mp_one (mp_cmp (om_eqC (rcM_tupF (dEqO Xd.tk (d_Value___eq__ cS XK GN) (x_eq_Value_Value cS XK GN)) (Nat.le_refl _)) hgd (hr.mono (by decide))) (mp_fld (mp_name 0) (x_cls_Step cS XK GN) (x_no_Step_parts cS XK GN)) (mp_fld (mp_name 1) (x_cls_Step cS XK GN) (x_no_Step_parts cS XK GN)) rfl)))))
      ms_nil)
theorem d_Value_names : DOk P w K mg df_Value_names ["self"] 1 1 f_Value_names := by
  obtain ⟨fd, F⟩ := cS.def_ (i := 2) (d := df_Value_names) rfl
  refine ⟨fd, F, F.bindsN fun _ _ _ _ _ _ us hl => match us, hl with | [_], _ => rfl, fun base => fn_def (N := N_Value_names) (k := 0) F sc_Value_names fun cdv A outer s H E hgd hr => ?_⟩
  exact (ms_cons (ms_ret (mp_ty call_list_of ok_list rfl (x_free_list cS XK GN) (ma_cons (mp_fld (mp_name 0) (x_cls_Value cS XK GN) (x_no_Value__names cS XK GN)) ma_nil)))
      ms_nil)
theorem d_Step_names : DOk P w K mg df_Step_names ["self"] 1 1 f_Step_names := by
  obtain ⟨fd, F⟩ := cS.def_ (i := 3) (d := df_Step_names) rfl
  refine ⟨fd, F, F.bindsN fun _ _ _ _ _ _ us hl => match us, hl with | [_], _ => rfl, fun base => fn_def (N := N_Step_names) (k := 0) F sc_Step_names fun cdv A outer s H E hgd hr => ?_⟩
  exact (ms_cons (ms_ret (mp_ty call_list_of ok_list rfl (x_free_list cS XK GN) (ma_cons (mp_fld (mp_name 0) (x_cls_Step cS XK GN) (x_no_Step__names cS XK GN)) ma_nil)))
      ms_nil)
theorem d_Value___init__ : DOk P w K mg df_Value___init__ ["self", "sign", "parts", "names"] 1 4 f_Value___init__ := by
  obtain ⟨fd, F⟩ := cS.def_ (i := 4) (d := df_Value___init__) rfl
  refine ⟨fd, F, F.bindsN fun _ _ _ _ _ _ us hl => match us, hl with | [_, _, _, _], _ => rfl, fun base => fn_def (N := N_Value___init__) (k := 0) F sc_Value___init__ fun cdv A outer s H E hgd hr => ?_⟩
  exact (ms_cons (ms_fld (mp_name 0) (mp_name 1) (x_cls_Value cS XK GN) (x_no_Value_sign cS XK GN))
      (ms_cons (ms_fld (mp_name 0) (mp_name 2) (x_cls_Value cS XK GN) (x_no_Value_parts cS XK GN))
      (ms_cons (ms_fld (mp_name 0) (mp_name 3) (x_cls_Value cS XK GN) (x_no_Value__names cS XK GN))
      ms_nil)))
theorem ini_WorkError : IniOk P w K mg (mAt "WorkError" "__init__" K) := by
  obtain ⟨fd, F⟩ := cS.def_ (i := 5) (d := df_WorkError___init__) rfl
  exact init_ok F sc_WorkError___init__ (F.bindsN fun _ _ _ _ _ _ us hl => match us, hl with | [_, _], _ => rfl) fun base cdv A outer s H E => ps_ost (pv 0) (pv 1)
theorem d_check_name : DOk P w K mg df_check_name ["name"] 3 1 f_check_name := by
  obtain ⟨fd, F⟩ := cS.def_ (i := 6) (d := df_check_name) rfl
  refine ⟨fd, F, F.bindsN fun _ _ _ _ _ _ us hl => match us, hl with | [_], _ => rfl, fun base => fn_def (N := N_check_name) (k := 2) F sc_check_name fun cdv A outer s H E hgd hr => ?_⟩
  exact (ms_cons (ms_if (PW.pt (mw_or (mt_not (mt_chain (f := fun i j => decide (i ≤ j)) (f' := fun i j => decide (i ≤ j)) op_le op_le mp_int (mp_bi call_len ok_len rfl (x_free_len cS XK GN) (ma_cons (mp_name 0) ma_nil)) (mp_globI rfl (x_int_LONGEST cS XK GN)))) (mw_or1 (mt_not (mt_val (mp_bi (cr_all rfl) ok_all rfl (x_free_all cS XK GN) (ma_cons (mp_lc rfl sc_check_name.nd (mi_str (mp_name 0)) (blkOk_by (own := [("sign", 1)]) (N := N_check_name) (sc := (defScope s_check_name)) (by decide +kernel)) (by decide) (fun _ _ _ _ _ => (mg_name sc_check_name.nd rfl (.inl rfl))) (fun _ _ _ _ _ => mt_nil) (fun _ _ _ _ _ => (mp_cmp om_inSign (mp_name 1) (mp_globS rfl (x_str_LETTERS cS XK GN)) rfl))) ma_nil))))))) (ms_cons (ms_raise Xd.tk (x_err_InvalidName cS XK GN) (ini_WorkError cS XK GN) rfl (hr.mono (by decide)) rfl (x_glo_InvalidName cS XK GN) (mp_name 0))
      ms_nil) ms_nil)
      ms_nil)
theorem d_cell : DOk P w K mg df_cell ["name"] 4 1 f_cell := by
  obtain ⟨fd, F⟩ := cS.def_ (i := 7) (d := df_cell) rfl
  refine ⟨fd, F, F.bindsN fun _ _ _ _ _ _ us hl => match us, hl with | [_], _ => rfl, fun base => fn_def (N := N_cell) (k := 3) F sc_cell fun cdv A outer s H E hgd hr => ?_⟩
  exact (ms_cons (ms_exp (dCall Xd.tk (d_check_name cS XK GN) hgd (hr.mono (by decide)) rfl (x_glo_check_name cS XK GN) (ma_cons (mp_name 0) ma_nil)))
      (ms_cons (ms_ret (mp_frz (mp_trim (dMake Xd.tk (d_Value___init__ cS XK GN) (x_mkr_Value cS XK GN) hgd (hr.mono (by decide)) rfl (x_glo_Value cS XK GN) (ma_cons mp_str (ma_cons (mp_tup (ma_cons (mp_name 0) ma_nil)) (ma_cons (mp_tup (ma_cons (mp_name 0) ma_nil)) ma_nil)))))))
      ms_nil))
theorem d_number : DOk P w K mg df_number ["n"] 3 1 f_number := by
  obtain ⟨fd, F⟩ := cS.def_ (i := 8) (d := df_number) rfl
  refine ⟨fd, F, F.bindsN fun _ _ _ _ _ _ us hl => match us, hl with | [_], _ => rfl, fun base => fn_def (N := N_number) (k := 2) F sc_number fun cdv A outer s H E hgd hr => ?_⟩
  exact (ms_cons (ms_ret (mp_frz (mp_trim (dMake Xd.tk (d_Value___init__ cS XK GN) (x_mkr_Value cS XK GN) hgd (hr.mono (by decide)) rfl (x_glo_Value cS XK GN) (ma_cons mp_str (ma_cons (mp_tup (ma_cons (mp_name 0) ma_nil)) (ma_cons (mp_tup ma_nil) ma_nil)))))))
      ms_nil)
theorem d_Step___init__ : DOk P w K mg df_Step___init__ ["self", "sign", "parts", "names"] 1 4 f_Step___init__ := by
  obtain ⟨fd, F⟩ := cS.def_ (i := 9) (d := df_Step___init__) rfl
  refine ⟨fd, F, F.bindsN fun _ _ _ _ _ _ us hl => match us, hl with | [_, _, _, _], _ => rfl, fun base => fn_def (N := N_Step___init__) (k := 0) F sc_Step___init__ fun cdv A outer s H E hgd hr => ?_⟩
  exact (ms_cons (ms_fld (mp_name 0) (mp_name 1) (x_cls_Step cS XK GN) (x_no_Step_sign cS XK GN))
      (ms_cons (ms_fld (mp_name 0) (mp_name 2) (x_cls_Step cS XK GN) (x_no_Step_parts cS XK GN))
      (ms_cons (ms_fld (mp_name 0) (mp_name 3) (x_cls_Step cS XK GN) (x_no_Step__names cS XK GN))
      ms_nil)))
theorem d__as_value : DOk P w K mg df__as_value ["given"] 4 1 f__as_value := by
  obtain ⟨fd, F⟩ := cS.def_ (i := 10) (d := df__as_value) rfl
  refine ⟨fd, F, F.bindsN fun _ _ _ _ _ _ us hl => match us, hl with | [_], _ => rfl, fun base => fn_def (N := N__as_value) (k := 3) F sc__as_value fun cdv A outer s H E hgd hr => ?_⟩
  exact (ms_cons (ms_ret (mp_if (mt_val (mp_isi (cv := .ref (gAt "Value" _)) (x_is_Value_47 cS XK GN) (.own _) rfl (x_free_isinstance cS XK GN) (mp_name 0) (pe_glob (v := .ref (gAt "Value" _)) rfl (x_glo_Value cS XK GN) rfl))) (mp_name 0) (dCall Xd.tk (d_number cS XK GN) hgd (hr.mono (by decide)) rfl (x_glo_number cS XK GN) (ma_cons (mp_name 0) ma_nil))))
      ms_nil)
theorem d_names_in : DOk P w K mg df_names_in ["things"] 3 1 f_names_in := by
  obtain ⟨fd, F⟩ := cS.def_ (i := 11) (d := df_names_in) rfl
  refine ⟨fd, F, F.bindsN fun _ _ _ _ _ _ us hl => match us, hl with | [_], _ => rfl, fun base => fn_def (N := N_names_in) (k := 2) F sc_names_in fun cdv A outer s H E hgd hr => ?_⟩
  exact (ms_cons (ms_ret (mp_ty call_tuple_of ok_tuple rfl (x_free_tuple cS XK GN) (ma_cons (mp_sortSet (vs1 := [2]) rfl sc_names_in.nd rfl (x_free_sorted cS XK GN) (mi_seq (mp_name 0)) (blkOk_by (own := [("thing", 1), ("name", 2)]) (N := N_names_in) (sc := (defScope s_names_in)) (by decide +kernel)) (by decide) (by decide) (by decide) (fun _ _ _ _ _ => (mg_name sc_names_in.nd rfl (.inl rfl))) (fun _ _ _ _ _ => (mi_seq (dProp (d_Value_names cS XK GN) (mp_name 1) (x_cls_Value cS XK GN) (x_prop_Value_names cS XK GN) hgd (hr.mono (by decide))))) (fun _ _ _ _ _ => (mg_name sc_names_in.nd rfl (.inl rfl))) (fun _ _ _ _ _ => (mp_name 2))) ma_nil)))
      ms_nil)
theorem d_put : DOk P w K mg df_put ["name", "value"] 5 2 f_put := by
  obtain ⟨fd, F⟩ := cS.def_ (i := 12) (d := df_put) rfl
  refine ⟨fd, F, F.bindsN fun _ _ _ _ _ _ us hl => match us, hl with | [_, _], _ => rfl, fun base => fn_def (N := N_put) (k := 4) F sc_put fun cdv A outer s H E hgd hr => ?_⟩
  exact (ms_cons (ms_par rfl sc_put.nd rfl rfl (by decide) rfl rfl (dCall Xd.tk (d_cell cS XK GN) hgd (hr.mono (by decide)) rfl (x_glo_cell cS XK GN) (ma_cons (mp_name 0) ma_nil)) (dCall Xd.tk (d__as_value cS XK GN) hgd (hr.mono (by decide)) rfl (x_glo__as_value cS XK GN) (ma_cons (mp_name 1) ma_nil)) rfl)
      (ms_cons (ms_ret (mp_frz (mp_trim (dMake Xd.tk (d_Step___init__ cS XK GN) (x_mkr_Step cS XK GN) hgd (hr.mono (by decide)) rfl (x_glo_Step cS XK GN) (ma_cons mp_str (ma_cons (mp_tup (ma_cons (mp_name 0) (ma_cons (mp_name 3) ma_nil))) (ma_cons (dCall Xd.tk (d_names_in cS XK GN) hgd (hr.mono (by decide)) rfl (x_glo_names_in cS XK GN) (ma_cons (mp_lst (ma_cons (mp_name 2) (ma_cons (mp_name 3) ma_nil))) ma_nil)) ma_nil)))))))
      ms_nil))
theorem d__law_caught : DOk P w K mg df__law_caught ["text", "way"] 6 2 f__law_caught := by
  obtain ⟨fd, F⟩ := cS.def_ (i := 13) (d := df__law_caught) rfl
  refine ⟨fd, F, F.bindsN fun _ _ _ _ _ _ us hl => match us, hl with | [_, _], _ => rfl, fun base => fn_def (N := N__law_caught) (k := 5) F sc__law_caught fun cdv A outer s H E hgd hr => ?_⟩
  exact (ms_cons (ms_asg (mp_tup (ma_cons mp_non (ma_cons mp_non ma_nil))) (mg_tup rfl (mgs_cons (mg_name sc__law_caught.nd rfl (.inl rfl)) (mgs_cons (mg_name sc__law_caught.nd rfl (.inl rfl)) mgs_nil))))
      (ms_cons (ms_try rfl rfl sc__law_caught.nd rfl rfl ⟨rfl, by decide, .inl (x_glo_WorkError cS XK GN)⟩ Xd.tk (x_ca_WorkError cS XK GN) (fun _ _ _ t po => (ms_cons (ms_if (mt_cmp om_eqS (mp_name 1) mp_int rfl) (ms_cons (ms_set sc__law_caught.nd rfl (.inl rfl) (dCall t (d_cell cS XK GN) hgd (hr.mono (by decide)) rfl (x_glo_cell cS XK GN) (ma_cons (mp_name 0) ma_nil)))
      ms_nil) (ms_cons (ms_if (mt_cmp om_eqS (mp_name 1) mp_int rfl) (ms_cons (ms_set sc__law_caught.nd rfl (.inl rfl) (dCallK0 t (d_cell cS XK GN) hgd (hr.mono (by decide)) rfl (x_glo_cell cS XK GN) (fun fd F => kb_plain F 0 ["name"] [0] fun _ _ _ _ _ _ us ws h1 h2 => match us, ws, h1, h2 with | [], [_], _, _ => rfl) ⟨fun xs zs h1 h2 => perm_len (m := 1) (by decide) _ (by rw [List.length_append, h1, h2] <;> rfl), rfl⟩ (mk_cons (mp_name 0) mk_nil)))
      ms_nil) (ms_cons (ms_if (mt_cmp om_eqS (mp_name 1) mp_int rfl) (ms_cons (ms_set sc__law_caught.nd rfl (.inl rfl) (dCall t (d_put cS XK GN) hgd (hr.mono (by decide)) rfl (x_glo_put cS XK GN) (ma_cons (mp_name 0) (ma_cons mp_int ma_nil))))
      ms_nil) (ms_cons (ms_set sc__law_caught.nd rfl (.inl rfl) (dCallK0 t (d_put cS XK GN) hgd (hr.mono (by decide)) rfl (x_glo_put cS XK GN) (fun fd F => kb_plain F 0 ["value", "name"] [1, 0] fun _ _ _ _ _ _ us ws h1 h2 => match us, ws, h1, h2 with | [], [_, _], _, _ => rfl) ⟨fun xs zs h1 h2 => perm_len (m := 2) (by decide) _ (by rw [List.length_append, h1, h2] <;> rfl), rfl⟩ (mk_cons (dCall t (d_number cS XK GN) hgd (hr.mono (by decide)) rfl (x_glo_number cS XK GN) (ma_cons mp_int ma_nil)) (mk_cons (mp_name 0) mk_nil))))
      ms_nil))
      ms_nil))
      ms_nil))
      ms_nil)) (.cons (px_is (fun _ _ => pv 4) (fun _ _ => pe_glob (v := .ref (gAt "InvalidName" _)) rfl (x_glo_InvalidName cS XK GN) rfl) (x_cxi_WorkError cS XK GN) (x_ki_InvalidName_WorkError cS XK GN) rfl (x_free_isinstance cS XK GN)) (.cons (px_val (fun _ _ => pv 4) (x_cx_WorkError cS XK GN)) .nil)) (fun a pn te h => ps_set sc__law_caught.nd rfl (Or.inl rfl) h))
      (ms_cons (ms_ret (mp_if (mt_cmp om_isN (mp_name 3) mp_non rfl) (mp_name 2) (mp_alt (dProp (d_Step_names cS XK GN) (mp_name 3) (x_cls_Step cS XK GN) (x_prop_Step_names cS XK GN) hgd (hr.mono (by decide))) (dProp (d_Value_names cS XK GN) (mp_name 3) (x_cls_Value cS XK GN) (x_prop_Value_names cS XK GN) hgd (hr.mono (by decide))))))
      ms_nil)))
theorem d__law_take : DOk P w K mg df__law_take ["well", "many"] 1 2 f__law_take := by
  obtain ⟨fd, F⟩ := cS.def_ (i := 14) (d := df__law_take) rfl
  refine ⟨fd, F, F.bindsN fun _ _ _ _ _ _ us hl => match us, hl with | [_, _], _ => rfl, fun base => fn_def (N := N__law_take) (k := 0) F sc__law_take fun cdv A outer s H E hgd hr => ?_⟩
  exact (ms_cons (ms_if (mt_cmp om_gtI (mp_ix (mp_name 0) mp_int) mp_int rfl) (ms_cons (ms_set sc__law_take.nd rfl (.inl rfl) (mp_op om_modI (mp_ty call_int1 ok_int rfl (x_free_int cS XK GN) (ma_cons (mp_ix (mp_name 0) mp_int) ma_nil)) (mp_name 1)))
      (ms_cons (ms_ix (mp_name 0) mp_int (mp_op om_divI (mp_ix (mp_name 0) mp_int) (mp_name 1)))
      (ms_cons (ms_ret (mp_name 2))
      ms_nil))) ms_nil)
      (ms_cons (ms_ix (mp_name 0) mp_int (mp_op om_addI (mp_ix (mp_name 0) mp_int) mp_int))
      (ms_cons (ms_set sc__law_take.nd rfl (.inl rfl) (mp_op om_addI (mp_op om_powI (mp_op om_addI (mp_ix (mp_name 0) mp_int) (mp_op om_mulI mp_int (mp_ix (mp_name 0) mp_int))) mp_int) (mp_op om_mulI mp_int (mp_ix (mp_name 0) mp_int))))
      (ms_cons (ms_set sc__law_take.nd rfl (.inl rfl) (mp_op om_addI (mp_op om_modI (mp_ty call_int1 ok_int rfl (x_free_int cS XK GN) (ma_cons (mp_name 3) ma_nil)) mp_int) (mp_op om_mulI mp_int (mp_ix (mp_name 0) mp_int))))
      (ms_cons (ms_set sc__law_take.nd rfl (.inl rfl) (mp_op om_modI (mp_ty call_int1 ok_int rfl (x_free_int cS XK GN) (ma_cons (mp_op om_powI (mp_name 3) mp_int) ma_nil)) mp_int))
      (ms_cons (ms_ret (mp_op om_modI (mp_ty call_int1 ok_int rfl (x_free_int cS XK GN) (ma_cons (mp_op om_divI (mp_name 3) mp_int) ma_nil)) (mp_name 1)))
      ms_nil))))))
theorem d__law_cells : DOk P w K mg df__law_cells ["well", "many"] 2 2 f__law_cells := by
  obtain ⟨fd, F⟩ := cS.def_ (i := 15) (d := df__law_cells) rfl
  refine ⟨fd, F, F.bindsN fun _ _ _ _ _ _ us hl => match us, hl with | [_, _], _ => rfl, fun base => fn_def (N := N__law_cells) (k := 1) F sc__law_cells fun cdv A outer s H E hgd hr => ?_⟩
  exact (ms_cons (ms_asg (mp_tup (ma_cons mp_str (ma_cons (dCall Xd.tk (d__law_take cS XK GN) hgd (hr.mono (by decide)) rfl (x_glo__law_take cS XK GN) (ma_cons (mp_name 0) (ma_cons mp_int ma_nil))) (ma_cons (dCall Xd.tk (d__law_take cS XK GN) hgd (hr.mono (by decide)) rfl (x_glo__law_take cS XK GN) (ma_cons (mp_name 0) (ma_cons mp_int ma_nil))) ma_nil)))) (mg_tup rfl (mgs_cons (mg_name sc__law_cells.nd rfl (.inr rfl)) (mgs_cons (mg_name sc__law_cells.nd rfl (.inl rfl)) (mgs_cons (mg_name sc__law_cells.nd rfl (.inr rfl)) mgs_nil)))))
      (ms_cons (ms_if (mt_cmp om_eqS (mp_name 3) mp_int rfl) (ms_cons (ms_ret (mp_lc rfl sc__law_cells.nd (mi_rng rfl (x_free_range cS XK GN) (mp_name 1)) (blkOk_by (own := [("k", 9)]) (N := N__law_cells) (sc := (defScope s__law_cells)) (by decide +kernel)) (by decide) (fun _ _ _ _ _ => (mg_name sc__law_cells.nd rfl (.inl rfl))) (fun _ _ _ _ _ => mt_nil) (fun _ _ _ _ _ => (mp_op om_repS (mp_ix (mp_name 2) (mp_name 4)) (mp_op om_addI (mp_name 9) mp_int)))))
      ms_nil) ms_nil)
      (ms_cons (ms_if (mt_cmp om_eqS (mp_name 3) mp_int rfl) (ms_cons (ms_set sc__law_cells.nd rfl (.inr rfl) (mp_lst (ma_cons mp_str (ma_cons mp_str (ma_cons mp_str (ma_cons mp_str (ma_cons mp_str (ma_cons mp_str (ma_cons mp_str (ma_cons mp_str (ma_cons mp_str (ma_cons mp_str (ma_cons mp_str (ma_cons mp_str ma_nil))))))))))))))
      (ms_cons (ms_ret (mp_lc rfl sc__law_cells.nd (mi_rng rfl (x_free_range cS XK GN) (mp_name 1)) (blkOk_by (own := [("k", 9)]) (N := N__law_cells) (sc := (defScope s__law_cells)) (by decide +kernel)) (by decide) (fun _ _ _ _ _ => (mg_name sc__law_cells.nd rfl (.inl rfl))) (fun _ _ _ _ _ => mt_nil) (fun _ _ _ _ _ => (mp_ix (mp_name 5) (mp_op om_modI (mp_ty call_int1 ok_int rfl (x_free_int cS XK GN) (ma_cons (mp_op om_addI (mp_name 4) (mp_name 9)) ma_nil)) mp_int)))))
      ms_nil)) ms_nil)
      (ms_cons (ms_set sc__law_cells.nd rfl (.inr rfl) (mp_join mp_str (mp_lc rfl sc__law_cells.nd (mi_rng rfl (x_free_range cS XK GN) (mp_op om_addI mp_int (dCall Xd.tk (d__law_take cS XK GN) hgd (hr.mono (by decide)) rfl (x_glo__law_take cS XK GN) (ma_cons (mp_name 0) (ma_cons mp_int ma_nil))))) (blkOk_by (own := [("turn", 10)]) (N := N__law_cells) (sc := (defScope s__law_cells)) (by decide +kernel)) (by decide) (fun _ _ _ _ _ => (mg_name sc__law_cells.nd rfl (.inl rfl))) (fun _ _ _ _ _ => mt_nil) (fun _ _ _ _ _ => (mp_ix (mp_name 2) (dCall takes0 (d__law_take cS XK GN) hgd (hr.mono (by decide)) rfl (x_glo__law_take cS XK GN) (ma_cons (mp_name 0) (ma_cons mp_int ma_nil))))))))
      (ms_cons (ms_asg (mp_tup (ma_cons (dCall Xd.tk (d__law_take cS XK GN) hgd (hr.mono (by decide)) rfl (x_glo__law_take cS XK GN) (ma_cons (mp_name 0) (ma_cons (mp_bi call_len ok_len rfl (x_free_len cS XK GN) (ma_cons (mp_name 6) ma_nil)) ma_nil))) (ma_cons (mp_ix (mp_lst (ma_cons mp_int (ma_cons mp_int (ma_cons mp_int (ma_cons mp_int (ma_cons mp_int ma_nil)))))) (dCall Xd.tk (d__law_take cS XK GN) hgd (hr.mono (by decide)) rfl (x_glo__law_take cS XK GN) (ma_cons (mp_name 0) (ma_cons mp_int ma_nil)))) ma_nil))) (mg_tup rfl (mgs_cons (mg_name sc__law_cells.nd rfl (.inr rfl)) (mgs_cons (mg_name sc__law_cells.nd rfl (.inr rfl)) mgs_nil))))
      (ms_cons (ms_ret (mp_lc rfl sc__law_cells.nd (mi_rng rfl (x_free_range cS XK GN) (mp_name 1)) (blkOk_by (own := [("k", 9)]) (N := N__law_cells) (sc := (defScope s__law_cells)) (by decide +kernel)) (by decide) (fun _ _ _ _ _ => (mg_name sc__law_cells.nd rfl (.inl rfl))) (fun _ _ _ _ _ => mt_nil) (fun _ _ _ _ _ => (mp_op om_addS (mp_op om_addS (mp_sl (mp_name 6) mo_none (mo_some (mp_name 7))) (mp_ix (mp_name 2) (mp_op om_modI (mp_ty call_int1 ok_int rfl (x_free_int cS XK GN) (ma_cons (mp_op om_addI (mp_name 4) (mp_op om_mulI (mp_name 8) (mp_name 9))) ma_nil)) mp_int))) (mp_sl (mp_name 6) (mo_some (mp_op om_addI (mp_name 7) mp_int)) mo_none)))))
      ms_nil))))))
theorem d__law_text : DOk P w K mg df__law_text ["well"] 2 1 f__law_text := by
  obtain ⟨fd, F⟩ := cS.def_ (i := 16) (d := df__law_text) rfl
  refine ⟨fd, F, F.bindsN fun _ _ _ _ _ _ us hl => match us, hl with | [_], _ => rfl, fun base => fn_def (N := N__law_text) (k := 1) F sc__law_text fun cdv A outer s H E hgd hr => ?_⟩
  exact (ms_cons (ms_set sc__law_text.nd rfl (.inr rfl) mp_str)
      (ms_cons (ms_set sc__law_text.nd rfl (.inl rfl) (mp_join mp_str (mp_lc rfl sc__law_text.nd (mi_rng rfl (x_free_range cS XK GN) (dCall Xd.tk (d__law_take cS XK GN) hgd (hr.mono (by decide)) rfl (x_glo__law_take cS XK GN) (ma_cons (mp_name 0) (ma_cons (mp_ix (mp_lst (ma_cons mp_int (ma_cons mp_int ma_nil))) (dCall Xd.tk (d__law_take cS XK GN) hgd (hr.mono (by decide)) rfl (x_glo__law_take cS XK GN) (ma_cons (mp_name 0) (ma_cons mp_int ma_nil)))) ma_nil)))) (blkOk_by (own := [("turn", 5)]) (N := N__law_text) (sc := (defScope s__law_text)) (by decide +kernel)) (by decide) (fun _ _ _ _ _ => (mg_name sc__law_text.nd rfl (.inl rfl))) (fun _ _ _ _ _ => mt_nil) (fun _ _ _ _ _ => (mp_ix (mp_name 1) (dCall takes0 (d__law_take cS XK GN) hgd (hr.mono (by decide)) rfl (x_glo__law_take cS XK GN) (ma_cons (mp_name 0) (ma_cons mp_int ma_nil))))))))
      (ms_cons (ms_if (mt_cmp om_eqS (dCall Xd.tk (d__law_take cS XK GN) hgd (hr.mono (by decide)) rfl (x_glo__law_take cS XK GN) (ma_cons (mp_name 0) (ma_cons mp_int ma_nil))) mp_int rfl) (ms_cons (ms_ret (mp_name 2))
      ms_nil) ms_nil)
      (ms_cons (ms_set sc__law_text.nd rfl (.inl rfl) (mp_ix mp_str (dCall Xd.tk (d__law_take cS XK GN) hgd (hr.mono (by decide)) rfl (x_glo__law_take cS XK GN) (ma_cons (mp_name 0) (ma_cons mp_int ma_nil)))))
      (ms_cons (ms_set sc__law_text.nd rfl (.inl rfl) (dCall Xd.tk (d__law_take cS XK GN) hgd (hr.mono (by decide)) rfl (x_glo__law_take cS XK GN) (ma_cons (mp_name 0) (ma_cons (mp_op om_addI (mp_bi call_len ok_len rfl (x_free_len cS XK GN) (ma_cons (mp_name 2) ma_nil)) mp_int) ma_nil))))
      (ms_cons (ms_ret (mp_op om_addS (mp_op om_addS (mp_sl (mp_name 2) mo_none (mo_some (mp_name 4))) (mp_name 3)) (mp_sl (mp_name 2) (mo_some (mp_op om_addI (mp_name 4) (dCall Xd.tk (d__law_take cS XK GN) hgd (hr.mono (by decide)) rfl (x_glo__law_take cS XK GN) (ma_cons (mp_name 0) (ma_cons mp_int ma_nil))))) mo_none)))
      ms_nil))))))
theorem d__law_fits : DOk P w K mg df__law_fits ["well"] 7 1 f__law_fits := by
  obtain ⟨fd, F⟩ := cS.def_ (i := 17) (d := df__law_fits) rfl
  refine ⟨fd, F, F.bindsN fun _ _ _ _ _ _ us hl => match us, hl with | [_], _ => rfl, fun base => fn_def (N := N__law_fits) (k := 6) F sc__law_fits fun cdv A outer s H E hgd hr => ?_⟩
  exact (ms_cons (ms_for Xd.po rfl (mi_rng rfl (x_free_range cS XK GN) mp_int) (mg_name sc__law_fits.nd rfl (.inl rfl)) (ms_cons (ms_set sc__law_fits.nd rfl (.inr rfl) (dCall Xd.tk (d__law_text cS XK GN) hgd (hr.mono (by decide)) rfl (x_glo__law_text cS XK GN) (ma_cons (mp_name 0) ma_nil)))
      (ms_cons (ms_set sc__law_fits.nd rfl (.inl rfl) (mp_and (mp_chain (f := fun i j => decide (i ≤ j)) (f' := fun i j => decide (i ≤ j)) op_le op_le mp_int (mp_bi call_len ok_len rfl (x_free_len cS XK GN) (ma_cons (mp_name 2) ma_nil)) mp_int) (mp_one (mp_cmp (om_eqD (rm2 hr)) (mp_lc rfl sc__law_fits.nd (mi_str (mp_name 2)) (blkOk_by (own := [("sign", 11)]) (N := N__law_fits) (sc := (defScope s__law_fits)) (by decide +kernel)) (by decide) (fun _ _ _ _ _ => (mg_name sc__law_fits.nd rfl (.inl rfl))) (fun _ _ _ _ _ => (pts_one (PW.pt (mw_or (mt_cmp om_ltS (mp_name 11) mp_str rfl) (mw_or1 (mt_cmp om_gtS (mp_name 11) mp_str rfl)))))) (fun _ _ _ _ _ => (mp_name 11))) (mp_lst ma_nil) rfl))))
      (ms_cons (ms_set sc__law_fits.nd rfl (.inr rfl) (mp_if (mt_val (mp_name 3)) (mp_lst (ma_cons (mp_name 2) ma_nil)) (mp_lst (ma_cons mp_bl (ma_cons (mp_name 2) ma_nil)))))
      (ms_cons (ms_if (mt_cmp (om_neD (rm2 hr)) (mp_lc rfl sc__law_fits.nd (mi_rng rfl (x_free_range cS XK GN) mp_int) (blkOk_by (own := [("way", 10)]) (N := N__law_fits) (sc := (defScope s__law_fits)) (by decide +kernel)) (by decide) (fun _ _ _ _ _ => (mg_name sc__law_fits.nd rfl (.inl rfl))) (fun _ _ _ _ _ => (pts_one (mt_cmp om_neS (mp_bi (callR_repr hgd (rm2 hr)) ok_repr rfl (x_free_repr cS XK GN) (ma_cons (dCall takes0 (d__law_caught cS XK GN) hgd (hr.mono (by decide)) rfl (x_glo__law_caught cS XK GN) (ma_cons (mp_name 2) (ma_cons (mp_name 10) ma_nil))) ma_nil)) (mp_bi (callR_repr hgd (rm2 hr)) ok_repr rfl (x_free_repr cS XK GN) (ma_cons (mp_name 4) ma_nil)) rfl))) (fun _ _ _ _ _ => (mp_name 10))) (mp_lst ma_nil) rfl) (ms_cons (ms_ret mp_bl)
      ms_nil) ms_nil)
      ms_nil)))))
      (ms_cons (ms_set sc__law_fits.nd rfl (.inl rfl) (dCall Xd.tk (d__law_cells cS XK GN) hgd (hr.mono (by decide)) rfl (x_glo__law_cells cS XK GN) (ma_cons (mp_name 0) (ma_cons mp_int ma_nil))))
      (ms_cons (ms_par rfl sc__law_fits.nd rfl rfl (by decide) rfl rfl (mp_ix (mp_name 5) (dCall Xd.tk (d__law_take cS XK GN) hgd (hr.mono (by decide)) rfl (x_glo__law_take cS XK GN) (ma_cons (mp_name 0) (ma_cons mp_int ma_nil)))) (mp_ix (mp_name 5) (dCall Xd.tk (d__law_take cS XK GN) hgd (hr.mono (by decide)) rfl (x_glo__law_take cS XK GN) (ma_cons (mp_name 0) (ma_cons mp_int ma_nil)))) rfl)
      (ms_cons (ms_set sc__law_fits.nd rfl (.inl rfl) (mp_lst (ma_cons (mp_cmp (om_eqC (dEqO Xd.tk (d_Value___eq__ cS XK GN) (x_eq_Value_Value cS XK GN)) hgd (hr.mono (by decide))) (dCall Xd.tk (d_cell cS XK GN) hgd (hr.mono (by decide)) rfl (x_glo_cell cS XK GN) (ma_cons (mp_name 6) ma_nil)) (dCall Xd.tk (d_cell cS XK GN) hgd (hr.mono (by decide)) rfl (x_glo_cell cS XK GN) (ma_cons (mp_name 7) ma_nil)) rfl) (ma_cons (mp_cmp (dNeO Xd.tk (d_Value___eq__ cS XK GN) (x_eq_Value_Value cS XK GN) hgd (hr.mono (by decide))) (dCall Xd.tk (d_cell cS XK GN) hgd (hr.mono (by decide)) rfl (x_glo_cell cS XK GN) (ma_cons (mp_name 6) ma_nil)) (dCall Xd.tk (d_cell cS XK GN) hgd (hr.mono (by decide)) rfl (x_glo_cell cS XK GN) (ma_cons (mp_name 7) ma_nil)) rfl) (ma_cons (mp_cmp (om_eqC (dEqO Xd.tk (d_Step___eq__ cS XK GN) (x_eq_Step_Step cS XK GN)) hgd (hr.mono (by decide))) (dCall Xd.tk (d_put cS XK GN) hgd (hr.mono (by decide)) rfl (x_glo_put cS XK GN) (ma_cons (mp_name 6) (ma_cons mp_int ma_nil))) (dCall Xd.tk (d_put cS XK GN) hgd (hr.mono (by decide)) rfl (x_glo_put cS XK GN) (ma_cons (mp_name 7) (ma_cons mp_int ma_nil))) rfl) (ma_cons (mp_cmp (dNeO Xd.tk (d_Step___eq__ cS XK GN) (x_eq_Step_Step cS XK GN) hgd (hr.mono (by decide))) (dCall Xd.tk (d_put cS XK GN) hgd (hr.mono (by decide)) rfl (x_glo_put cS XK GN) (ma_cons (mp_name 6) (ma_cons mp_int ma_nil))) (dCall Xd.tk (d_put cS XK GN) hgd (hr.mono (by decide)) rfl (x_glo_put cS XK GN) (ma_cons (mp_name 7) (ma_cons mp_int ma_nil))) rfl) ma_nil))))))
      (ms_cons (ms_set sc__law_fits.nd rfl (.inl rfl) (mp_cmp om_eqS (mp_name 6) (mp_name 7) rfl))
      (ms_cons (ms_ret (mp_cmp om_eqS (mp_bi (callR_repr hgd (rm2 hr)) ok_repr rfl (x_free_repr cS XK GN) (ma_cons (mp_op om_cat (mp_name 8) (mp_lst (ma_cons (dProp (d_Value_names cS XK GN) (dCall Xd.tk (d_cell cS XK GN) hgd (hr.mono (by decide)) rfl (x_glo_cell cS XK GN) (ma_cons (mp_name 6) ma_nil)) (x_cls_Value cS XK GN) (x_prop_Value_names cS XK GN) hgd (hr.mono (by decide))) ma_nil))) ma_nil)) (mp_bi (callR_repr hgd (rm2 hr)) ok_repr rfl (x_free_repr cS XK GN) (ma_cons (mp_lst (ma_cons (mp_name 9) (ma_cons (mp_not (mp_name 9)) (ma_cons (mp_name 9) (ma_cons (mp_not (mp_name 9)) (ma_cons (mp_lst (ma_cons (mp_name 6) ma_nil)) ma_nil)))))) ma_nil)) rfl))
      ms_nil))))))
theorem d__law_well : DOk P w K mg df__law_well ["script", "place"] 1 2 f__law_well := by
  obtain ⟨fd, F⟩ := cS.def_ (i := 18) (d := df__law_well) rfl
  refine ⟨fd, F, F.bindsN fun _ _ _ _ _ _ us hl => match us, hl with | [_, _], _ => rfl, fun base => fn_def (N := N__law_well) (k := 0) F sc__law_well fun cdv A outer s H E hgd hr => ?_⟩
  exact (ms_cons (ms_set sc__law_well.nd rfl (.inl rfl) mp_int)
      (ms_cons (ms_if (mt_cmp om_ltI (mp_name 1) (mp_bi call_len ok_len rfl (x_free_len cS XK GN) (ma_cons (mp_name 0) ma_nil)) rfl) (ms_cons (ms_set sc__law_well.nd rfl (.inl rfl) (mp_ix (mp_name 0) (mp_name 1)))
      ms_nil) ms_nil)
      (ms_cons (ms_set sc__law_well.nd rfl (.inl rfl) (mp_op om_modI (mp_ty call_int1 ok_int rfl (x_free_int cS XK GN) (ma_cons (mp_op om_addI (mp_op om_mulI (mp_bi call_abs ok_abs rfl (x_free_abs cS XK GN) (ma_cons (mp_name 2) ma_nil)) mp_int) (mp_ty call_int1 ok_int rfl (x_free_int cS XK GN) (ma_cons (mp_cmp om_ltI (mp_name 2) mp_int rfl) ma_nil))) ma_nil)) mp_int))
      (ms_cons (ms_ret (mp_lstM (ma_cons (mp_op om_mulI (mp_name 2) (mp_ty call_int1 ok_int rfl (x_free_int cS XK GN) (ma_cons (mp_cmp om_geI (mp_name 2) (mp_op om_powI mp_int mp_int) rfl) ma_nil))) (ma_cons (mp_op om_addI (mp_name 3) (mp_op om_mulI mp_int (mp_name 1))) (ma_cons mp_int ma_nil)))))
      ms_nil))))
theorem d_law : DOk P w K mg df_law ["script"] 8 1 f_law := by
  obtain ⟨fd, F⟩ := cS.def_ (i := 19) (d := df_law) rfl
  refine ⟨fd, F, F.bindsN fun _ _ _ _ _ _ us hl => match us, hl with | [_], _ => rfl, fun base => fn_def (N := N_law) (k := 7) F sc_law fun cdv A outer s H E hgd hr => ?_⟩
  exact (ms_cons (ms_for Xd.po rfl (mi_rng rfl (x_free_range cS XK GN) (mp_bi (call_max2 rfl) ok_max rfl (x_free_max cS XK GN) (ma_cons mp_int (ma_cons (mp_bi (call_min2 rfl) ok_min rfl (x_free_min cS XK GN) (ma_cons mp_int (ma_cons (mp_bi call_len ok_len rfl (x_free_len cS XK GN) (ma_cons (mp_name 0) ma_nil)) ma_nil))) ma_nil)))) (mg_name sc_law.nd rfl (.inl rfl)) (ms_cons (ms_set sc_law.nd rfl (.inl rfl) (dCall Xd.tk (d__law_well cS XK GN) hgd (hr.mono (by decide)) rfl (x_glo__law_well cS XK GN) (ma_cons (mp_name 0) (ma_cons (mp_name 1) ma_nil))))
      (ms_cons (ms_for Xd.po rfl (mi_rng rfl (x_free_range cS XK GN) mp_int) (mg_name sc_law.nd rfl (.inl rfl)) (ms_cons (ms_if (mt_not (mt_val (dCall Xd.tk (d__law_fits cS XK GN) hgd (hr.mono (by decide)) rfl (x_glo__law_fits cS XK GN) (ma_cons (mp_name 2) ma_nil)))) (ms_cons (ms_ret mp_bl)
      ms_nil) ms_nil)
      ms_nil))
      ms_nil)))
      (ms_cons (ms_ret mp_bl)
      ms_nil))
end

abbrev R : PySem.W.OpenRow := PySem.W.OpenLaw.row PySem.Challenge.rw_anyworker_k02_names_of_cells
abbrev hk : PySem.W.Hook := hookB 6 fb fn
def ob (s : PySem.W.SharedT) : He.AlD := obsBG 6 fb fn (HandSHeadRun.getT s)
theorem ob_eq (s : PySem.W.SharedT) : ob s = hk.obs s.abs := obsBG_eq (HandSHeadRun.getT_eq s)
abbrev loose : List PySem.Str := ["_wall", "__name__", "WorkError", "InvalidName", "UnknownName", "InvalidDivisor", "LETTERS", "LONGEST", "check_name", "cell", "number", "Value", "_check_divisor", "joined", "_as_value", "names_in", "worth", "_worked_out", "_is_true", "Step", "put", "_law_well", "_law_take", "_law_cells", "_law_caught", "_law_text", "_law_fits"]
abbrev LAWIX : Nat := 30
abbrev LAWLV : Nat := 8

end Q2

set_option maxHeartbeats 0
namespace Q2
open PySem PySem.Spec PyProof.Rows L2 Mi
theorem run (w : World) : HandSHeadRun.RunEq R (PySem.W.view R.prog [LAWIX]) hk ob 4000 loose w := by
  intro os
  kernel_rfl
end Q2

set_option maxHeartbeats 4000000
set_option exponentiation.threshold 5000
namespace Q2
open PySem PySem.Spec PyProof.Rows L2 Mi
theorem trim_same (S S' : So) (x : MV) (h : S'.length = S.length) : trim S (.ok x S') = .ok x S' := trim_ok (Nat.le_of_eq h)
abbrev val (sg : PySem.Str) (ps nm : List MV) : MV := .obj "Value" ["sign", "parts", "_names"] [.str sg, .tup ps, .tup nm]
theorem L_init (S : So) (a b c : MV) : f_Value___init__ [.ref S.length, a, b, c] (S ++ [.ins "Value" [] []]) = .ok .non (S ++ [.ins "Value" ["sign", "parts", "_names"] [a, b, c]]) := by
  have e1 : stFld "Value" "sign" a (.ref S.length) (S ++ [.ins "Value" [] []]) = some (S ++ [.ins "Value" ["sign"] [a]]) := by
    unfold stFld; simp only [at_end, set_end]; rfl
  have e2 : stFld "Value" "parts" b (.ref S.length) (S ++ [.ins "Value" ["sign"] [a]]) = some (S ++ [.ins "Value" ["sign", "parts"] [a, b]]) := by
    unfold stFld; simp only [at_end, set_end]; rfl
  have e3 : stFld "Value" "_names" c (.ref S.length) (S ++ [.ins "Value" ["sign", "parts"] [a, b]]) = some (S ++ [.ins "Value" ["sign", "parts", "_names"] [a, b, c]]) := by
    unfold stFld; simp only [at_end, set_end]; rfl
  simp only [f_Value___init__, runDef, sBlk, sSeq, sSkip, sFldM, mName, en0, List.map_cons, List.map_nil, List.length_cons, List.length_nil, List.replicate, List.append_nil, Nat.reduceAdd, Nat.sub_self, List.getElem?_cons_zero, List.getElem?_cons_succ, R.to_ok, e1, e2, e3, SR.fin]
  exact trim_same _ _ _ (by simp)
theorem def_ok {n : Nat} {b : MS} {xs : List MV} {S S' : So} {x : MV} (h : (b (en0 n xs) S).fin = .ok x S') (hl : S'.length = S.length) : runDef n b xs S = .ok x S' := by
  unfold runDef
  rw [h]
  exact trim_same _ _ _ hl
theorem def_one {n : Nat} {b : MS} {xs : List MV} {S : So} {x : MV} {u : MO} (h : (b (en0 n xs) S).fin = .ok x (S ++ [u])) (hl : MV.lt S.length x = true) : runDef n b xs S = .ok x S := by
  unfold runDef
  rw [h]
  exact trim_one _ _ _ hl
theorem make_ok {ms : List ME} {r : En} {S S1 : So} {a b c : MV} (h : mArgs ms r S = .ok [a, b, c] S1) (hl : S.length ≤ S1.length) :
    mFrz (mTrim (mMake "Value" f_Value___init__ [] ms)) r S = .ok (.obj "Value" ["sign", "parts", "_names"] [a, b, c]) (S1 ++ [.dead]) := by
  have h1 : mMake "Value" f_Value___init__ [] ms r S = .ok (.ref S1.length) (S1 ++ [.ins "Value" ["sign", "parts", "_names"] [a, b, c]]) := by
    unfold mMake
    rw [h]
    simp only [R.bind_ok, List.append_nil, L_init]
  have h2 : mTrim (mMake "Value" f_Value___init__ [] ms) r S = .ok (.ref S1.length) (S1 ++ [.ins "Value" ["sign", "parts", "_names"] [a, b, c]]) := by
    unfold mTrim
    rw [h1]
    exact trim_keep _ _ _ (decide_eq_false (by omega))
  unfold mFrz
  rw [h2]
  simp only [R.bind_ok, frz, at_end, set_end]
theorem L_number (S : So) (i : Int) : f_number [.int i] S = .ok (val "number" [.int i] []) S := by
  have h : mArgs [mC (.str "number"), mTup [mName 0], mTup []] [some (.int i)] S = .ok [.str "number", .tup [.int i], .tup []] S := rfl
  show trim S ((sBlk [sRet (mFrz (mTrim (mMake "Value" f_Value___init__ [] [mC (.str "number"), mTup [mName 0], mTup []])))] [some (.int i)] S).fin) = _
  simp only [sBlk, sSeq, sRet, make_ok h (Nat.le_refl _), R.to_ok, SR.fin]
  exact trim_one _ _ _ (by simp [MV.lt, MV.lts])
inductive Vt where
  | cell (x : PySem.Str) | num (i : Int) | pas | bin (sg : PySem.Str) (a b : Vt) | inv (a : Vt)
def Vt.nms : Vt → List PySem.Str
  | .cell x => [x]
  | .num _ => []
  | .pas => []
  | .bin _ a b => sortU (a.nms ++ b.nms)
  | .inv a => a.nms
abbrev smv (l : List PySem.Str) : List MV := l.map MV.str
def Vt.mv : Vt → MV
  | .cell x => val "cell" [.str x] [.str x]
  | .num i => val "number" [.int i] []
  | .pas => val "passed" [] []
  | .bin sg a b => val sg [a.mv, b.mv] (smv (sortU (a.nms ++ b.nms)))
  | .inv a => val "~" [a.mv] (smv a.nms)
theorem lts_smv (n : Nat) : ∀ l : List PySem.Str, MV.lts n (smv l) = true
  | [] => rfl
  | x :: l => by
    show (MV.lt n (.str x) && MV.lts n (smv l)) = true
    rw [lts_smv n l]; rfl
theorem Vt.closed (n : Nat) : ∀ v : Vt, MV.lt n v.mv = true
  | .cell x => rfl
  | .num i => rfl
  | .pas => rfl
  | .bin sg a b => by
    show (MV.lt n (.str sg) && ((MV.lt n a.mv && (MV.lt n b.mv && true)) && (MV.lts n (smv _) && true))) = true
    rw [Vt.closed n a, Vt.closed n b, lts_smv]; rfl
  | .inv a => by
    show (MV.lt n (.str "~") && ((MV.lt n a.mv && true) && (MV.lts n (smv _) && true))) = true
    rw [Vt.closed n a, lts_smv]; rfl
theorem Vt.mv_names (v : Vt) : ∃ sg ps, v.mv = val sg ps (smv v.nms) := by
  cases v <;> exact ⟨_, _, rfl⟩
theorem L_names (S : So) (v : Vt) : f_Value_names [v.mv] S = .ok (.lst (smv v.nms)) S := by
  obtain ⟨sg, ps, e⟩ := v.mv_names
  rw [e]
  exact def_ok rfl rfl
theorem sc_smv (r : En) (S : So) (h2 : 2 < r.length) : ∀ l : List PySem.Str, scIn [2] (gN 2) (mName 2) (smv l) r S = .ok l S
  | [] => rfl
  | x :: l => by
    have e1 : mName 2 ((wipeM r [2]).set 2 (some (.str x))) S = .ok (.str x) S := by
      have : ((wipeM r [2]).set 2 (some (MV.str x)))[2]? = some (some (.str x)) := by
        rw [List.getElem?_set]
        simp [wipeM, h2]
      unfold mName
      rw [this]
    show (nx (mName 2 ((wipeM r [2]).set 2 (some (.str x))) S)).bind _ = _
    rw [e1]
    simp only [nx, R.bind_ok]
    rw [sc_smv r S h2 l]
    rfl
theorem ret1 {m : ME} {r : En} {S S' : So} {x : MV} (h : m r S = .ok x S') : (sBlk [sRet m] r S).fin = .ok x S' := by
  simp only [sBlk, sSeq, sRet, h, R.to_ok, SR.fin]
theorem prop_names (S : So) (v : Vt) {r : En} {m : ME} (h : m r S = .ok v.mv S) : mProp "Value" f_Value_names m r S = .ok (.lst (smv v.nms)) S := by
  unfold mProp
  rw [h]
  obtain ⟨sg, ps, e⟩ := v.mv_names
  have e2 := L_names S v
  rw [e] at e2 ⊢
  simp only [R.bind_ok, clsOf, if_true, e2, noX]
theorem it_names (S : So) (v : Vt) {r : En} (h : mName 1 r S = .ok v.mv S) : iSeq (mProp "Value" f_Value_names (mName 1)) r S = .ok (smv v.nms) S := by
  unfold iSeq
  rw [prop_names S v h]
  rfl
theorem name_set {r : En} {i : Nat} {x : MV} {S : So} (h : i < r.length) : mName i (r.set i (some x)) S = .ok x S := by
  have : (r.set i (some x))[i]? = some (some x) := by rw [List.getElem?_set]; simp [h]
  unfold mName
  rw [this]
theorem wipe_len (r : En) : ∀ vs : List Nat, (wipeM r vs).length = r.length
  | [] => rfl
  | v :: vs => by show ((wipeM r vs).set v none).length = _; rw [List.length_set, wipe_len r vs]
theorem sc_vals (r : En) (S : So) (hr : r.length = 3) : ∀ vs : List Vt, scOut [1, 2] (gN 1) (iSeq (mProp "Value" f_Value_names (mName 1))) [2] (gN 2) (mName 2) (vs.map Vt.mv) r S = .ok (vs.flatMap Vt.nms) S
  | [] => rfl
  | v :: vs => by
    have hl : ((wipeM r [1, 2]).set 1 (some v.mv)).length = 3 := by rw [List.length_set, wipe_len, hr]
    show (nx (iSeq (mProp "Value" f_Value_names (mName 1)) ((wipeM r [1, 2]).set 1 (some v.mv)) S)).bind _ = _
    rw [it_names S v (name_set (by rw [wipe_len, hr]; decide))]
    simp only [nx, R.bind_ok, sc_smv _ S (by rw [hl]; decide), sc_vals r S hr vs]
    rfl
theorem L_namesin (S : So) (a b : Vt) (hz : (a.nms ++ b.nms).length < 4000) : f_names_in [.tup [a.mv, b.mv]] S = .ok (.tup (smv (sortU (a.nms ++ b.nms)))) S := by
  have h0 : mSortSet (iSeq (mName 0)) [1, 2] (gN 1) (iSeq (mProp "Value" f_Value_names (mName 1))) [2] (gN 2) (mName 2) (en0 3 [.tup [a.mv, b.mv]]) S = .ok (.lst (smv (sortU (a.nms ++ b.nms)))) S := by
    have e : scOut [1, 2] (gN 1) (iSeq (mProp "Value" f_Value_names (mName 1))) [2] (gN 2) (mName 2) [a.mv, b.mv] (en0 3 [.tup [a.mv, b.mv]]) S = .ok ([a, b].flatMap Vt.nms) S := sc_vals (en0 3 [.tup [a.mv, b.mv]]) S rfl [a, b]
    unfold mSortSet
    rw [show iSeq (mName 0) (en0 3 [.tup [a.mv, b.mv]]) S = .ok [a.mv, b.mv] S from rfl]
    simp only [R.bind_ok]
    rw [e]
    simp only [List.flatMap_cons, List.flatMap_nil, List.append_nil]
    rw [if_pos hz]
  refine def_ok (ret1 ?_) rfl
  show mBlt gTuple [mSortSet (iSeq (mName 0)) [1, 2] (gN 1) (iSeq (mProp "Value" f_Value_names (mName 1))) [2] (gN 2) (mName 2)] (en0 3 [.tup [a.mv, b.mv]]) S = _
  simp only [mBlt, mArgs, aCons, aNil, h0, R.bind_ok, gTuple, seqOf]
/-- what _as_value makes of it -/
inductive Arg where
  | v (a : Vt) | i (n : Int)
def Arg.mv : Arg → MV
  | .v a => a.mv
  | .i n => .int n
def Arg.vt : Arg → Vt
  | .v a => a
  | .i n => .num n
theorem L_asval (S : So) (a : Arg) : f__as_value [a.mv] S = .ok a.vt.mv S := by
  cases a with
  | v a =>
    obtain ⟨sg, ps, e⟩ := a.mv_names
    show f__as_value [a.mv] S = .ok a.mv S
    rw [e]
    exact def_ok rfl rfl
  | i n =>
    refine def_ok (ret1 ?_) rfl
    exact (show _ = f_number [.int n] S from rfl).trans (L_number S n)
theorem Arg.closed (n : Nat) (a : Arg) : MV.lt n a.mv = true := by
  cases a with
  | v a => exact a.closed n
  | i n => rfl
theorem call_ok {g : DF} {ds : List MV} {ms : List ME} {r : En} {S S1 : So} {xs : List MV} {z : Mi.R MV} (h : mArgs ms r S = .ok xs S1) (w : g (xs ++ ds) S1 = z) : mCall g ds ms r S = z := by
  unfold mCall
  rw [h]
  exact w
theorem blk_nxt {a : MS} {l : List MS} {r r' : En} {S S' : So} {z : Mi.R MV} (h : a r S = .nxt r' S') (k : (sBlk l r' S').fin = z) : (sBlk (a :: l) r S).fin = z := by
  show (sSeq a (sBlk l) r S).fin = z
  unfold sSeq
  rw [h]
  exact k
theorem blk_ret {a : MS} {l : List MS} {r : En} {S S' : So} {x : MV} (h : a r S = .ret x S') : (sBlk (a :: l) r S).fin = .ok x S' := by
  show (sSeq a (sBlk l) r S).fin = _
  unfold sSeq
  rw [h]
  rfl
theorem if_ret {t : MT} {m : ME} {b : MS} {r : En} {S S1 S' : So} {x : MV} (ht : t r S = .ok true S1) (hm : m r S1 = .ok x S') : sIf t (sBlk [sRet m]) b r S = .ret x S' := by
  unfold sIf
  rw [ht]
  simp only [R.to_ok, if_true, sBlk, sSeq, sRet, hm]
theorem st_ret {m : ME} {r : En} {S S' : So} {x : MV} (hm : m r S = .ok x S') : sRet m r S = .ret x S' := by
  unfold sRet
  rw [hm]
  rfl
theorem st_set {m : ME} {i : Nat} {r : En} {S S' : So} {x : MV} (hm : m r S = .ok x S') : sAsg (gN i) m r S = .nxt (r.set i (some x)) S' := by
  unfold sAsg
  rw [hm]
  rfl
theorem Arg.v_mv (a : Vt) : (Arg.v a).mv = a.mv := rfl
theorem cls_v (v : Vt) (S : So) : isCls "Value" v.mv S = true := by
  obtain ⟨sg, ps, e⟩ := v.mv_names
  rw [e]
  rfl
theorem int_v (v : Vt) : isInt v.mv = false := by
  obtain ⟨sg, ps, e⟩ := v.mv_names
  rw [e]
  rfl
theorem own_ok (f : DF) (x : Vt) (y : Arg) (S : So) : gOwn "Value" f x.mv y.mv S = f [x.mv, y.mv] S := by
  unfold gOwn
  rw [if_pos]
  refine ⟨cls_v x S, ?_⟩
  cases y with
  | v a => exact .inl (cls_v a S)
  | i n => exact .inr rfl
theorem ownR_ok (f : DF) (x : Vt) (n : Int) (S : So) : gOwnR "Value" f (.int n) x.mv S = f [x.mv, .int n] S := by
  unfold gOwnR
  rw [if_pos ⟨rfl, cls_v x S⟩]
theorem ownO_ok (f g : DF) (x : Vt) (y : Arg) (S : So) {z : MV} (hf : f [y.mv, x.mv] S = .ok z S) (hg : g [x.mv, y.mv] S = .ok z S) : gOr (gOwn "Value" f) (gOwnR "Value" g) y.mv x.mv S = .ok z S := by
  unfold gOr
  cases y with
  | v a =>
    rw [show (Arg.v a).mv = a.mv from rfl] at hf ⊢
    rw [show x.mv = (Arg.v x).mv from rfl, own_ok f a (.v x) S]
    rw [show (Arg.v x).mv = x.mv from rfl, hf]
  | i n =>
    have e : gOwn "Value" f (Arg.i n).mv x.mv S = .bad := rfl
    rw [e]
    simp only
    exact (ownR_ok g x n S).trans hg
abbrev small2 (a b : Arg) : Prop := (a.vt.nms ++ b.vt.nms).length < 4000
theorem fn_v (v : Vt) (S : So) : fldNames v.mv S = (["sign", "parts", "_names"] : List PySem.Str) := by
  obtain ⟨sg, ps, e⟩ := v.mv_names
  rw [e]; rfl
theorem meth_v (v : Vt) (S : So) (m : PySem.Str) (h : (["sign", "parts", "_names"] : List PySem.Str).contains m = false := by decide) : (isCls "Value" v.mv S && !(fldNames v.mv S).contains m) = true := by
  rw [cls_v, fn_v, h]; rfl
def Vt.sg : Vt → PySem.Str
  | .cell _ => "cell"
  | .num _ => "number"
  | .pas => "passed"
  | .bin sg _ _ => sg
  | .inv _ => "~"
def Vt.pts : Vt → List MV
  | .cell x => [.str x]
  | .num i => [.int i]
  | .pas => []
  | .bin _ a b => [a.mv, b.mv]
  | .inv a => [a.mv]
theorem sign_v (v : Vt) (S : So) : gFld "Value" "sign" v.mv S = .ok (.str v.sg) S := by cases v <;> rfl
theorem parts_v (v : Vt) (S : So) : gFld "Value" "parts" v.mv S = .ok (.tup v.pts) S := by cases v <;> rfl
theorem isi_v (v : Vt) (S : So) : gIsi (tbOf [(.own "Value", true)]) v.mv S = .ok (.bl true) S := by cases v <;> rfl
def Vt.dep : Vt → Nat
  | .bin _ a b => max a.dep b.dep + 1
  | .inv a => a.dep + 1
  | _ => 0
theorem meth_v2 (v : Vt) (S : So) : (isCls "Value" v.mv S && !(fldNames v.mv S).contains "same") = true ∧ (isCls "Value" v.mv S && !(fldNames v.mv S).contains "less") = true ∧ (isCls "Value" v.mv S && !(fldNames v.mv S).contains "rest") = true ∧ (isCls "Value" v.mv S && !(fldNames v.mv S).contains "at") = true :=
  ⟨meth_v v S "same", meth_v v S "less", meth_v v S "rest", meth_v v S "at"⟩
theorem cn_v (v : Vt) (S : So) : (fldNames v.mv S).contains "same" = false ∧ (fldNames v.mv S).contains "less" = false ∧ (fldNames v.mv S).contains "rest" = false ∧ (fldNames v.mv S).contains "at" = false := by
  rw [fn_v]
  decide

abbrev imv (l : List Int) : List MV := l.map MV.int
theorem bin_ok {g : G2} {a b : ME} {r : En} {S S1 S2 : So} {x y : MV} {z : Mi.R MV} (h1 : a r S = .ok x S1) (h2 : b r S1 = .ok y S2) (h3 : g x y S2 = z) : mBin g a b r S = z := by
  unfold mBin
  rw [h1]
  simp only [R.bind_ok]
  rw [h2]
  exact h3
theorem blt_ok {g : GA} {m : ME} {r : En} {S S1 : So} {x : MV} {z : Mi.R MV} (h : m r S = .ok x S1) (w : g [x] S1 = z) : mBlt g [m] r S = z := by
  simp only [mBlt, mArgs, aCons, aNil, h, R.bind_ok]
  exact w
theorem mulI_ok {i j : Int} (S : So) (h : okMul i j = true) : oMulI (.int i) (.int j) S = .ok (.int (i * j)) S := if_pos h
theorem args2 {m1 m2 : ME} {r : En} {S S1 S2 : So} {x y : MV} (h1 : m1 r S = .ok x S1) (h2 : m2 r S1 = .ok y S2) : mArgs [m1, m2] r S = .ok [x, y] S2 := by
  simp only [mArgs, aCons, aNil, h1, h2, R.bind_ok]
theorem args1 {m1 : ME} {r : En} {S S1 : So} {x : MV} (h1 : m1 r S = .ok x S1) : mArgs [m1] r S = .ok [x] S1 := by
  simp only [mArgs, aCons, aNil, h1, R.bind_ok]
theorem st_par {i j : Nat} {a b : ME} {r : En} {S S1 S2 : So} {x y : MV} (h1 : a r S = .ok x S1) (h2 : b r S1 = .ok y S2) : sPar i j a b r S = .nxt ((r.set i (some x)).set j (some y)) S2 := by
  unfold sPar
  rw [h1]
  simp only [R.to_ok]
  rw [h2]
  rfl
theorem st_skip {t : MT} {a : MS} {r : En} {S S1 : So} (h : t r S = .ok false S1) : sIf t a (sBlk []) r S = .nxt r S1 := by
  unfold sIf
  rw [h]
  rfl
theorem or_ff {t u : MT} {r : En} {S S1 S2 : So} (h1 : t r S = .ok false S1) (h2 : u r S1 = .ok false S2) : tOr' t u r S = .ok false S2 := by
  unfold tOr'
  rw [h1]
  exact h2
theorem not_t {t : MT} {r : En} {S S1 : So} (h1 : t r S = .ok true S1) : tNot' t r S = .ok false S1 := by
  unfold tNot'
  rw [h1]
  rfl
theorem val_b {m : ME} {r : En} {S S1 : So} {b : Bool} (h1 : m r S = .ok (.bl b) S1) : tVal m r S = .ok b S1 := by
  unfold tVal
  rw [h1]
  rfl
theorem st_exp {m : ME} {r : En} {S S' : So} {x : MV} (hm : m r S = .ok x S') : sExp m r S = .nxt r S' := by
  unfold sExp
  rw [hm]
  rfl
abbrev At (S : So) (n : Nat) (a b c : Int) : Prop := S[n]? = some (.lst [.int a, .int b, .int c])
theorem At.lt {S : So} {n : Nat} {a b c : Int} (h : At S n a b c) : n < S.length := (List.getElem?_eq_some_iff.mp h).1
theorem At.set {S : So} {n : Nat} {a b c : Int} (h : At S n a b c) (a' b' c' : Int) : At (S.set n (.lst [.int a', .int b', .int c'])) n a' b' c' := by
  show (S.set n _)[n]? = _
  rw [List.getElem?_set]
  simp [h.lt]
section
variable {S : So} {n : Nat} {a b c : Int}
theorem ix0 (h : At S n a b c) : ixM (.ref n) (.int 0) S = .ok (.int a) S := by
  simp only [ixM, seqOf]
  rw [h]
  rfl
theorem ix1 (h : At S n a b c) : ixM (.ref n) (.int 1) S = .ok (.int b) S := by
  simp only [ixM, seqOf]
  rw [h]
  rfl
theorem ix2 (h : At S n a b c) : ixM (.ref n) (.int 2) S = .ok (.int c) S := by
  simp only [ixM, seqOf]
  rw [h]
  rfl
theorem put0 (h : At S n a b c) (v : Int) : stIx (.ref n) (.int 0) (.int v) S = some (S.set n (.lst [.int v, .int b, .int c])) := by
  simp only [stIx]
  rw [h]
  rfl
theorem put2 (h : At S n a b c) (v : Int) : stIx (.ref n) (.int 2) (.int v) S = some (S.set n (.lst [.int a, .int b, .int v])) := by
  simp only [stIx]
  rw [h]
  rfl
theorem st_ix {mo mi mv : ME} {r : En} {S S' : So} {x i y : MV} (hv : mv r S = .ok y S) (ho : mo r S = .ok x S) (hi : mi r S = .ok i S) (h : stIx x i y S = some S') : sIxM mo mi mv r S = .nxt r S' := by
  unfold sIxM
  rw [hv]
  simp only [R.to_ok]
  rw [ho]
  simp only [R.to_ok]
  rw [hi]
  simp only [R.to_ok]
  rw [h]
theorem if_blk {t : MT} {l : List MS} {b : MS} {r : En} {S S1 : So} {x : MV} {S' : So} (ht : t r S = .ok true S1) (h : sBlk l r S1 = .ret x S') : sIf t (sBlk l) b r S = .ret x S' := by
  unfold sIf
  rw [ht]
  exact h
theorem blk_nxt' {a : MS} {l : List MS} {r r' : En} {S S' : So} {z : SR} (h : a r S = .nxt r' S') (k : sBlk l r' S' = z) : sBlk (a :: l) r S = z := by
  show sSeq a (sBlk l) r S = z
  unfold sSeq
  rw [h]
  exact k
theorem blk_ret' {a : MS} {l : List MS} {r : En} {S S' : So} {x : MV} (h : a r S = .ret x S') : sBlk (a :: l) r S = .ret x S' := by
  show sSeq a (sBlk l) r S = _
  unfold sSeq
  rw [h]
end
theorem divI_ok {i j : Int} (S : So) (h : okDiv i j = true) : oDivI (.int i) (.int j) S = .ok (.int (i / j)) S := if_pos h
theorem modI_ok {i j : Int} (S : So) (h : 0 < j) : oModI (.int i) (.int j) S = .ok (.int (i % j)) S := if_pos (decide_eq_true h)
theorem pow3_ok {i : Int} (S : So) (h : i.natAbs < 2 ^ 4000) : oPowI (.int i) (.int 3) S = .ok (.int (i ^ 3)) S := by
  refine if_pos ?_
  unfold okPow
  rw [decide_eq_true h]
  rfl
theorem okDiv_of {i j : Int} (h : 0 < j) (h2 : j.natAbs < 2 ^ 4000) : okDiv i j = true := by
  unfold okDiv
  rw [decide_eq_true h, decide_eq_true h2]
  rfl
theorem okMul_l {i j : Int} (h : i.natAbs < 2 ^ 64) : okMul i j = true := by
  unfold okMul
  rw [decide_eq_true h]
  rfl
theorem okMul_r {i j : Int} (h : j.natAbs < 2 ^ 64) : okMul i j = true := by
  unfold okMul
  rw [decide_eq_true h]
  simp
theorem pow_big : (2 : Nat) ^ 200 ≤ 2 ^ 4000 := Nat.pow_le_pow_right (by decide) (by decide)
theorem lt_big {i : Int} (h : i.natAbs < 2 ^ 200) : i.natAbs < 2 ^ 4000 := Nat.lt_of_lt_of_le h pow_big
structure Wl (S : So) (n : Nat) (c : Nat) : Prop where
  ex : ∃ a b d : Int, At S n a b d ∧ 0 ≤ a ∧ 0 ≤ b ∧ b < 2 ^ 70 ∧ 0 ≤ d ∧ d ≤ c
theorem Wl.mono {S : So} {n c c' : Nat} (h : Wl S n c) (k : c ≤ c') : Wl S n c' := by
  obtain ⟨a, b, d, h1, h2, h3, h4, h5, h6⟩ := h.ex
  exact ⟨a, b, d, h1, h2, h3, h4, h5, by omega⟩
theorem L_take {S : So} {n c : Nat} {m : Int} (w : Wl S n c) (hc : c < 1000000000) (hm : 0 < m) (hb : m.natAbs < 2 ^ 200) :
    ∃ t S', f__law_take [.ref n, .int m] S = .ok (.int t) S' ∧ 0 ≤ t ∧ t < m ∧ Wl S' n (c + 1) ∧ S'.length = S.length := by
  obtain ⟨a, b, d, h, ha, hb0, hb1, hd0, hd1⟩ := w.ex
  let r0 : En := en0 4 [.ref n, .int m]
  have q0 : mName 0 r0 S = .ok (.ref n) S := rfl
  have i0 : mBin ixM (mName 0) (mC (.int 0)) r0 S = .ok (.int a) S := bin_ok q0 rfl (ix0 h)
  by_cases pos : 0 < a
  · have et : tVal (mBin oGtI (mBin ixM (mName 0) (mC (.int 0))) (mC (.int 0))) r0 S = .ok true S := by
      refine val_b (bin_ok i0 (y := .int 0) rfl ?_)
      show (Mi.R.ok (MV.bl (decide (0 < a))) S : Mi.R MV) = _
      rw [decide_eq_true pos]
    let r1 : En := r0.set 2 (some (.int (a % m)))
    have q1 : mName 0 r1 S = .ok (.ref n) S := rfl
    have i1 : mBin ixM (mName 0) (mC (.int 0)) r1 S = .ok (.int a) S := bin_ok q1 rfl (ix0 h)
    let S' : So := S.set n (.lst [.int (a / m), .int b, .int d])
    have eb : sBlk [sAsg (gN 2) (mBin oModI (mBlt gInt [mBin ixM (mName 0) (mC (.int 0))]) (mName 1)), sIxM (mName 0) (mC (.int 0)) (mBin oDivI (mBin ixM (mName 0) (mC (.int 0))) (mName 1)), sRet (mName 2)] r0 S = .ret (.int (a % m)) S' :=
      blk_nxt' (st_set (bin_ok (S1 := S) (S2 := S) (x := .int a) (y := .int m) (blt_ok i0 rfl) rfl (modI_ok S hm))) (blk_nxt' (st_ix (bin_ok (S2 := S) i1 (y := .int m) rfl (divI_ok S (okDiv_of hm (lt_big hb)))) q1 rfl (put0 h (a / m))) (blk_ret' (st_ret rfl)))
    refine ⟨a % m, S', def_ok (blk_ret (if_blk et eb)) (by show (S.set n _).length = _; rw [List.length_set]), Int.emod_nonneg _ (by omega), Int.emod_lt_of_pos _ hm, ⟨a / m, b, d, h.set _ _ _, Int.ediv_nonneg ha (by omega), hb0, hb1, hd0, by omega⟩, by show (S.set n _).length = _; rw [List.length_set]⟩
  · have et : tVal (mBin oGtI (mBin ixM (mName 0) (mC (.int 0))) (mC (.int 0))) r0 S = .ok false S := by
      refine val_b (bin_ok i0 (y := .int 0) rfl ?_)
      show (Mi.R.ok (MV.bl (decide (0 < a))) S : Mi.R MV) = _
      rw [decide_eq_false pos]
    have i2 : mBin ixM (mName 0) (mC (.int 2)) r0 S = .ok (.int d) S := bin_ok q0 rfl (ix2 h)
    let S1 : So := S.set n (.lst [.int a, .int b, .int (d + 1)])
    have h1 : At S1 n a b (d + 1) := h.set _ _ _
    have e1 : sIxM (mName 0) (mC (.int 2)) (mBin oAddI (mBin ixM (mName 0) (mC (.int 2))) (mC (.int 1))) r0 S = .nxt r0 S1 :=
      st_ix (bin_ok (S2 := S) i2 (y := .int 1) rfl rfl) q0 rfl (put2 h (d + 1))
    have j1 : ∀ x : Option MV, mBin ixM (mName 0) (mC (.int 1)) (r0.set 3 x) S1 = .ok (.int b) S1 := fun x => bin_ok (x := .ref n) (S1 := S1) (S2 := S1) rfl rfl (ix1 h1)
    have j2 : ∀ x : Option MV, mBin ixM (mName 0) (mC (.int 2)) (r0.set 3 x) S1 = .ok (.int (d + 1)) S1 := fun x => bin_ok (x := .ref n) (S1 := S1) (S2 := S1) rfl rfl (ix2 h1)
    have k1 : mBin ixM (mName 0) (mC (.int 1)) r0 S1 = .ok (.int b) S1 := j1 none
    have k2 : mBin ixM (mName 0) (mC (.int 2)) r0 S1 = .ok (.int (d + 1)) S1 := j2 none
    let x1 : Int := b + 6700417 * (d + 1)
    have hx1 : x1.natAbs < 2 ^ 4000 := by
      refine lt_big ?_
      have : x1.natAbs < 2 ^ 80 := by show (b + 6700417 * (d + 1)).natAbs < _; omega
      exact Nat.lt_trans this (by decide)
    let y1 : Int := x1 ^ 3 + 97 * (d + 1)
    have e2 : mBin oAddI (mBin oPowI (mBin oAddI (mBin ixM (mName 0) (mC (.int 1))) (mBin oMulI (mC (.int 6700417)) (mBin ixM (mName 0) (mC (.int 2))))) (mC (.int 3))) (mBin oMulI (mC (.int 97)) (mBin ixM (mName 0) (mC (.int 2)))) r0 S1 = .ok (.int y1) S1 :=
      bin_ok (S1 := S1) (S2 := S1) (bin_ok (S1 := S1) (S2 := S1) (bin_ok k1 (bin_ok (S1 := S1) (S2 := S1) (x := .int 6700417) rfl k2 (mulI_ok S1 (okMul_l (by decide)))) rfl) (y := .int 3) rfl (pow3_ok S1 hx1)) (bin_ok (S1 := S1) (S2 := S1) (x := .int 97) rfl k2 (mulI_ok S1 (okMul_l (by decide)))) rfl
    let y2 : Int := y1 % 2305843009213693951 + 2971215073 * (d + 1)
    have e3 : mBin oAddI (mBin oModI (mBlt gInt [mName 3]) (mC (.int 2305843009213693951))) (mBin oMulI (mC (.int 2971215073)) (mBin ixM (mName 0) (mC (.int 2)))) (r0.set 3 (some (.int y1))) S1 = .ok (.int y2) S1 :=
      bin_ok (S1 := S1) (S2 := S1) (bin_ok (S1 := S1) (S2 := S1) (x := .int y1) (y := .int 2305843009213693951) rfl rfl (modI_ok S1 (by decide))) (bin_ok (S1 := S1) (S2 := S1) (x := .int 2971215073) rfl (j2 _) (mulI_ok S1 (okMul_l (by decide)))) rfl
    have hy2 : y2.natAbs < 2 ^ 4000 := by
      refine lt_big ?_
      have u1 : 0 ≤ y1 % 2305843009213693951 := Int.emod_nonneg _ (by decide)
      have u2 : y1 % 2305843009213693951 < 2305843009213693951 := Int.emod_lt_of_pos _ (by decide)
      have : y2.natAbs < 2 ^ 80 := by show (y1 % 2305843009213693951 + 2971215073 * (d + 1)).natAbs < _; omega
      exact Nat.lt_trans this (by decide)
    let y3 : Int := y2 ^ 3 % 618970019642690137449562111
    have e4 : mBin oModI (mBlt gInt [mBin oPowI (mName 3) (mC (.int 3))]) (mC (.int 618970019642690137449562111)) ((r0.set 3 (some (.int y1))).set 3 (some (.int y2))) S1 = .ok (.int y3) S1 :=
      bin_ok (S1 := S1) (S2 := S1) (x := .int (y2 ^ 3)) (y := .int 618970019642690137449562111) (blt_ok (S1 := S1) (x := .int (y2 ^ 3)) (bin_ok (S1 := S1) (S2 := S1) (x := .int y2) (y := .int 3) rfl rfl (pow3_ok S1 hy2)) rfl) rfl (modI_ok S1 (by decide))
    have e5 : mBin oModI (mBlt gInt [mBin oDivI (mName 3) (mC (.int 131072))]) (mName 1) (((r0.set 3 (some (.int y1))).set 3 (some (.int y2))).set 3 (some (.int y3))) S1 = .ok (.int (y3 / 131072 % m)) S1 :=
      bin_ok (S1 := S1) (S2 := S1) (x := .int (y3 / 131072)) (y := .int m) (blt_ok (S1 := S1) (x := .int (y3 / 131072)) (bin_ok (S1 := S1) (S2 := S1) (x := .int y3) (y := .int 131072) rfl rfl (divI_ok S1 (okDiv_of (by decide) (lt_big (by decide))))) rfl) rfl (modI_ok S1 hm)
    refine ⟨y3 / 131072 % m, S1, def_ok (blk_nxt (st_skip et) (blk_nxt e1 (blk_nxt (st_set e2) (blk_nxt (st_set e3) (blk_nxt (st_set e4) (blk_ret (st_ret e5))))))) (by show (S.set n _).length = _; rw [List.length_set]), Int.emod_nonneg _ (by omega), Int.emod_lt_of_pos _ hm,
      ⟨a, b, d + 1, h1, ha, hb0, hb1, by omega, by omega⟩, by show (S.set n _).length = _; rw [List.length_set]⟩
theorem powI_ok {i j : Int} (S : So) (h0 : 0 ≤ j) (h1 : j ≤ 100) (h : i.natAbs < 2 ^ 200) : oPowI (.int i) (.int j) S = .ok (.int (i ^ j.toNat)) S := by
  refine if_pos ?_
  unfold okPow
  rw [decide_eq_true h0, decide_eq_true h1, decide_eq_true (lt_big h)]
  rfl
theorem call2 {g : DF} {m1 m2 : ME} {r : En} {S S1 S2 : So} {x y : MV} {z : Mi.R MV} (h1 : m1 r S = .ok x S1) (h2 : m2 r S1 = .ok y S2) (w : g [x, y] S2 = z) : mCall g [] [m1, m2] r S = z := call_ok (args2 h1 h2) w
theorem call1 {g : DF} {m1 : ME} {r : En} {S S1 : So} {x : MV} {z : Mi.R MV} (h1 : m1 r S = .ok x S1) (w : g [x] S1 = z) : mCall g [] [m1] r S = z := call_ok (args1 h1) w
theorem if_nxt {t : MT} {a b : MS} {r : En} {S S1 : So} (h : t r S = .ok true S1) : sIf t a b r S = a r S1 := by
  unfold sIf
  rw [h]
  rfl
theorem blk_one {a : MS} {r r' : En} {S S' : So} (h : a r S = .nxt r' S') : sBlk [a] r S = .nxt r' S' := blk_nxt' h rfl
theorem eqI (i j : Int) (S : So) : gEqS (.int i) (.int j) S = .ok (.bl (decide (i = j))) S := rfl
theorem def_keep {n : Nat} {b : MS} {xs : List MV} {S S' : So} {x : MV} (h : (b (en0 n xs) S).fin = .ok x S') (hl : MV.lt S.length x = false) : runDef n b xs S = .ok x S' := by
  unfold runDef
  rw [h]
  exact trim_keep _ _ _ hl
theorem well_fig (ns : List Int) (k : Nat) (S : So) : ∃ f : Int, ∀ r : En, mName 0 r S = .ok (.scr (imv ns)) S → mName 1 r S = .ok (.int k) S → (k < ns.length → mBin ixM (mName 0) (mName 1) r S = .ok (.int f) S) ∧ (¬ k < ns.length → f = 0) := by
  by_cases h : k < ns.length
  · refine ⟨ns[k], fun r q0 q1 => ⟨fun _ => bin_ok q0 q1 ?_, fun z => absurd h z⟩⟩
    have e : atI (imv ns) (k : Int) = some (.int ns[k]) := L2.atI_nat (by rw [List.getElem?_map, List.getElem?_eq_getElem h]; rfl)
    simp only [ixM, seqOf]
    rw [e]
  · exact ⟨0, fun r q0 q1 => ⟨fun z => absurd z h, fun _ => rfl⟩⟩
theorem L_well (S : So) (ns : List Int) (k : Nat) (hk : k ≤ 23) : ∃ S', f__law_well [.scr (imv ns), .int k] S = .ok (.ref S.length) S' ∧ Wl S' S.length 0 ∧ S'.length = S.length + 1 := by
  obtain ⟨f, hf⟩ := well_fig ns k S
  let r0 : En := en0 4 [.scr (imv ns), .int k]
  let r1 : En := r0.set 2 (some (.int 0))
  obtain ⟨f1, f2⟩ := hf r1 rfl rfl
  let r2 : En := r0.set 2 (some (.int f))
  have et : tVal (mBin oLtI (mName 1) (mBlt gLen [mName 0])) r1 S = .ok (decide ((k : Int) < (imv ns).length)) S := val_b (bin_ok (S1 := S) (S2 := S) (x := .int k) (y := .int (imv ns).length) rfl rfl rfl)
  have hlen : (imv ns).length = ns.length := List.length_map _
  have e1 : sIf (tVal (mBin oLtI (mName 1) (mBlt gLen [mName 0]))) (sBlk [sAsg (gN 2) (mBin ixM (mName 0) (mName 1))]) (sBlk []) r1 S = .nxt r2 S := by
    by_cases h : k < ns.length
    · rw [decide_eq_true (by rw [hlen]; omega)] at et
      exact (if_nxt et).trans (blk_one (st_set (f1 h)))
    · rw [decide_eq_false (by rw [hlen]; omega)] at et
      rw [st_skip et]
      have := f2 h
      subst this
      rfl
  let fa : Int := if f < 0 then -f else f
  let fb : Int := if decide (f < 0) = true then 1 else 0
  have e2 : mBin oModI (mBlt gInt [mBin oAddI (mBin oMulI (mBlt gAbs [mName 2]) (mC (.int 2))) (mBlt gInt [mBin oLtI (mName 2) (mC (.int 0))])]) (mC (.int 2305843009213693951)) r2 S = .ok (.int ((fa * 2 + fb) % 2305843009213693951)) S :=
    bin_ok (S1 := S) (S2 := S) (x := .int (fa * 2 + fb)) (y := .int 2305843009213693951) (blt_ok (S1 := S) (x := .int (fa * 2 + fb)) (bin_ok (S1 := S) (S2 := S) (x := .int (fa * 2)) (y := .int fb) (bin_ok (S1 := S) (S2 := S) (x := .int fa) (y := .int 2) rfl rfl (mulI_ok S (okMul_r (by decide)))) rfl rfl) rfl) rfl (modI_ok S (by decide))
  let sd : Int := (fa * 2 + fb) % 2305843009213693951
  let r3 : En := r2.set 3 (some (.int sd))
  let fg : Int := if decide (1000000000000000000 ≤ f) = true then 1 else 0
  have e18 : mBin oPowI (mC (.int 10)) (mC (.int 18)) r3 S = .ok (.int 1000000000000000000) S := bin_ok (S1 := S) (S2 := S) (x := .int 10) (y := .int 18) rfl rfl (powI_ok S (by decide) (by decide) (by decide))
  have g1 : mBin oMulI (mName 2) (mBlt gInt [mBin oGeI (mName 2) (mBin oPowI (mC (.int 10)) (mC (.int 18)))]) r3 S = .ok (.int (f * fg)) S :=
    bin_ok (S1 := S) (S2 := S) (x := .int f) (y := .int fg) rfl (blt_ok (S1 := S) (x := .bl (decide (1000000000000000000 ≤ f))) (bin_ok (S1 := S) (S2 := S) (x := .int f) rfl e18 rfl) rfl) (mulI_ok S (okMul_r (by
      show fg.natAbs < _
      have : fg = 0 ∨ fg = 1 := by
        cases e : decide (1000000000000000000 ≤ f) with
        | true => exact .inr (by show (if decide (1000000000000000000 ≤ f) = true then (1 : Int) else 0) = 1; rw [e]; rfl)
        | false => exact .inl (by show (if decide (1000000000000000000 ≤ f) = true then (1 : Int) else 0) = 0; rw [e]; rfl)
      rcases this with e | e <;> rw [e] <;> decide)))
  have g2 : mBin oAddI (mName 3) (mBin oMulI (mC (.int 1000003)) (mName 1)) r3 S = .ok (.int (sd + 1000003 * k)) S :=
    bin_ok (S1 := S) (S2 := S) (x := .int sd) (y := .int (1000003 * k)) rfl (bin_ok (S1 := S) (S2 := S) (x := .int 1000003) (y := .int k) rfl rfl (mulI_ok S (okMul_l (by decide)))) rfl
  have g3 : mC (.int 0) r3 S = .ok (.int 0) S := rfl
  let S' : So := S ++ [.lst [.int (f * fg), .int (sd + 1000003 * k), .int 0]]
  have e3 : mLstM [mBin oMulI (mName 2) (mBlt gInt [mBin oGeI (mName 2) (mBin oPowI (mC (.int 10)) (mC (.int 18)))]), mBin oAddI (mName 3) (mBin oMulI (mC (.int 1000003)) (mName 1)), mC (.int 0)] r3 S = .ok (.ref S.length) S' := by
    simp only [mLstM, mArgs, aCons, aNil, g1, g2, g3, R.bind_ok]
    rfl
  have s0 : 0 ≤ sd := Int.emod_nonneg _ (by decide)
  have s1 : sd < 2305843009213693951 := Int.emod_lt_of_pos _ (by decide)
  refine ⟨S', def_keep (blk_nxt (st_set (S' := S) (x := .int 0) rfl) (blk_nxt e1 (blk_nxt (st_set e2) (blk_ret (st_ret e3))))) (decide_eq_false (Nat.lt_irrefl _)), ⟨f * fg, sd + 1000003 * k, 0, at_end _ _, ?_, by omega, by omega, Int.le_refl _, by omega⟩, by show (S ++ [_]).length = _; rw [List.length_append]; rfl⟩
  show 0 ≤ f * (if decide (1000000000000000000 ≤ f) = true then (1 : Int) else 0)
  split
  · rename_i h
    have := of_decide_eq_true h
    omega
  · omega
theorem T_take {S : So} {n c : Nat} {m : Int} (w : Wl S n c) (hm : 0 < m) (hc : c < 1000000000 := by omega) (hb : m.natAbs < 2 ^ 200 := by decide) :
    wp (f__law_take [.ref n, .int m] S) (fun y S' => ∃ t, y = .int t ∧ 0 ≤ t ∧ t < m ∧ Wl S' n (c + 1) ∧ S'.length = S.length) noE := by
  obtain ⟨t, S', e, h1, h2, h3, h4⟩ := L_take w hc hm hb
  rw [e]
  exact ⟨t, rfl, h1, h2, h3, h4⟩
theorem T_well (S : So) (ns : List Int) (k : Nat) (hk : k ≤ 23) : wp (f__law_well [.scr (imv ns), .int k] S) (fun y S' => y = .ref S.length ∧ Wl S' S.length 0 ∧ S'.length = S.length + 1) noE := by
  obtain ⟨S', e, h1, h2⟩ := L_well S ns k hk
  rw [e]
  exact ⟨rfl, h1, h2⟩

end Q2

set_option maxHeartbeats 4000000
set_option exponentiation.threshold 5000
namespace Q2
open PySem PySem.Spec PyProof.Rows L2 Mi

abbrev abc : PySem.Str := "abcdefghijklmnopqrstuvwxyz"
def goodN (x : PySem.Str) : Prop := (1 ≤ x.length ∧ x.length ≤ 8) ∧ ∀ k ∈ x.cps.toList, k ∈ abc.cps.toList
theorem all_true {α : Type} : ∀ l : List α, blsOf (l.map fun _ => MV.bl true) = some (l.map fun _ => true)
  | [] => rfl
  | _ :: l => by
    show (blsOf (l.map fun _ => MV.bl true)).map (true :: ·) = _
    rw [all_true l]; rfl
theorem len_signs (x : PySem.Str) : (signsM x).length = x.length := by simp [signsM, PySem.Str.length]
theorem L_check (S : So) (x : PySem.Str) (h : goodN x) : f_check_name [.str x] S = .ok .non S := by
  obtain ⟨⟨h1, h2⟩, h3⟩ := h
  refine wp_is (wp_def ?_)
  have e : lcL [1] (gN 1) tYesM (mBin gInSign (mName 1) (mC (.str "abcdefghijklmnopqrstuvwxyz"))) (signsM x) [some (.str x), none] S = .ok ((signsM x).map fun _ => .bl true) S := by
    refine lc_map _ _ fun y hy => ?_
    obtain ⟨k, hk, rfl⟩ := List.mem_map.mp hy
    show Mi.R.ok (MV.bl (decide (k ∈ abc.cps.toList))) S = _
    rw [decide_eq_true (h3 k hk)]
  have ea : gAll [.lst ((signsM x).map fun _ => .bl true)] S = .ok (.bl true) S := by
    show (match blsOf ((signsM x).map fun _ => MV.bl true) with
      | some bs => Mi.R.ok (MV.bl (bs.all id)) S
      | none => .bad) = _
    rw [all_true]
    simp
  have hz : x.length ≤ SZ := Nat.le_trans h2 (by decide)
  have l1 : (1 : Int) ≤ (x.length : Int) := by omega
  have l2 : (x.length : Int) ≤ 8 := by omega
  have l3 : (signsM x).length ≤ SZ := by rw [len_signs]; exact hz
  simp only [wp_ok, wp_exc, wp_bad, wp_mC, nm0, nm1, nm2, nm3, nm4, nm5, nm6, nm7, nm8, nm9, nm10, nm11, nm12, nm13, nm14, nm15, wp_nil, k3, k2, w_bin, kc, ka, w_cons, kt, w_tup, kl, w_lst, klM, w_lstM, kf, w_frz, kg, w_call, kkB, kkA, w_callK, kb, w_blt, kv, w_val, kn, w_not, kan_t, kan_f, w_and, kor_t, kor_f, w_or, knn, w_mnot, kma_t, kma_f, w_mand, kmo_t, kmo_f, w_mor, kmi_t, kmi_f, w_mif, kfl, w_fld, kpr, w_prop, kis, w_isi, kng, w_neg, kiv, w_inv, kmB, kmA, w_meth, knC, knB, knA, w_methK, kq, w_eqC, w_neC, kcp, w_capI, klc, w_lc, ksq_l, ksq_t, ksq_s, w_seq, krg, w_rng, kst, w_str, kjB, kjA, w_join, ksC, ksB, ksA, w_sl, wp_oNone, kso, w_some, khC, khD_t, khD_f, khB, khA, w_ch, ws_nil, s_cons, kx, kk, ke, s_exp, s_ret, ws_sRetN, ki_t, ki_f, s_if, ks, s_set, kpB, kpA, s_par, kfo, s_for, ws_for0, kr, s_raise, s_try, kat, s_asgT, kaL, s_asgL, gTs_nil, gTs_cons, ws_nxt, ws_ret, wp_own, wp_ownR, oAdd, oSub, oLt, oLe, oGt, oGe, wp_mul, wp_div, wp_mod, wp_pow, gAbs_i, gInt_i, gInt_b, gMax_i, gMin_i, gEqS_i, gNeS_i, gEqS_s, gNeS_s, gEqS_b, gNeS_b, wp_len, len_lst, len_tup, len_scr, ix_l0, ix_t0, ix_t1, ix_t2, en0, List.map_cons, List.map_nil, List.length_cons, List.length_nil, List.cons_append, List.nil_append, List.append_nil, List.replicate_zero, List.reduceReplicate, Nat.reduceAdd, Nat.reduceSub, Nat.zero_add, List.set_cons_zero, List.set_cons_succ, MV.tup.injEq, MV.int.injEq, MV.str.injEq, MV.lst.injEq, MV.bl.injEq, exists_eq_left', exists_eq_left, Option.some.injEq, decide_eq_true_eq, Bool.not_eq_true', decide_eq_false_iff_not, if_true, if_false, Bool.false_eq_true, and_true, true_and, eq_self, decide_true, decide_false, Bool.not_true, Bool.not_false, reduceIte, not_true_eq_false, not_false_eq_true, Bool.true_eq_false, Int.reduceEq, Int.reduceLT, Int.reduceLE, Int.reduceAdd, Int.reduceSub, Int.reduceMul, Int.reduceNeg, Int.reducePow, Int.reduceToNat, Int.reduceNe, ofS, String.reduceEq, in_one, in_two, in_twoI, Nat.reduceLT, Nat.reduceLeDiff, or_self, or_false, false_or, true_or, or_true, and_false, false_and, and_self, pm01, kl1, w_lc1, w_lc0, wipe1, wp_cat, Bool.or_true, Bool.or_false, Bool.true_or, Bool.false_or, Bool.and_true, Bool.and_false, Bool.true_and, Bool.false_and, e, ea, hz, l1, l2, l3]
theorem L_cell (S : So) (x : PySem.Str) (h : goodN x) : f_cell [.str x] S = .ok (Vt.cell x).mv S := by
  have h' : mArgs [mC (.str "cell"), mTup [mName 0], mTup [mName 0]] [some (.str x)] S = .ok [.str "cell", .tup [.str x], .tup [.str x]] S := rfl
  have h0 : mCall f_check_name [] [mName 0] [some (.str x)] S = .ok .non S := (show _ = f_check_name [.str x] S from rfl).trans (L_check S x h)
  refine def_one (u := .dead) ?_ (by simp [MV.lt, MV.lts, Vt.mv])
  show ((sBlk [sExp (mCall f_check_name [] [mName 0]), sRet (mFrz (mTrim (mMake "Value" f_Value___init__ [] [mC (.str "cell"), mTup [mName 0], mTup [mName 0]])))] [some (.str x)] S).fin) = _
  simp only [sBlk, sSeq, sExp, sRet, h0, make_ok h' (Nat.le_refl _), R.to_ok, SR.fin]
  rfl
theorem toD_strs (k : Nat) (S : So) : ∀ l : List PySem.Str, allSome ((smv l).map (toD (k + 1) S)) = some (l.map PyData.str)
  | [] => rfl
  | i :: l => by
    show (allSome ((smv l).map (toD (k + 1) S))).map (PyData.str i :: ·) = _
    rw [toD_strs k S l]
    rfl
theorem strOk_good {x : PySem.Str} (h : goodN x) : PyData.strOk x = true := by
  unfold PyData.strOk
  rw [← Array.all_toList]
  refine List.all_eq_true.mpr fun k hk => ?_
  have := h.2 k hk
  have h2 : ∀ k ∈ abc.cps.toList, decide (k < 0x110000) = true := by decide +kernel
  exact h2 k this
theorem lay_strs : ∀ l : List PySem.Str, (∀ x ∈ l, goodN x) → PyData.canLayAll0 (l.map PyData.str) = true ∧ PyData.depthAll (l.map PyData.str) ≤ 1
  | [], _ => ⟨rfl, by decide⟩
  | x :: l, h => by
    obtain ⟨h1, h2⟩ := lay_strs l fun y hy => h y (List.mem_cons_of_mem _ hy)
    refine ⟨?_, ?_⟩
    · show (PyData.canLay0 (.str x) && PyData.canLayAll0 (l.map PyData.str)) = true
      rw [h1, Bool.and_true]
      exact strOk_good (h x List.mem_cons_self)
    · simp only [List.map_cons, PyData.depthAll, PyData.depth] at h2 ⊢
      omega
theorem shaped_strs (l : List PySem.Str) (h : ∀ x ∈ l, goodN x) : SeqAt.shaped (.list (l.map PyData.str)) = true := by
  obtain ⟨h1, h2⟩ := lay_strs l h
  unfold SeqAt.shaped
  rw [show PyData.canLay0 (.list (l.map PyData.str)) = true by simpa only [PyData.canLay0] using h1, decide_eq_true (by simp only [PyData.depth]; omega)]
  rfl
theorem eqv_strs : ∀ l m : List PySem.Str, PyData.eqvAll (l.map PyData.str) (m.map PyData.str) = decide (l = m)
  | [], [] => by simp [PyData.eqvAll]
  | [], _ :: _ => by simp [PyData.eqvAll]
  | _ :: _, [] => by simp [PyData.eqvAll]
  | x :: l, y :: m => by
    show (PyData.eqv (.str x) (.str y) && PyData.eqvAll (l.map PyData.str) (m.map PyData.str)) = _
    rw [eqv_strs l m]
    by_cases h : x = y <;> by_cases h' : l = m <;> simp [h, h', PyData.eqv]
theorem eqD_strs (l m : List PySem.Str) (S : So) (h : ∀ x ∈ l, goodN x) (h' : ∀ x ∈ m, goodN x) : gEqD (.lst (smv l)) (.lst (smv m)) S = .ok (.bl (decide (l = m))) S := by
  have e1 : ∀ l, toD DF0 S (.lst (smv l)) = some (.list (l.map PyData.str)) := fun l => by
    show (allSome ((smv l).map (toD 11 S))).map PyData.list = _
    rw [toD_strs 10 S l]
    rfl
  unfold gEqD
  rw [e1, e1]
  simp only
  rw [if_pos ⟨shaped_strs l h, shaped_strs m h'⟩]
  rw [show PyData.eqv (.list (l.map PyData.str)) (.list (m.map PyData.str)) = PyData.eqvAll (l.map PyData.str) (m.map PyData.str) by simp only [PyData.eqv], eqv_strs]

theorem lc_strs {vs : List Nat} {i : Nat} {m : ME} {r : En} {S : So} (P : PySem.Str → Prop) : ∀ xs : List MV, (∀ x ∈ xs, ∃ z, P z ∧ m ((wipeM r vs).set i (some x)) S = .ok (.str z) S) → ∃ l, lcL vs (gN i) tYesM m xs r S = .ok (smv l) S ∧ l.length = xs.length ∧ ∀ z ∈ l, P z
  | [], _ => ⟨[], rfl, rfl, fun z h => by cases h⟩
  | x :: xs, h => by
    obtain ⟨z, hz, e⟩ := h x List.mem_cons_self
    obtain ⟨l, e2, hl, hp⟩ := lc_strs P xs fun y hy => h y (List.mem_cons_of_mem _ hy)
    refine ⟨z :: l, ?_, by rw [List.length_cons, List.length_cons, hl], fun y hy => ?_⟩
    · show (nx (m ((wipeM r vs).set i (some x)) S)).bind (fun y S => (lcL vs (gN i) tYesM m xs r S).bind fun ys S => .ok (y :: ys) S) = _
      rw [e]
      simp only [nx, R.bind_ok, e2, List.map_cons]
    · rcases List.mem_cons.mp hy with rfl | hy
      · exact hz
      · exact hp y hy
theorem rng_mem {n : Nat} {x : MV} (h : x ∈ rngM 0 n) : ∃ j : Nat, j < n ∧ x = .int j := by
  obtain ⟨j, hj, rfl⟩ := List.mem_map.mp h
  exact ⟨j, List.mem_range.mp hj, by rw [Int.zero_add]⟩
theorem rng_len (n : Nat) : (rngM 0 n).length = n := by simp [rngM]
theorem rep_toList (n : Nat) (a : Array Nat) : ∀ acc : Array Nat, ∀ k ∈ ((List.replicate n a).foldl (· ++ ·) acc).toList, k ∈ acc.toList ∨ k ∈ a.toList := by
  induction n with
  | zero => intro acc k h; exact .inl (by simpa using h)
  | succ n ih =>
    intro acc k h
    rw [List.replicate_succ, List.foldl_cons] at h
    rcases ih (acc ++ a) k h with h | h
    · rw [Array.toList_append] at h
      exact (List.mem_append.mp h)
    · exact .inr h
theorem good_rep {c : Nat} (hc : c ∈ abc.cps.toList) {n : Nat} (h1 : 1 ≤ n) (h2 : n ≤ 8) : goodN (repS ⟨#[c]⟩ n) := by
  have hl : (repS ⟨#[c]⟩ n).length = n := by
    show (repS ⟨#[c]⟩ n).cps.size = n
    rw [show (repS ⟨#[c]⟩ n).cps.size = _ from rep_size n #[c] #[]]
    simp
  refine ⟨⟨by omega, by omega⟩, fun k hk => ?_⟩
  rcases rep_toList n #[c] #[] k hk with h | h
  · cases h
  · have : k = c := by simpa using h
    rw [this]; exact hc
abbrev words12 : List PySem.Str := ["put", "when", "answer", "else", "own", "common", "kind", "mod", "argument", "passed", "names", "held"]
theorem good_words : ∀ x ∈ words12, goodN x := by
  have h : ∀ x ∈ words12, (1 ≤ x.length ∧ x.length ≤ 8) ∧ (x.cps.toList.all fun k => decide (k ∈ abc.cps.toList)) = true := by decide +kernel
  intro x hx
  exact ⟨(h x hx).1, fun k hk => of_decide_eq_true (List.all_eq_true.mp (h x hx).2 k hk)⟩
theorem len_abc : abc.length = 26 := by decide +kernel
/-- one letter -/
def one1 (x : PySem.Str) : Prop := x.length = 1 ∧ ∀ k ∈ x.cps.toList, k ∈ abc.cps.toList
theorem join_ones : ∀ l : List PySem.Str, (∀ x ∈ l, one1 x) → (Txt.join "" l).length = l.length ∧ ∀ k ∈ (Txt.join "" l).cps.toList, k ∈ abc.cps.toList
  | [], _ => ⟨rfl, fun k hk => by cases hk⟩
  | [x], h => ⟨(h x List.mem_cons_self).1, (h x List.mem_cons_self).2⟩
  | x :: y :: l, h => by
    obtain ⟨h1, h2⟩ := join_ones (y :: l) fun z hz => h z (List.mem_cons_of_mem _ hz)
    obtain ⟨h3, h4⟩ := h x List.mem_cons_self
    rw [TL.join_eq] at h1 h2 ⊢
    have e : PySem.Str.join "" (x :: y :: l) = x ++ "" ++ PySem.Str.join "" (y :: l) := rfl
    have e2 : (PySem.Str.join "" (x :: y :: l)).cps.toList = x.cps.toList ++ (PySem.Str.join "" (y :: l)).cps.toList := by
      rw [e]
      show ((x.cps ++ (PySem.Str.ofString "").cps) ++ (PySem.Str.join "" (y :: l)).cps).toList = _
      rw [Array.toList_append, Array.toList_append, show (PySem.Str.ofString "").cps.toList = [] from by decide +kernel, List.append_nil]
    refine ⟨?_, fun k hk => ?_⟩
    · have h5 : (PySem.Str.join "" (x :: y :: l)).cps.toList.length = x.cps.toList.length + (PySem.Str.join "" (y :: l)).cps.toList.length := by rw [e2, List.length_append]
      have h6 : ∀ z : PySem.Str, z.cps.toList.length = z.length := fun z => by simp [PySem.Str.length]
      rw [h6, h6, h6, h3, h1] at h5
      rw [h5, List.length_cons (a := x)]
      omega
    · rw [e2] at hk
      rcases List.mem_append.mp hk with hk | hk
      · exact h4 k hk
      · exact h2 k hk
theorem str_len (z : PySem.Str) : z.cps.toList.length = z.length := by simp [PySem.Str.length]
theorem addS {i j : PySem.Str} (S : So) (h : i.length + j.length ≤ SZ) : gAddS (.str i) (.str j) S = .ok (.str (i ++ j)) S := if_pos h
/-- base[:spot] + c + base[spot + 1:] -/
theorem good_cut (b : PySem.Str) (c : Nat) (j : Nat) (hb : goodN b) (hc : c ∈ abc.cps.toList) (hj : j < b.length) (S : So) :
    ∃ x y z, slM (.str b) none (some (j : Int)) S = .ok (.str x) S ∧ slM (.str b) (some ((j : Int) + 1)) none S = .ok (.str y) S ∧ gAddS (.str x) (.str ⟨#[c]⟩) S = .ok (.str z) S ∧ gAddS (.str z) (.str y) S = .ok (.str (z ++ y)) S ∧ goodN (z ++ y) := by
  obtain ⟨⟨b1, b2⟩, b3⟩ := hb
  have hz : b.length ≤ SZ := Nat.le_trans b2 (by decide)
  have hx : (cutS b none (some (j : Int))).cps.toList = b.cps.toList.take j := by
    show ((b.cps.toList.drop (HT.sIx b.length 0 none)).take (HT.sIx b.length b.length (some (j : Int)) - HT.sIx b.length 0 none)).toArray.toList = _
    rw [HT.sIx_none, HT.sIx_nat]
    simp
    omega
  have hy : (cutS b (some ((j : Int) + 1)) none).cps.toList = b.cps.toList.drop (j + 1) := by
    show ((b.cps.toList.drop (HT.sIx b.length 0 (some ((j : Int) + 1)))).take (HT.sIx b.length b.length none - HT.sIx b.length 0 (some ((j : Int) + 1)))).toArray.toList = _
    rw [HT.sIx_none, show ((j : Int) + 1) = ((j + 1 : Nat) : Int) by omega, HT.sIx_nat]
    have : min (j + 1) b.length = j + 1 := by omega
    rw [this]
    rw [List.take_of_length_le]
    rw [List.length_drop, str_len]
    exact Nat.le_refl _
  have lx : (cutS b none (some (j : Int))).length = j := by
    rw [← str_len, hx, List.length_take, str_len]; omega
  have ly : (cutS b (some ((j : Int) + 1)) none).length = b.length - (j + 1) := by
    rw [← str_len, hy, List.length_drop, str_len]
  have hcat : ∀ p q : PySem.Str, (p ++ q).cps.toList = p.cps.toList ++ q.cps.toList := fun p q => by
    show (p.cps ++ q.cps).toList = _
    rw [Array.toList_append]
  have lcat : ∀ p q : PySem.Str, (p ++ q).length = p.length + q.length := fun p q => by
    rw [← str_len, hcat, List.length_append, str_len, str_len]
  have l1 : (⟨#[c]⟩ : PySem.Str).length = 1 := rfl
  refine ⟨cutS b none (some (j : Int)), cutS b (some ((j : Int) + 1)) none, cutS b none (some (j : Int)) ++ ⟨#[c]⟩, if_pos hz, if_pos hz, addS S (by rw [lx, l1]; show j + 1 ≤ 16777216; omega), addS S (by rw [lcat, lx, l1, ly]; show j + 1 + (b.length - (j + 1)) ≤ 16777216; omega), ⟨by rw [lcat, lcat, lx, l1, ly]; omega, by rw [lcat, lcat, lx, l1, ly]; omega⟩, fun k hk => ?_⟩
  rw [hcat, hcat] at hk
  rcases List.mem_append.mp hk with hk | hk
  · rcases List.mem_append.mp hk with hk | hk
    · rw [hx] at hk
      exact b3 k (List.mem_of_mem_take hk)
    · have : k = c := by simpa using hk
      rw [this]; exact hc
  · rw [hy] at hk
    exact b3 k (List.mem_of_mem_drop hk)
abbrev ceE (w : Nat) (many way at_ : Int) : En := [some (.ref w), some (.int many), some (.str abc), some (.int way), some (.int at_), none, none, none, none, none, none]
theorem b62 (n : Nat) (h : n ≤ 64) : -B62 ≤ (n : Int) ∧ (n : Int) < B62 := by
  have : (64 : Int) < B62 := by decide
  have : -B62 ≤ 0 := by decide
  omega
theorem repI (k j : Nat) (S : So) (hj : j ≤ 100) : gRepS (.str ⟨#[k]⟩) (.int ((j : Int) + 1)) S = .ok (.str (repS ⟨#[k]⟩ (j + 1))) S := by
  have e1 : ((j : Int) + 1).toNat = j + 1 := by omega
  unfold gRepS
  simp only
  rw [if_pos, e1]
  refine ⟨⟨by omega, by omega⟩, ?_⟩
  rw [e1, show (⟨#[k]⟩ : PySem.Str).length = 1 from rfl]
  have : SZ = 16777216 := rfl
  omega
theorem cells0 (w : Nat) (way : Int) (many : Nat) (hm : many ≤ 8) (at_ : Int) (a0 : 0 ≤ at_) (a1 : at_ < 26) (S : So) : ∃ l, lcL [9] (gN 9) tYesM (mBin gRepS (mBin ixM (mName 2) (mName 4)) (mBin oAddI (mName 9) (mC (.int 1)))) (rngM 0 many) (ceE w many way at_) S = .ok (smv l) S ∧ l.length = many ∧ ∀ z ∈ l, goodN z := by
  have hab : abc.length ≤ SZ := by rw [len_abc]; exact Nat.le_of_ble_eq_true rfl
  obtain ⟨k, hk, ek⟩ := ixS abc at_ S hab a0 (by rw [len_abc]; omega)
  obtain ⟨l, e, hl, hp⟩ := lc_strs (vs := [9]) (i := 9) (m := mBin gRepS (mBin ixM (mName 2) (mName 4)) (mBin oAddI (mName 9) (mC (.int 1)))) (r := ceE w many way at_) (S := S) goodN (rngM 0 many) (fun x hx => by
    obtain ⟨j, hj, rfl⟩ := rng_mem hx
    refine ⟨repS ⟨#[k]⟩ (j + 1), good_rep hk (by omega) (by omega), wp_is ?_⟩
    have eg := repI k j S (by omega)
    show wp (mBin gRepS (mBin ixM (mName 2) (mName 4)) (mBin oAddI (mName 9) (mC (.int 1))) [some (.ref w), some (.int many), some (.str abc), some (.int way), some (.int at_), none, none, none, none, some (.int j), none] S) _ _
    simp only [wp_ok, wp_exc, wp_bad, wp_mC, nm0, nm1, nm2, nm3, nm4, nm5, nm6, nm7, nm8, nm9, nm10, nm11, nm12, nm13, nm14, nm15, wp_nil, k3, k2, w_bin, kc, ka, w_cons, kt, w_tup, kl, w_lst, klM, w_lstM, kf, w_frz, kg, w_call, kkB, kkA, w_callK, kb, w_blt, kv, w_val, kn, w_not, kan_t, kan_f, w_and, kor_t, kor_f, w_or, knn, w_mnot, kma_t, kma_f, w_mand, kmo_t, kmo_f, w_mor, kmi_t, kmi_f, w_mif, kfl, w_fld, kpr, w_prop, kis, w_isi, kng, w_neg, kiv, w_inv, kmB, kmA, w_meth, knC, knB, knA, w_methK, kq, w_eqC, w_neC, kcp, w_capI, klc, w_lc, ksq_l, ksq_t, ksq_s, w_seq, krg, w_rng, kst, w_str, kjB, kjA, w_join, ksC, ksB, ksA, w_sl, wp_oNone, kso, w_some, khC, khD_t, khD_f, khB, khA, w_ch, ws_nil, s_cons, kx, kk, ke, s_exp, s_ret, ws_sRetN, ki_t, ki_f, s_if, ks, s_set, kpB, kpA, s_par, kfo, s_for, ws_for0, kr, s_raise, s_try, kat, s_asgT, kaL, s_asgL, gTs_nil, gTs_cons, ws_nxt, ws_ret, wp_own, wp_ownR, oAdd, oSub, oLt, oLe, oGt, oGe, wp_mul, wp_div, wp_mod, wp_pow, gAbs_i, gInt_i, gInt_b, gMax_i, gMin_i, gEqS_i, gNeS_i, gEqS_s, gNeS_s, gEqS_b, gNeS_b, wp_len, len_lst, len_tup, len_scr, ix_l0, ix_t0, ix_t1, ix_t2, en0, List.map_cons, List.map_nil, List.length_cons, List.length_nil, List.cons_append, List.nil_append, List.append_nil, List.replicate_zero, List.reduceReplicate, Nat.reduceAdd, Nat.reduceSub, Nat.zero_add, List.set_cons_zero, List.set_cons_succ, MV.tup.injEq, MV.int.injEq, MV.str.injEq, MV.lst.injEq, MV.bl.injEq, exists_eq_left', exists_eq_left, Option.some.injEq, decide_eq_true_eq, Bool.not_eq_true', decide_eq_false_iff_not, if_true, if_false, Bool.false_eq_true, and_true, true_and, eq_self, decide_true, decide_false, Bool.not_true, Bool.not_false, reduceIte, not_true_eq_false, not_false_eq_true, Bool.true_eq_false, Int.reduceEq, Int.reduceLT, Int.reduceLE, Int.reduceAdd, Int.reduceSub, Int.reduceMul, Int.reduceNeg, Int.reducePow, Int.reduceToNat, Int.reduceNe, ofS, String.reduceEq, in_one, in_two, in_twoI, Nat.reduceLT, Nat.reduceLeDiff, or_self, or_false, false_or, true_or, or_true, and_false, false_and, and_self, pm01, kl1, w_lc1, w_lc0, wipe1, wp_cat, Bool.or_true, Bool.or_false, Bool.true_or, Bool.false_or, Bool.and_true, Bool.and_false, Bool.true_and, Bool.false_and, ek, eg])
  exact ⟨l, e, by rw [hl, rng_len], hp⟩
abbrev words12v : List MV := [.str "put", .str "when", .str "answer", .str "else", .str "own", .str "common", .str "kind", .str "mod", .str "argument", .str "passed", .str "names", .str "held"]
theorem cells1 (w : Nat) (way : Int) (many : Nat) (at_ : Int) (S : So) : ∃ l, lcL [9] (gN 9) tYesM (mBin ixM (mName 5) (mBin oModI (mBlt gInt [(mBin oAddI (mName 4) (mName 9))]) (mC (.int 12)))) (rngM 0 many) [some (.ref w), some (.int many), some (.str abc), some (.int way), some (.int at_), some (.lst words12v), none, none, none, none, none] S = .ok (smv l) S ∧ l.length = many ∧ ∀ z ∈ l, goodN z := by
  obtain ⟨l, e, hl, hp⟩ := lc_strs (vs := [9]) (i := 9) (m := mBin ixM (mName 5) (mBin oModI (mBlt gInt [(mBin oAddI (mName 4) (mName 9))]) (mC (.int 12)))) (r := [some (.ref w), some (.int many), some (.str abc), some (.int way), some (.int at_), some (.lst words12v), none, none, none, none, none]) (S := S) goodN (rngM 0 many) (fun x hx => by
    obtain ⟨j, hj, rfl⟩ := rng_mem hx
    obtain ⟨y, hy, ey⟩ := ixP (smv words12) ((at_ + (j : Int)) % 12) S (Int.emod_nonneg _ (by decide)) (Int.emod_lt_of_pos _ (by decide))
    obtain ⟨z, hz, rfl⟩ := List.mem_map.mp hy
    have ey : ixM (.lst words12v) (.int ((at_ + (j : Int)) % 12)) S = .ok (.str z) S := ey
    refine ⟨z, good_words z hz, wp_is ?_⟩
    show wp (mBin ixM (mName 5) (mBin oModI (mBlt gInt [(mBin oAddI (mName 4) (mName 9))]) (mC (.int 12))) [some (.ref w), some (.int many), some (.str abc), some (.int way), some (.int at_), some (.lst words12v), none, none, none, some (.int j), none] S) _ _
    simp only [wp_ok, wp_exc, wp_bad, wp_mC, nm0, nm1, nm2, nm3, nm4, nm5, nm6, nm7, nm8, nm9, nm10, nm11, nm12, nm13, nm14, nm15, wp_nil, k3, k2, w_bin, kc, ka, w_cons, kt, w_tup, kl, w_lst, klM, w_lstM, kf, w_frz, kg, w_call, kkB, kkA, w_callK, kb, w_blt, kv, w_val, kn, w_not, kan_t, kan_f, w_and, kor_t, kor_f, w_or, knn, w_mnot, kma_t, kma_f, w_mand, kmo_t, kmo_f, w_mor, kmi_t, kmi_f, w_mif, kfl, w_fld, kpr, w_prop, kis, w_isi, kng, w_neg, kiv, w_inv, kmB, kmA, w_meth, knC, knB, knA, w_methK, kq, w_eqC, w_neC, kcp, w_capI, klc, w_lc, ksq_l, ksq_t, ksq_s, w_seq, krg, w_rng, kst, w_str, kjB, kjA, w_join, ksC, ksB, ksA, w_sl, wp_oNone, kso, w_some, khC, khD_t, khD_f, khB, khA, w_ch, ws_nil, s_cons, kx, kk, ke, s_exp, s_ret, ws_sRetN, ki_t, ki_f, s_if, ks, s_set, kpB, kpA, s_par, kfo, s_for, ws_for0, kr, s_raise, s_try, kat, s_asgT, kaL, s_asgL, gTs_nil, gTs_cons, ws_nxt, ws_ret, wp_own, wp_ownR, oAdd, oSub, oLt, oLe, oGt, oGe, wp_mul, wp_div, wp_mod, wp_pow, gAbs_i, gInt_i, gInt_b, gMax_i, gMin_i, gEqS_i, gNeS_i, gEqS_s, gNeS_s, gEqS_b, gNeS_b, wp_len, len_lst, len_tup, len_scr, ix_l0, ix_t0, ix_t1, ix_t2, en0, List.map_cons, List.map_nil, List.length_cons, List.length_nil, List.cons_append, List.nil_append, List.append_nil, List.replicate_zero, List.reduceReplicate, Nat.reduceAdd, Nat.reduceSub, Nat.zero_add, List.set_cons_zero, List.set_cons_succ, MV.tup.injEq, MV.int.injEq, MV.str.injEq, MV.lst.injEq, MV.bl.injEq, exists_eq_left', exists_eq_left, Option.some.injEq, decide_eq_true_eq, Bool.not_eq_true', decide_eq_false_iff_not, if_true, if_false, Bool.false_eq_true, and_true, true_and, eq_self, decide_true, decide_false, Bool.not_true, Bool.not_false, reduceIte, not_true_eq_false, not_false_eq_true, Bool.true_eq_false, Int.reduceEq, Int.reduceLT, Int.reduceLE, Int.reduceAdd, Int.reduceSub, Int.reduceMul, Int.reduceNeg, Int.reducePow, Int.reduceToNat, Int.reduceNe, ofS, String.reduceEq, in_one, in_two, in_twoI, Nat.reduceLT, Nat.reduceLeDiff, or_self, or_false, false_or, true_or, or_true, and_false, false_and, and_self, pm01, kl1, w_lc1, w_lc0, wipe1, wp_cat, Bool.or_true, Bool.or_false, Bool.true_or, Bool.false_or, Bool.and_true, Bool.and_false, Bool.true_and, Bool.false_and, ey])
  exact ⟨l, e, by rw [hl, rng_len], hp⟩
theorem joinI (l : List PySem.Str) (S : So) (hl : l.length ≤ 100) (h : ∀ x ∈ l, one1 x) : gJoin (.str "") (.lst (smv l)) S = .ok (.str (Txt.join "" l)) S := by
  have e : ∀ l : List PySem.Str, strsOf (smv l) = some l := fun l => by
    induction l with
    | nil => rfl
    | cons x l ih =>
      show (strsOf (smv l)).map (x :: ·) = _
      rw [ih]; rfl
  have e3 : (seqOf S (.lst (smv l))).bind strsOf = some l := e l
  unfold gJoin
  rw [e3]
  simp only
  rw [if_pos]
  have s : ∀ l : List PySem.Str, (∀ x ∈ l, one1 x) → (l.map (·.length)).sum = l.length := fun l => by
    induction l with
    | nil => intro _; rfl
    | cons x l ih =>
      intro h
      rw [List.map_cons, List.sum_cons, ih fun y hy => h y (List.mem_cons_of_mem _ hy), (h x List.mem_cons_self).1, List.length_cons]
      omega
  rw [s l h, show (PySem.Str.ofString "").length = 0 from by decide +kernel]
  have : SZ = 16777216 := rfl
  omega
theorem one_let {c : Nat} (hc : c ∈ abc.cps.toList) : one1 ⟨#[c]⟩ := ⟨rfl, fun k hk => by
  have : k = c := by simpa using hk
  rw [this]; exact hc⟩
theorem cells2 (w many : Nat) (way at_ : Int) (n : Nat) (S : So) (c : Nat) (hw : Wl S w c) (hn : n ≤ 8) (hc : c < 700000000) :
    wp (lcL [10] (gN 10) tYesM (mBin ixM (mName 2) (mCall f__law_take [] [(mName 0), (mC (.int 26))])) (rngM 0 n) (ceE w many way at_) S) (fun ys S' => ∃ l, ys = smv l ∧ l.length = n ∧ (∀ x ∈ l, one1 x) ∧ Wl S' w (c + n) ∧ S'.length = S.length) noE := by
  have hab : abc.length ≤ SZ := by rw [len_abc]; exact Nat.le_of_ble_eq_true rfl
  refine wp_mono (wp_lcI (E := noE) (fun xs ys S1 => ∃ l, ys = smv l ∧ l.length + xs.length = n ∧ (∀ x ∈ l, one1 x) ∧ Wl S1 w (c + l.length) ∧ S1.length = S.length) (rngM 0 n) [] S ?_ ⟨[], rfl, (by rw [rng_len]; simp), (fun x h => nomatch h), hw, rfl⟩) ?_ (fun _ _ _ h => h)
  · rintro x xs ys S1 ⟨l, rfl, hl, hp, w1, l1⟩
    show wp (mBin ixM (mName 2) (mCall f__law_take [] [(mName 0), (mC (.int 26))]) [some (.ref w), some (.int many), some (.str abc), some (.int way), some (.int at_), none, none, none, none, none, some x] S1) _ _
    simp only [wp_ok, wp_exc, wp_bad, wp_mC, nm0, nm1, nm2, nm3, nm4, nm5, nm6, nm7, nm8, nm9, nm10, nm11, nm12, nm13, nm14, nm15, wp_nil, k3, k2, w_bin, kc, ka, w_cons, kt, w_tup, kl, w_lst, klM, w_lstM, kf, w_frz, kg, w_call, kkB, kkA, w_callK, kb, w_blt, kv, w_val, kn, w_not, kan_t, kan_f, w_and, kor_t, kor_f, w_or, knn, w_mnot, kma_t, kma_f, w_mand, kmo_t, kmo_f, w_mor, kmi_t, kmi_f, w_mif, kfl, w_fld, kpr, w_prop, kis, w_isi, kng, w_neg, kiv, w_inv, kmB, kmA, w_meth, knC, knB, knA, w_methK, kq, w_eqC, w_neC, kcp, w_capI, klc, w_lc, ksq_l, ksq_t, ksq_s, w_seq, krg, w_rng, kst, w_str, kjB, kjA, w_join, ksC, ksB, ksA, w_sl, wp_oNone, kso, w_some, khC, khD_t, khD_f, khB, khA, w_ch, ws_nil, s_cons, kx, kk, ke, s_exp, s_ret, ws_sRetN, ki_t, ki_f, s_if, ks, s_set, kpB, kpA, s_par, kfo, s_for, ws_for0, kr, s_raise, s_try, kat, s_asgT, kaL, s_asgL, gTs_nil, gTs_cons, ws_nxt, ws_ret, wp_own, wp_ownR, oAdd, oSub, oLt, oLe, oGt, oGe, wp_mul, wp_div, wp_mod, wp_pow, gAbs_i, gInt_i, gInt_b, gMax_i, gMin_i, gEqS_i, gNeS_i, gEqS_s, gNeS_s, gEqS_b, gNeS_b, wp_len, len_lst, len_tup, len_scr, ix_l0, ix_t0, ix_t1, ix_t2, en0, List.map_cons, List.map_nil, List.length_cons, List.length_nil, List.cons_append, List.nil_append, List.append_nil, List.replicate_zero, List.reduceReplicate, Nat.reduceAdd, Nat.reduceSub, Nat.zero_add, List.set_cons_zero, List.set_cons_succ, MV.tup.injEq, MV.int.injEq, MV.str.injEq, MV.lst.injEq, MV.bl.injEq, exists_eq_left', exists_eq_left, Option.some.injEq, decide_eq_true_eq, Bool.not_eq_true', decide_eq_false_iff_not, if_true, if_false, Bool.false_eq_true, and_true, true_and, eq_self, decide_true, decide_false, Bool.not_true, Bool.not_false, reduceIte, not_true_eq_false, not_false_eq_true, Bool.true_eq_false, Int.reduceEq, Int.reduceLT, Int.reduceLE, Int.reduceAdd, Int.reduceSub, Int.reduceMul, Int.reduceNeg, Int.reducePow, Int.reduceToNat, Int.reduceNe, ofS, String.reduceEq, in_one, in_two, in_twoI, Nat.reduceLT, Nat.reduceLeDiff, or_self, or_false, false_or, true_or, or_true, and_false, false_and, and_self, pm01, kl1, w_lc1, w_lc0, wipe1, wp_cat, Bool.or_true, Bool.or_false, Bool.true_or, Bool.false_or, Bool.and_true, Bool.and_false, Bool.true_and, Bool.false_and]
    rw [List.length_cons] at hl
    refine wp_use (T_take w1 (by decide)) ?_
    rintro _ S2 ⟨t2, rfl, a2, b2, w2, l2⟩
    obtain ⟨k, hk, ek⟩ := ixS abc t2 S2 hab a2 (by rw [len_abc]; omega)
    simp only [wp_ok, wp_exc, wp_bad, wp_mC, nm0, nm1, nm2, nm3, nm4, nm5, nm6, nm7, nm8, nm9, nm10, nm11, nm12, nm13, nm14, nm15, wp_nil, k3, k2, w_bin, kc, ka, w_cons, kt, w_tup, kl, w_lst, klM, w_lstM, kf, w_frz, kg, w_call, kkB, kkA, w_callK, kb, w_blt, kv, w_val, kn, w_not, kan_t, kan_f, w_and, kor_t, kor_f, w_or, knn, w_mnot, kma_t, kma_f, w_mand, kmo_t, kmo_f, w_mor, kmi_t, kmi_f, w_mif, kfl, w_fld, kpr, w_prop, kis, w_isi, kng, w_neg, kiv, w_inv, kmB, kmA, w_meth, knC, knB, knA, w_methK, kq, w_eqC, w_neC, kcp, w_capI, klc, w_lc, ksq_l, ksq_t, ksq_s, w_seq, krg, w_rng, kst, w_str, kjB, kjA, w_join, ksC, ksB, ksA, w_sl, wp_oNone, kso, w_some, khC, khD_t, khD_f, khB, khA, w_ch, ws_nil, s_cons, kx, kk, ke, s_exp, s_ret, ws_sRetN, ki_t, ki_f, s_if, ks, s_set, kpB, kpA, s_par, kfo, s_for, ws_for0, kr, s_raise, s_try, kat, s_asgT, kaL, s_asgL, gTs_nil, gTs_cons, ws_nxt, ws_ret, wp_own, wp_ownR, oAdd, oSub, oLt, oLe, oGt, oGe, wp_mul, wp_div, wp_mod, wp_pow, gAbs_i, gInt_i, gInt_b, gMax_i, gMin_i, gEqS_i, gNeS_i, gEqS_s, gNeS_s, gEqS_b, gNeS_b, wp_len, len_lst, len_tup, len_scr, ix_l0, ix_t0, ix_t1, ix_t2, en0, List.map_cons, List.map_nil, List.length_cons, List.length_nil, List.cons_append, List.nil_append, List.append_nil, List.replicate_zero, List.reduceReplicate, Nat.reduceAdd, Nat.reduceSub, Nat.zero_add, List.set_cons_zero, List.set_cons_succ, MV.tup.injEq, MV.int.injEq, MV.str.injEq, MV.lst.injEq, MV.bl.injEq, exists_eq_left', exists_eq_left, Option.some.injEq, decide_eq_true_eq, Bool.not_eq_true', decide_eq_false_iff_not, if_true, if_false, Bool.false_eq_true, and_true, true_and, eq_self, decide_true, decide_false, Bool.not_true, Bool.not_false, reduceIte, not_true_eq_false, not_false_eq_true, Bool.true_eq_false, Int.reduceEq, Int.reduceLT, Int.reduceLE, Int.reduceAdd, Int.reduceSub, Int.reduceMul, Int.reduceNeg, Int.reducePow, Int.reduceToNat, Int.reduceNe, ofS, String.reduceEq, in_one, in_two, in_twoI, Nat.reduceLT, Nat.reduceLeDiff, or_self, or_false, false_or, true_or, or_true, and_false, false_and, and_self, pm01, kl1, w_lc1, w_lc0, wipe1, wp_cat, Bool.or_true, Bool.or_false, Bool.true_or, Bool.false_or, Bool.and_true, Bool.and_false, Bool.true_and, Bool.false_and, ek]
    refine ⟨l ++ [⟨#[k]⟩], (by show l.map MV.str ++ _ = (l ++ _).map MV.str; rw [List.map_append]; rfl), by rw [List.length_append, List.length_singleton]; omega, fun x hx => ?_, w2.mono (by rw [List.length_append, List.length_singleton]; omega), by omega⟩
    rcases List.mem_append.mp hx with hx | hx
    · exact hp x hx
    · rw [List.mem_singleton.mp hx]; exact one_let hk
  · rintro zs S2 ⟨l, e, hl, hp, w1, l1⟩
    rw [List.nil_append] at e
    have hl' : l.length = n := by simpa using hl
    exact ⟨l, e, hl', hp, w1.mono (by omega), l1⟩
abbrev cfE (w many : Nat) (way at_ : Int) (b : PySem.Str) (j p : Nat) : En := [some (.ref w), some (.int many), some (.str abc), some (.int way), some (.int at_), none, some (.str b), some (.int j), some (.int p), none, none]
theorem cells3 (w many : Nat) (way at_ : Int) (a0 : 0 ≤ at_) (b : PySem.Str) (hb : goodN b) (j p : Nat) (hj : j < b.length) (hp : p ≤ 11) (hm : many ≤ 8) (S : So) :
    ∃ l, lcL [9] (gN 9) tYesM (mBin gAddS (mBin gAddS (mSl (mName 6) oNone (oSome (mName 7))) (mBin ixM (mName 2) (mBin oModI (mBlt gInt [(mBin oAddI (mName 4) (mBin oMulI (mName 8) (mName 9)))]) (mC (.int 26))))) (mSl (mName 6) (oSome (mBin oAddI (mName 7) (mC (.int 1)))) oNone)) (rngM 0 many) (cfE w many way at_ b j p) S = .ok (smv l) S ∧ l.length = many ∧ ∀ z ∈ l, goodN z := by
  have hab : abc.length ≤ SZ := by rw [len_abc]; exact Nat.le_of_ble_eq_true rfl
  obtain ⟨l, e, hl, hq⟩ := lc_strs (vs := [9]) (i := 9) (m := mBin gAddS (mBin gAddS (mSl (mName 6) oNone (oSome (mName 7))) (mBin ixM (mName 2) (mBin oModI (mBlt gInt [(mBin oAddI (mName 4) (mBin oMulI (mName 8) (mName 9)))]) (mC (.int 26))))) (mSl (mName 6) (oSome (mBin oAddI (mName 7) (mC (.int 1)))) oNone)) (r := cfE w many way at_ b j p) (S := S) goodN (rngM 0 many) (fun x hx => by
    obtain ⟨i, hi, rfl⟩ := rng_mem hx
    obtain ⟨k, hk, ek⟩ := ixS abc ((at_ + (p : Int) * (i : Int)) % 26) S hab (Int.emod_nonneg _ (by decide)) (by rw [len_abc]; exact Int.emod_lt_of_pos _ (by decide))
    obtain ⟨x, y, z, e1, e2, e3, e4, g⟩ := good_cut b k j hb hk hj S
    refine ⟨_, g, wp_is ?_⟩
    have hmul : okMul (p : Int) (i : Int) = true := okMul_l (Nat.lt_of_le_of_lt (by omega : ((p : Int)).natAbs ≤ 11) (by decide))
    show wp (mBin gAddS (mBin gAddS (mSl (mName 6) oNone (oSome (mName 7))) (mBin ixM (mName 2) (mBin oModI (mBlt gInt [(mBin oAddI (mName 4) (mBin oMulI (mName 8) (mName 9)))]) (mC (.int 26))))) (mSl (mName 6) (oSome (mBin oAddI (mName 7) (mC (.int 1)))) oNone) [some (.ref w), some (.int many), some (.str abc), some (.int way), some (.int at_), none, some (.str b), some (.int j), some (.int p), some (.int i), none] S) _ _
    simp only [wp_ok, wp_exc, wp_bad, wp_mC, nm0, nm1, nm2, nm3, nm4, nm5, nm6, nm7, nm8, nm9, nm10, nm11, nm12, nm13, nm14, nm15, wp_nil, k3, k2, w_bin, kc, ka, w_cons, kt, w_tup, kl, w_lst, klM, w_lstM, kf, w_frz, kg, w_call, kkB, kkA, w_callK, kb, w_blt, kv, w_val, kn, w_not, kan_t, kan_f, w_and, kor_t, kor_f, w_or, knn, w_mnot, kma_t, kma_f, w_mand, kmo_t, kmo_f, w_mor, kmi_t, kmi_f, w_mif, kfl, w_fld, kpr, w_prop, kis, w_isi, kng, w_neg, kiv, w_inv, kmB, kmA, w_meth, knC, knB, knA, w_methK, kq, w_eqC, w_neC, kcp, w_capI, klc, w_lc, ksq_l, ksq_t, ksq_s, w_seq, krg, w_rng, kst, w_str, kjB, kjA, w_join, ksC, ksB, ksA, w_sl, wp_oNone, kso, w_some, khC, khD_t, khD_f, khB, khA, w_ch, ws_nil, s_cons, kx, kk, ke, s_exp, s_ret, ws_sRetN, ki_t, ki_f, s_if, ks, s_set, kpB, kpA, s_par, kfo, s_for, ws_for0, kr, s_raise, s_try, kat, s_asgT, kaL, s_asgL, gTs_nil, gTs_cons, ws_nxt, ws_ret, wp_own, wp_ownR, oAdd, oSub, oLt, oLe, oGt, oGe, wp_mul, wp_div, wp_mod, wp_pow, gAbs_i, gInt_i, gInt_b, gMax_i, gMin_i, gEqS_i, gNeS_i, gEqS_s, gNeS_s, gEqS_b, gNeS_b, wp_len, len_lst, len_tup, len_scr, ix_l0, ix_t0, ix_t1, ix_t2, en0, List.map_cons, List.map_nil, List.length_cons, List.length_nil, List.cons_append, List.nil_append, List.append_nil, List.replicate_zero, List.reduceReplicate, Nat.reduceAdd, Nat.reduceSub, Nat.zero_add, List.set_cons_zero, List.set_cons_succ, MV.tup.injEq, MV.int.injEq, MV.str.injEq, MV.lst.injEq, MV.bl.injEq, exists_eq_left', exists_eq_left, Option.some.injEq, decide_eq_true_eq, Bool.not_eq_true', decide_eq_false_iff_not, if_true, if_false, Bool.false_eq_true, and_true, true_and, eq_self, decide_true, decide_false, Bool.not_true, Bool.not_false, reduceIte, not_true_eq_false, not_false_eq_true, Bool.true_eq_false, Int.reduceEq, Int.reduceLT, Int.reduceLE, Int.reduceAdd, Int.reduceSub, Int.reduceMul, Int.reduceNeg, Int.reducePow, Int.reduceToNat, Int.reduceNe, ofS, String.reduceEq, in_one, in_two, in_twoI, Nat.reduceLT, Nat.reduceLeDiff, or_self, or_false, false_or, true_or, or_true, and_false, false_and, and_self, pm01, kl1, w_lc1, w_lc0, wipe1, wp_cat, Bool.or_true, Bool.or_false, Bool.true_or, Bool.false_or, Bool.and_true, Bool.and_false, Bool.true_and, Bool.false_and, e1, e2, e3, e4, ek, hmul])
  exact ⟨l, e, by rw [hl, rng_len], hq⟩
theorem pace5 (t : Int) (S : So) (h0 : 0 ≤ t) (h1 : t < 5) : ∃ p : Nat, p ≤ 11 ∧ ixM (.lst [.int 1, .int 3, .int 5, .int 7, .int 11]) (.int t) S = .ok (.int p) S := by
  obtain ⟨y, hy, e⟩ := ixP [.int 1, .int 3, .int 5, .int 7, .int 11] t S h0 (by simpa using h1)
  simp only [List.mem_cons, List.not_mem_nil, or_false] at hy
  rcases hy with rfl | rfl | rfl | rfl | rfl
  · exact ⟨1, by decide, e⟩
  · exact ⟨3, by decide, e⟩
  · exact ⟨5, by decide, e⟩
  · exact ⟨7, by decide, e⟩
  · exact ⟨11, by decide, e⟩
theorem T_cells (many : Nat) (hm : 1 ≤ many ∧ many ≤ 8) (S : So) (w c : Nat) (hw : Wl S w c) (hc : c < 600000000) :
    wp (f__law_cells [.ref w, .int many] S) (fun y S' => ∃ l : List PySem.Str, y = .lst (smv l) ∧ l.length = many ∧ (∀ x ∈ l, goodN x) ∧ Wl S' w (c + 20) ∧ S'.length = S.length) noE := by
  refine wp_def ?_
  simp only [en0, List.map_cons, List.map_nil, List.length_cons, List.length_nil, Nat.reduceAdd, Nat.reduceSub, List.reduceReplicate, List.cons_append, List.nil_append]
  refine ws_cut (fun r S1 => ∃ way at_ : Int, r = ceE w many way at_ ∧ (0 ≤ way ∧ way < 4) ∧ (0 ≤ at_ ∧ at_ < 26) ∧ Wl S1 w (c + 2) ∧ S1.length = S.length) ?_ ?_
  · simp only [wp_ok, wp_exc, wp_bad, wp_mC, nm0, nm1, nm2, nm3, nm4, nm5, nm6, nm7, nm8, nm9, nm10, nm11, nm12, nm13, nm14, nm15, wp_nil, k3, k2, w_bin, kc, ka, w_cons, kt, w_tup, kl, w_lst, klM, w_lstM, kf, w_frz, kg, w_call, kkB, kkA, w_callK, kb, w_blt, kv, w_val, kn, w_not, kan_t, kan_f, w_and, kor_t, kor_f, w_or, knn, w_mnot, kma_t, kma_f, w_mand, kmo_t, kmo_f, w_mor, kmi_t, kmi_f, w_mif, kfl, w_fld, kpr, w_prop, kis, w_isi, kng, w_neg, kiv, w_inv, kmB, kmA, w_meth, knC, knB, knA, w_methK, kq, w_eqC, w_neC, kcp, w_capI, klc, w_lc, ksq_l, ksq_t, ksq_s, w_seq, krg, w_rng, kst, w_str, kjB, kjA, w_join, ksC, ksB, ksA, w_sl, wp_oNone, kso, w_some, khC, khD_t, khD_f, khB, khA, w_ch, ws_nil, s_cons, kx, kk, ke, s_exp, s_ret, ws_sRetN, ki_t, ki_f, s_if, ks, s_set, kpB, kpA, s_par, kfo, s_for, ws_for0, kr, s_raise, s_try, kat, s_asgT, kaL, s_asgL, gTs_nil, gTs_cons, ws_nxt, ws_ret, wp_own, wp_ownR, oAdd, oSub, oLt, oLe, oGt, oGe, wp_mul, wp_div, wp_mod, wp_pow, gAbs_i, gInt_i, gInt_b, gMax_i, gMin_i, gEqS_i, gNeS_i, gEqS_s, gNeS_s, gEqS_b, gNeS_b, wp_len, len_lst, len_tup, len_scr, ix_l0, ix_t0, ix_t1, ix_t2, en0, List.map_cons, List.map_nil, List.length_cons, List.length_nil, List.cons_append, List.nil_append, List.append_nil, List.replicate_zero, List.reduceReplicate, Nat.reduceAdd, Nat.reduceSub, Nat.zero_add, List.set_cons_zero, List.set_cons_succ, MV.tup.injEq, MV.int.injEq, MV.str.injEq, MV.lst.injEq, MV.bl.injEq, exists_eq_left', exists_eq_left, Option.some.injEq, decide_eq_true_eq, Bool.not_eq_true', decide_eq_false_iff_not, if_true, if_false, Bool.false_eq_true, and_true, true_and, eq_self, decide_true, decide_false, Bool.not_true, Bool.not_false, reduceIte, not_true_eq_false, not_false_eq_true, Bool.true_eq_false, Int.reduceEq, Int.reduceLT, Int.reduceLE, Int.reduceAdd, Int.reduceSub, Int.reduceMul, Int.reduceNeg, Int.reducePow, Int.reduceToNat, Int.reduceNe, ofS, String.reduceEq, in_one, in_two, in_twoI, Nat.reduceLT, Nat.reduceLeDiff, or_self, or_false, false_or, true_or, or_true, and_false, false_and, and_self, pm01, kl1, w_lc1, w_lc0, wipe1, wp_cat, Bool.or_true, Bool.or_false, Bool.true_or, Bool.false_or, Bool.and_true, Bool.and_false, Bool.true_and, Bool.false_and]
    refine wp_use (T_take hw (by decide)) ?_
    rintro _ S1 ⟨t1, rfl, a1, b1, w1, l1⟩
    simp only [wp_ok, wp_exc, wp_bad, wp_mC, nm0, nm1, nm2, nm3, nm4, nm5, nm6, nm7, nm8, nm9, nm10, nm11, nm12, nm13, nm14, nm15, wp_nil, k3, k2, w_bin, kc, ka, w_cons, kt, w_tup, kl, w_lst, klM, w_lstM, kf, w_frz, kg, w_call, kkB, kkA, w_callK, kb, w_blt, kv, w_val, kn, w_not, kan_t, kan_f, w_and, kor_t, kor_f, w_or, knn, w_mnot, kma_t, kma_f, w_mand, kmo_t, kmo_f, w_mor, kmi_t, kmi_f, w_mif, kfl, w_fld, kpr, w_prop, kis, w_isi, kng, w_neg, kiv, w_inv, kmB, kmA, w_meth, knC, knB, knA, w_methK, kq, w_eqC, w_neC, kcp, w_capI, klc, w_lc, ksq_l, ksq_t, ksq_s, w_seq, krg, w_rng, kst, w_str, kjB, kjA, w_join, ksC, ksB, ksA, w_sl, wp_oNone, kso, w_some, khC, khD_t, khD_f, khB, khA, w_ch, ws_nil, s_cons, kx, kk, ke, s_exp, s_ret, ws_sRetN, ki_t, ki_f, s_if, ks, s_set, kpB, kpA, s_par, kfo, s_for, ws_for0, kr, s_raise, s_try, kat, s_asgT, kaL, s_asgL, gTs_nil, gTs_cons, ws_nxt, ws_ret, wp_own, wp_ownR, oAdd, oSub, oLt, oLe, oGt, oGe, wp_mul, wp_div, wp_mod, wp_pow, gAbs_i, gInt_i, gInt_b, gMax_i, gMin_i, gEqS_i, gNeS_i, gEqS_s, gNeS_s, gEqS_b, gNeS_b, wp_len, len_lst, len_tup, len_scr, ix_l0, ix_t0, ix_t1, ix_t2, en0, List.map_cons, List.map_nil, List.length_cons, List.length_nil, List.cons_append, List.nil_append, List.append_nil, List.replicate_zero, List.reduceReplicate, Nat.reduceAdd, Nat.reduceSub, Nat.zero_add, List.set_cons_zero, List.set_cons_succ, MV.tup.injEq, MV.int.injEq, MV.str.injEq, MV.lst.injEq, MV.bl.injEq, exists_eq_left', exists_eq_left, Option.some.injEq, decide_eq_true_eq, Bool.not_eq_true', decide_eq_false_iff_not, if_true, if_false, Bool.false_eq_true, and_true, true_and, eq_self, decide_true, decide_false, Bool.not_true, Bool.not_false, reduceIte, not_true_eq_false, not_false_eq_true, Bool.true_eq_false, Int.reduceEq, Int.reduceLT, Int.reduceLE, Int.reduceAdd, Int.reduceSub, Int.reduceMul, Int.reduceNeg, Int.reducePow, Int.reduceToNat, Int.reduceNe, ofS, String.reduceEq, in_one, in_two, in_twoI, Nat.reduceLT, Nat.reduceLeDiff, or_self, or_false, false_or, true_or, or_true, and_false, false_and, and_self, pm01, kl1, w_lc1, w_lc0, wipe1, wp_cat, Bool.or_true, Bool.or_false, Bool.true_or, Bool.false_or, Bool.and_true, Bool.and_false, Bool.true_and, Bool.false_and]
    refine wp_use (T_take w1 (by decide)) ?_
    rintro _ S2 ⟨t2, rfl, a2, b2, w2, l2⟩
    simp only [wp_ok, wp_exc, wp_bad, wp_mC, nm0, nm1, nm2, nm3, nm4, nm5, nm6, nm7, nm8, nm9, nm10, nm11, nm12, nm13, nm14, nm15, wp_nil, k3, k2, w_bin, kc, ka, w_cons, kt, w_tup, kl, w_lst, klM, w_lstM, kf, w_frz, kg, w_call, kkB, kkA, w_callK, kb, w_blt, kv, w_val, kn, w_not, kan_t, kan_f, w_and, kor_t, kor_f, w_or, knn, w_mnot, kma_t, kma_f, w_mand, kmo_t, kmo_f, w_mor, kmi_t, kmi_f, w_mif, kfl, w_fld, kpr, w_prop, kis, w_isi, kng, w_neg, kiv, w_inv, kmB, kmA, w_meth, knC, knB, knA, w_methK, kq, w_eqC, w_neC, kcp, w_capI, klc, w_lc, ksq_l, ksq_t, ksq_s, w_seq, krg, w_rng, kst, w_str, kjB, kjA, w_join, ksC, ksB, ksA, w_sl, wp_oNone, kso, w_some, khC, khD_t, khD_f, khB, khA, w_ch, ws_nil, s_cons, kx, kk, ke, s_exp, s_ret, ws_sRetN, ki_t, ki_f, s_if, ks, s_set, kpB, kpA, s_par, kfo, s_for, ws_for0, kr, s_raise, s_try, kat, s_asgT, kaL, s_asgL, gTs_nil, gTs_cons, ws_nxt, ws_ret, wp_own, wp_ownR, oAdd, oSub, oLt, oLe, oGt, oGe, wp_mul, wp_div, wp_mod, wp_pow, gAbs_i, gInt_i, gInt_b, gMax_i, gMin_i, gEqS_i, gNeS_i, gEqS_s, gNeS_s, gEqS_b, gNeS_b, wp_len, len_lst, len_tup, len_scr, ix_l0, ix_t0, ix_t1, ix_t2, en0, List.map_cons, List.map_nil, List.length_cons, List.length_nil, List.cons_append, List.nil_append, List.append_nil, List.replicate_zero, List.reduceReplicate, Nat.reduceAdd, Nat.reduceSub, Nat.zero_add, List.set_cons_zero, List.set_cons_succ, MV.tup.injEq, MV.int.injEq, MV.str.injEq, MV.lst.injEq, MV.bl.injEq, exists_eq_left', exists_eq_left, Option.some.injEq, decide_eq_true_eq, Bool.not_eq_true', decide_eq_false_iff_not, if_true, if_false, Bool.false_eq_true, and_true, true_and, eq_self, decide_true, decide_false, Bool.not_true, Bool.not_false, reduceIte, not_true_eq_false, not_false_eq_true, Bool.true_eq_false, Int.reduceEq, Int.reduceLT, Int.reduceLE, Int.reduceAdd, Int.reduceSub, Int.reduceMul, Int.reduceNeg, Int.reducePow, Int.reduceToNat, Int.reduceNe, ofS, String.reduceEq, in_one, in_two, in_twoI, Nat.reduceLT, Nat.reduceLeDiff, or_self, or_false, false_or, true_or, or_true, and_false, false_and, and_self, pm01, kl1, w_lc1, w_lc0, wipe1, wp_cat, Bool.or_true, Bool.or_false, Bool.true_or, Bool.false_or, Bool.and_true, Bool.and_false, Bool.true_and, Bool.false_and]
    exact ⟨t1, t2, rfl, ⟨a1, b1⟩, ⟨a2, b2⟩, w2, by omega⟩
  rintro r S1 ⟨way, at_, rfl, ⟨a1, b1⟩, ⟨a2, b2⟩, w1, l1⟩
  have hr : (rngM 0 many).length ≤ SZ := by rw [rng_len]; have : SZ = 16777216 := rfl; omega
  have hb := b62 many (by omega)
  have hN : ((many : Nat) : Int).toNat = many := Int.toNat_natCast many
  have e0 : ceE w many way at_ = [some (.ref w), some (.int many), some (.str abc), some (.int way), some (.int at_), none, none, none, none, none, none] := rfl
  rw [e0]
  by_cases h0 : way = 0
  · have d0 : decide (way = 0) = true := decide_eq_true h0
    have q := cells0 w way many hm.2 at_ a2 b2 S1
    rw [e0] at q
    simp only [wp_ok, wp_exc, wp_bad, wp_mC, nm0, nm1, nm2, nm3, nm4, nm5, nm6, nm7, nm8, nm9, nm10, nm11, nm12, nm13, nm14, nm15, wp_nil, k3, k2, w_bin, kc, ka, w_cons, kt, w_tup, kl, w_lst, klM, w_lstM, kf, w_frz, kg, w_call, kkB, kkA, w_callK, kb, w_blt, kv, w_val, kn, w_not, kan_t, kan_f, w_and, kor_t, kor_f, w_or, knn, w_mnot, kma_t, kma_f, w_mand, kmo_t, kmo_f, w_mor, kmi_t, kmi_f, w_mif, kfl, w_fld, kpr, w_prop, kis, w_isi, kng, w_neg, kiv, w_inv, kmB, kmA, w_meth, knC, knB, knA, w_methK, kq, w_eqC, w_neC, kcp, w_capI, klc, w_lc, ksq_l, ksq_t, ksq_s, w_seq, krg, w_rng, kst, w_str, kjB, kjA, w_join, ksC, ksB, ksA, w_sl, wp_oNone, kso, w_some, khC, khD_t, khD_f, khB, khA, w_ch, ws_nil, s_cons, kx, kk, ke, s_exp, s_ret, ws_sRetN, ki_t, ki_f, s_if, ks, s_set, kpB, kpA, s_par, kfo, s_for, ws_for0, kr, s_raise, s_try, kat, s_asgT, kaL, s_asgL, gTs_nil, gTs_cons, ws_nxt, ws_ret, wp_own, wp_ownR, oAdd, oSub, oLt, oLe, oGt, oGe, wp_mul, wp_div, wp_mod, wp_pow, gAbs_i, gInt_i, gInt_b, gMax_i, gMin_i, gEqS_i, gNeS_i, gEqS_s, gNeS_s, gEqS_b, gNeS_b, wp_len, len_lst, len_tup, len_scr, ix_l0, ix_t0, ix_t1, ix_t2, en0, List.map_cons, List.map_nil, List.length_cons, List.length_nil, List.cons_append, List.nil_append, List.append_nil, List.replicate_zero, List.reduceReplicate, Nat.reduceAdd, Nat.reduceSub, Nat.zero_add, List.set_cons_zero, List.set_cons_succ, MV.tup.injEq, MV.int.injEq, MV.str.injEq, MV.lst.injEq, MV.bl.injEq, exists_eq_left', exists_eq_left, Option.some.injEq, decide_eq_true_eq, Bool.not_eq_true', decide_eq_false_iff_not, if_true, if_false, Bool.false_eq_true, and_true, true_and, eq_self, decide_true, decide_false, Bool.not_true, Bool.not_false, reduceIte, not_true_eq_false, not_false_eq_true, Bool.true_eq_false, Int.reduceEq, Int.reduceLT, Int.reduceLE, Int.reduceAdd, Int.reduceSub, Int.reduceMul, Int.reduceNeg, Int.reducePow, Int.reduceToNat, Int.reduceNe, ofS, String.reduceEq, in_one, in_two, in_twoI, Nat.reduceLT, Nat.reduceLeDiff, or_self, or_false, false_or, true_or, or_true, and_false, false_and, and_self, pm01, kl1, w_lc1, w_lc0, wipe1, wp_cat, Bool.or_true, Bool.or_false, Bool.true_or, Bool.false_or, Bool.and_true, Bool.and_false, Bool.true_and, Bool.false_and, d0, hb, hN, hr]
    obtain ⟨l, e, hl, hp⟩ := q
    simp only [wp_ok, wp_exc, wp_bad, wp_mC, nm0, nm1, nm2, nm3, nm4, nm5, nm6, nm7, nm8, nm9, nm10, nm11, nm12, nm13, nm14, nm15, wp_nil, k3, k2, w_bin, kc, ka, w_cons, kt, w_tup, kl, w_lst, klM, w_lstM, kf, w_frz, kg, w_call, kkB, kkA, w_callK, kb, w_blt, kv, w_val, kn, w_not, kan_t, kan_f, w_and, kor_t, kor_f, w_or, knn, w_mnot, kma_t, kma_f, w_mand, kmo_t, kmo_f, w_mor, kmi_t, kmi_f, w_mif, kfl, w_fld, kpr, w_prop, kis, w_isi, kng, w_neg, kiv, w_inv, kmB, kmA, w_meth, knC, knB, knA, w_methK, kq, w_eqC, w_neC, kcp, w_capI, klc, w_lc, ksq_l, ksq_t, ksq_s, w_seq, krg, w_rng, kst, w_str, kjB, kjA, w_join, ksC, ksB, ksA, w_sl, wp_oNone, kso, w_some, khC, khD_t, khD_f, khB, khA, w_ch, ws_nil, s_cons, kx, kk, ke, s_exp, s_ret, ws_sRetN, ki_t, ki_f, s_if, ks, s_set, kpB, kpA, s_par, kfo, s_for, ws_for0, kr, s_raise, s_try, kat, s_asgT, kaL, s_asgL, gTs_nil, gTs_cons, ws_nxt, ws_ret, wp_own, wp_ownR, oAdd, oSub, oLt, oLe, oGt, oGe, wp_mul, wp_div, wp_mod, wp_pow, gAbs_i, gInt_i, gInt_b, gMax_i, gMin_i, gEqS_i, gNeS_i, gEqS_s, gNeS_s, gEqS_b, gNeS_b, wp_len, len_lst, len_tup, len_scr, ix_l0, ix_t0, ix_t1, ix_t2, en0, List.map_cons, List.map_nil, List.length_cons, List.length_nil, List.cons_append, List.nil_append, List.append_nil, List.replicate_zero, List.reduceReplicate, Nat.reduceAdd, Nat.reduceSub, Nat.zero_add, List.set_cons_zero, List.set_cons_succ, MV.tup.injEq, MV.int.injEq, MV.str.injEq, MV.lst.injEq, MV.bl.injEq, exists_eq_left', exists_eq_left, Option.some.injEq, decide_eq_true_eq, Bool.not_eq_true', decide_eq_false_iff_not, if_true, if_false, Bool.false_eq_true, and_true, true_and, eq_self, decide_true, decide_false, Bool.not_true, Bool.not_false, reduceIte, not_true_eq_false, not_false_eq_true, Bool.true_eq_false, Int.reduceEq, Int.reduceLT, Int.reduceLE, Int.reduceAdd, Int.reduceSub, Int.reduceMul, Int.reduceNeg, Int.reducePow, Int.reduceToNat, Int.reduceNe, ofS, String.reduceEq, in_one, in_two, in_twoI, Nat.reduceLT, Nat.reduceLeDiff, or_self, or_false, false_or, true_or, or_true, and_false, false_and, and_self, pm01, kl1, w_lc1, w_lc0, wipe1, wp_cat, Bool.or_true, Bool.or_false, Bool.true_or, Bool.false_or, Bool.and_true, Bool.and_false, Bool.true_and, Bool.false_and, e]
    exact ⟨l1, l, rfl, hl, hp, w1.mono (by omega), l1⟩
  by_cases h1 : way = 1
  · have d1 : decide (way = 1) = true := decide_eq_true h1
    have q := cells1 w way many at_ S1
    unfold words12v at q
    simp only [wp_ok, wp_exc, wp_bad, wp_mC, nm0, nm1, nm2, nm3, nm4, nm5, nm6, nm7, nm8, nm9, nm10, nm11, nm12, nm13, nm14, nm15, wp_nil, k3, k2, w_bin, kc, ka, w_cons, kt, w_tup, kl, w_lst, klM, w_lstM, kf, w_frz, kg, w_call, kkB, kkA, w_callK, kb, w_blt, kv, w_val, kn, w_not, kan_t, kan_f, w_and, kor_t, kor_f, w_or, knn, w_mnot, kma_t, kma_f, w_mand, kmo_t, kmo_f, w_mor, kmi_t, kmi_f, w_mif, kfl, w_fld, kpr, w_prop, kis, w_isi, kng, w_neg, kiv, w_inv, kmB, kmA, w_meth, knC, knB, knA, w_methK, kq, w_eqC, w_neC, kcp, w_capI, klc, w_lc, ksq_l, ksq_t, ksq_s, w_seq, krg, w_rng, kst, w_str, kjB, kjA, w_join, ksC, ksB, ksA, w_sl, wp_oNone, kso, w_some, khC, khD_t, khD_f, khB, khA, w_ch, ws_nil, s_cons, kx, kk, ke, s_exp, s_ret, ws_sRetN, ki_t, ki_f, s_if, ks, s_set, kpB, kpA, s_par, kfo, s_for, ws_for0, kr, s_raise, s_try, kat, s_asgT, kaL, s_asgL, gTs_nil, gTs_cons, ws_nxt, ws_ret, wp_own, wp_ownR, oAdd, oSub, oLt, oLe, oGt, oGe, wp_mul, wp_div, wp_mod, wp_pow, gAbs_i, gInt_i, gInt_b, gMax_i, gMin_i, gEqS_i, gNeS_i, gEqS_s, gNeS_s, gEqS_b, gNeS_b, wp_len, len_lst, len_tup, len_scr, ix_l0, ix_t0, ix_t1, ix_t2, en0, List.map_cons, List.map_nil, List.length_cons, List.length_nil, List.cons_append, List.nil_append, List.append_nil, List.replicate_zero, List.reduceReplicate, Nat.reduceAdd, Nat.reduceSub, Nat.zero_add, List.set_cons_zero, List.set_cons_succ, MV.tup.injEq, MV.int.injEq, MV.str.injEq, MV.lst.injEq, MV.bl.injEq, exists_eq_left', exists_eq_left, Option.some.injEq, decide_eq_true_eq, Bool.not_eq_true', decide_eq_false_iff_not, if_true, if_false, Bool.false_eq_true, and_true, true_and, eq_self, decide_true, decide_false, Bool.not_true, Bool.not_false, reduceIte, not_true_eq_false, not_false_eq_true, Bool.true_eq_false, Int.reduceEq, Int.reduceLT, Int.reduceLE, Int.reduceAdd, Int.reduceSub, Int.reduceMul, Int.reduceNeg, Int.reducePow, Int.reduceToNat, Int.reduceNe, ofS, String.reduceEq, in_one, in_two, in_twoI, Nat.reduceLT, Nat.reduceLeDiff, or_self, or_false, false_or, true_or, or_true, and_false, false_and, and_self, pm01, kl1, w_lc1, w_lc0, wipe1, wp_cat, Bool.or_true, Bool.or_false, Bool.true_or, Bool.false_or, Bool.and_true, Bool.and_false, Bool.true_and, Bool.false_and, h0, d1, hb, hN, hr]
    obtain ⟨l, e, hl, hp⟩ := q
    simp only [wp_ok, wp_exc, wp_bad, wp_mC, nm0, nm1, nm2, nm3, nm4, nm5, nm6, nm7, nm8, nm9, nm10, nm11, nm12, nm13, nm14, nm15, wp_nil, k3, k2, w_bin, kc, ka, w_cons, kt, w_tup, kl, w_lst, klM, w_lstM, kf, w_frz, kg, w_call, kkB, kkA, w_callK, kb, w_blt, kv, w_val, kn, w_not, kan_t, kan_f, w_and, kor_t, kor_f, w_or, knn, w_mnot, kma_t, kma_f, w_mand, kmo_t, kmo_f, w_mor, kmi_t, kmi_f, w_mif, kfl, w_fld, kpr, w_prop, kis, w_isi, kng, w_neg, kiv, w_inv, kmB, kmA, w_meth, knC, knB, knA, w_methK, kq, w_eqC, w_neC, kcp, w_capI, klc, w_lc, ksq_l, ksq_t, ksq_s, w_seq, krg, w_rng, kst, w_str, kjB, kjA, w_join, ksC, ksB, ksA, w_sl, wp_oNone, kso, w_some, khC, khD_t, khD_f, khB, khA, w_ch, ws_nil, s_cons, kx, kk, ke, s_exp, s_ret, ws_sRetN, ki_t, ki_f, s_if, ks, s_set, kpB, kpA, s_par, kfo, s_for, ws_for0, kr, s_raise, s_try, kat, s_asgT, kaL, s_asgL, gTs_nil, gTs_cons, ws_nxt, ws_ret, wp_own, wp_ownR, oAdd, oSub, oLt, oLe, oGt, oGe, wp_mul, wp_div, wp_mod, wp_pow, gAbs_i, gInt_i, gInt_b, gMax_i, gMin_i, gEqS_i, gNeS_i, gEqS_s, gNeS_s, gEqS_b, gNeS_b, wp_len, len_lst, len_tup, len_scr, ix_l0, ix_t0, ix_t1, ix_t2, en0, List.map_cons, List.map_nil, List.length_cons, List.length_nil, List.cons_append, List.nil_append, List.append_nil, List.replicate_zero, List.reduceReplicate, Nat.reduceAdd, Nat.reduceSub, Nat.zero_add, List.set_cons_zero, List.set_cons_succ, MV.tup.injEq, MV.int.injEq, MV.str.injEq, MV.lst.injEq, MV.bl.injEq, exists_eq_left', exists_eq_left, Option.some.injEq, decide_eq_true_eq, Bool.not_eq_true', decide_eq_false_iff_not, if_true, if_false, Bool.false_eq_true, and_true, true_and, eq_self, decide_true, decide_false, Bool.not_true, Bool.not_false, reduceIte, not_true_eq_false, not_false_eq_true, Bool.true_eq_false, Int.reduceEq, Int.reduceLT, Int.reduceLE, Int.reduceAdd, Int.reduceSub, Int.reduceMul, Int.reduceNeg, Int.reducePow, Int.reduceToNat, Int.reduceNe, ofS, String.reduceEq, in_one, in_two, in_twoI, Nat.reduceLT, Nat.reduceLeDiff, or_self, or_false, false_or, true_or, or_true, and_false, false_and, and_self, pm01, kl1, w_lc1, w_lc0, wipe1, wp_cat, Bool.or_true, Bool.or_false, Bool.true_or, Bool.false_or, Bool.and_true, Bool.and_false, Bool.true_and, Bool.false_and, e]
    exact ⟨l1, l, rfl, hl, hp, w1.mono (by omega), l1⟩
  simp only [wp_ok, wp_exc, wp_bad, wp_mC, nm0, nm1, nm2, nm3, nm4, nm5, nm6, nm7, nm8, nm9, nm10, nm11, nm12, nm13, nm14, nm15, wp_nil, k3, k2, w_bin, kc, ka, w_cons, kt, w_tup, kl, w_lst, klM, w_lstM, kf, w_frz, kg, w_call, kkB, kkA, w_callK, kb, w_blt, kv, w_val, kn, w_not, kan_t, kan_f, w_and, kor_t, kor_f, w_or, knn, w_mnot, kma_t, kma_f, w_mand, kmo_t, kmo_f, w_mor, kmi_t, kmi_f, w_mif, kfl, w_fld, kpr, w_prop, kis, w_isi, kng, w_neg, kiv, w_inv, kmB, kmA, w_meth, knC, knB, knA, w_methK, kq, w_eqC, w_neC, kcp, w_capI, klc, w_lc, ksq_l, ksq_t, ksq_s, w_seq, krg, w_rng, kst, w_str, kjB, kjA, w_join, ksC, ksB, ksA, w_sl, wp_oNone, kso, w_some, khC, khD_t, khD_f, khB, khA, w_ch, ws_nil, s_cons, kx, kk, ke, s_exp, s_ret, ws_sRetN, ki_t, ki_f, s_if, ks, s_set, kpB, kpA, s_par, kfo, s_for, ws_for0, kr, s_raise, s_try, kat, s_asgT, kaL, s_asgL, gTs_nil, gTs_cons, ws_nxt, ws_ret, wp_own, wp_ownR, oAdd, oSub, oLt, oLe, oGt, oGe, wp_mul, wp_div, wp_mod, wp_pow, gAbs_i, gInt_i, gInt_b, gMax_i, gMin_i, gEqS_i, gNeS_i, gEqS_s, gNeS_s, gEqS_b, gNeS_b, wp_len, len_lst, len_tup, len_scr, ix_l0, ix_t0, ix_t1, ix_t2, en0, List.map_cons, List.map_nil, List.length_cons, List.length_nil, List.cons_append, List.nil_append, List.append_nil, List.replicate_zero, List.reduceReplicate, Nat.reduceAdd, Nat.reduceSub, Nat.zero_add, List.set_cons_zero, List.set_cons_succ, MV.tup.injEq, MV.int.injEq, MV.str.injEq, MV.lst.injEq, MV.bl.injEq, exists_eq_left', exists_eq_left, Option.some.injEq, decide_eq_true_eq, Bool.not_eq_true', decide_eq_false_iff_not, if_true, if_false, Bool.false_eq_true, and_true, true_and, eq_self, decide_true, decide_false, Bool.not_true, Bool.not_false, reduceIte, not_true_eq_false, not_false_eq_true, Bool.true_eq_false, Int.reduceEq, Int.reduceLT, Int.reduceLE, Int.reduceAdd, Int.reduceSub, Int.reduceMul, Int.reduceNeg, Int.reducePow, Int.reduceToNat, Int.reduceNe, ofS, String.reduceEq, in_one, in_two, in_twoI, Nat.reduceLT, Nat.reduceLeDiff, or_self, or_false, false_or, true_or, or_true, and_false, false_and, and_self, pm01, kl1, w_lc1, w_lc0, wipe1, wp_cat, Bool.or_true, Bool.or_false, Bool.true_or, Bool.false_or, Bool.and_true, Bool.and_false, Bool.true_and, Bool.false_and, h0, h1]
  refine wp_use (T_take w1 (by decide)) ?_
  rintro _ S2 ⟨t2, rfl, a3, b3, w2, l2⟩
  obtain ⟨n, rfl⟩ : ∃ n : Nat, t2 = n := ⟨t2.toNat, by omega⟩
  have eN : ((1 : Int) + (n : Int)).toNat = n + 1 := by omega
  have hb2 : -B62 ≤ (1 : Int) + (n : Int) ∧ (1 : Int) + (n : Int) < B62 := by have := b62 (n + 1) (by omega); omega
  have hr2 : (rngM 0 (n + 1)).length ≤ SZ := by rw [rng_len]; have : SZ = 16777216 := rfl; omega
  have q := cells2 w many way at_ (n + 1) S2 (c + 2 + 1) w2 (by omega) (by omega)
  rw [e0] at q
  simp only [wp_ok, wp_exc, wp_bad, wp_mC, nm0, nm1, nm2, nm3, nm4, nm5, nm6, nm7, nm8, nm9, nm10, nm11, nm12, nm13, nm14, nm15, wp_nil, k3, k2, w_bin, kc, ka, w_cons, kt, w_tup, kl, w_lst, klM, w_lstM, kf, w_frz, kg, w_call, kkB, kkA, w_callK, kb, w_blt, kv, w_val, kn, w_not, kan_t, kan_f, w_and, kor_t, kor_f, w_or, knn, w_mnot, kma_t, kma_f, w_mand, kmo_t, kmo_f, w_mor, kmi_t, kmi_f, w_mif, kfl, w_fld, kpr, w_prop, kis, w_isi, kng, w_neg, kiv, w_inv, kmB, kmA, w_meth, knC, knB, knA, w_methK, kq, w_eqC, w_neC, kcp, w_capI, klc, w_lc, ksq_l, ksq_t, ksq_s, w_seq, krg, w_rng, kst, w_str, kjB, kjA, w_join, ksC, ksB, ksA, w_sl, wp_oNone, kso, w_some, khC, khD_t, khD_f, khB, khA, w_ch, ws_nil, s_cons, kx, kk, ke, s_exp, s_ret, ws_sRetN, ki_t, ki_f, s_if, ks, s_set, kpB, kpA, s_par, kfo, s_for, ws_for0, kr, s_raise, s_try, kat, s_asgT, kaL, s_asgL, gTs_nil, gTs_cons, ws_nxt, ws_ret, wp_own, wp_ownR, oAdd, oSub, oLt, oLe, oGt, oGe, wp_mul, wp_div, wp_mod, wp_pow, gAbs_i, gInt_i, gInt_b, gMax_i, gMin_i, gEqS_i, gNeS_i, gEqS_s, gNeS_s, gEqS_b, gNeS_b, wp_len, len_lst, len_tup, len_scr, ix_l0, ix_t0, ix_t1, ix_t2, en0, List.map_cons, List.map_nil, List.length_cons, List.length_nil, List.cons_append, List.nil_append, List.append_nil, List.replicate_zero, List.reduceReplicate, Nat.reduceAdd, Nat.reduceSub, Nat.zero_add, List.set_cons_zero, List.set_cons_succ, MV.tup.injEq, MV.int.injEq, MV.str.injEq, MV.lst.injEq, MV.bl.injEq, exists_eq_left', exists_eq_left, Option.some.injEq, decide_eq_true_eq, Bool.not_eq_true', decide_eq_false_iff_not, if_true, if_false, Bool.false_eq_true, and_true, true_and, eq_self, decide_true, decide_false, Bool.not_true, Bool.not_false, reduceIte, not_true_eq_false, not_false_eq_true, Bool.true_eq_false, Int.reduceEq, Int.reduceLT, Int.reduceLE, Int.reduceAdd, Int.reduceSub, Int.reduceMul, Int.reduceNeg, Int.reducePow, Int.reduceToNat, Int.reduceNe, ofS, String.reduceEq, in_one, in_two, in_twoI, Nat.reduceLT, Nat.reduceLeDiff, or_self, or_false, false_or, true_or, or_true, and_false, false_and, and_self, pm01, kl1, w_lc1, w_lc0, wipe1, wp_cat, Bool.or_true, Bool.or_false, Bool.true_or, Bool.false_or, Bool.and_true, Bool.and_false, Bool.true_and, Bool.false_and, hb2, eN, hr2]
  refine wp_use q ?_
  rintro _ S3 ⟨l, rfl, hl, hp, w3, l3⟩
  have ej := joinI l S3 (by omega) hp
  obtain ⟨j1, j2⟩ := join_ones l hp
  have gb : goodN (Txt.join "" l) := ⟨⟨by omega, by omega⟩, j2⟩
  have hz : (Txt.join "" l).length ≤ SZ := by have : SZ = 16777216 := rfl; omega
  simp only [wp_ok, wp_exc, wp_bad, wp_mC, nm0, nm1, nm2, nm3, nm4, nm5, nm6, nm7, nm8, nm9, nm10, nm11, nm12, nm13, nm14, nm15, wp_nil, k3, k2, w_bin, kc, ka, w_cons, kt, w_tup, kl, w_lst, klM, w_lstM, kf, w_frz, kg, w_call, kkB, kkA, w_callK, kb, w_blt, kv, w_val, kn, w_not, kan_t, kan_f, w_and, kor_t, kor_f, w_or, knn, w_mnot, kma_t, kma_f, w_mand, kmo_t, kmo_f, w_mor, kmi_t, kmi_f, w_mif, kfl, w_fld, kpr, w_prop, kis, w_isi, kng, w_neg, kiv, w_inv, kmB, kmA, w_meth, knC, knB, knA, w_methK, kq, w_eqC, w_neC, kcp, w_capI, klc, w_lc, ksq_l, ksq_t, ksq_s, w_seq, krg, w_rng, kst, w_str, kjB, kjA, w_join, ksC, ksB, ksA, w_sl, wp_oNone, kso, w_some, khC, khD_t, khD_f, khB, khA, w_ch, ws_nil, s_cons, kx, kk, ke, s_exp, s_ret, ws_sRetN, ki_t, ki_f, s_if, ks, s_set, kpB, kpA, s_par, kfo, s_for, ws_for0, kr, s_raise, s_try, kat, s_asgT, kaL, s_asgL, gTs_nil, gTs_cons, ws_nxt, ws_ret, wp_own, wp_ownR, oAdd, oSub, oLt, oLe, oGt, oGe, wp_mul, wp_div, wp_mod, wp_pow, gAbs_i, gInt_i, gInt_b, gMax_i, gMin_i, gEqS_i, gNeS_i, gEqS_s, gNeS_s, gEqS_b, gNeS_b, wp_len, len_lst, len_tup, len_scr, ix_l0, ix_t0, ix_t1, ix_t2, en0, List.map_cons, List.map_nil, List.length_cons, List.length_nil, List.cons_append, List.nil_append, List.append_nil, List.replicate_zero, List.reduceReplicate, Nat.reduceAdd, Nat.reduceSub, Nat.zero_add, List.set_cons_zero, List.set_cons_succ, MV.tup.injEq, MV.int.injEq, MV.str.injEq, MV.lst.injEq, MV.bl.injEq, exists_eq_left', exists_eq_left, Option.some.injEq, decide_eq_true_eq, Bool.not_eq_true', decide_eq_false_iff_not, if_true, if_false, Bool.false_eq_true, and_true, true_and, eq_self, decide_true, decide_false, Bool.not_true, Bool.not_false, reduceIte, not_true_eq_false, not_false_eq_true, Bool.true_eq_false, Int.reduceEq, Int.reduceLT, Int.reduceLE, Int.reduceAdd, Int.reduceSub, Int.reduceMul, Int.reduceNeg, Int.reducePow, Int.reduceToNat, Int.reduceNe, ofS, String.reduceEq, in_one, in_two, in_twoI, Nat.reduceLT, Nat.reduceLeDiff, or_self, or_false, false_or, true_or, or_true, and_false, false_and, and_self, pm01, kl1, w_lc1, w_lc0, wipe1, wp_cat, Bool.or_true, Bool.or_false, Bool.true_or, Bool.false_or, Bool.and_true, Bool.and_false, Bool.true_and, Bool.false_and, ej, hz]
  refine wp_use (T_take w3 (m := ((Txt.join "" l).length : Int)) (by omega) (by omega) (Nat.lt_of_le_of_lt (by omega : ((Txt.join "" l).length : Int).natAbs ≤ 8) (by decide))) ?_
  rintro _ S4 ⟨t4, rfl, a4, b4, w4, l4⟩
  simp only [wp_ok, wp_exc, wp_bad, wp_mC, nm0, nm1, nm2, nm3, nm4, nm5, nm6, nm7, nm8, nm9, nm10, nm11, nm12, nm13, nm14, nm15, wp_nil, k3, k2, w_bin, kc, ka, w_cons, kt, w_tup, kl, w_lst, klM, w_lstM, kf, w_frz, kg, w_call, kkB, kkA, w_callK, kb, w_blt, kv, w_val, kn, w_not, kan_t, kan_f, w_and, kor_t, kor_f, w_or, knn, w_mnot, kma_t, kma_f, w_mand, kmo_t, kmo_f, w_mor, kmi_t, kmi_f, w_mif, kfl, w_fld, kpr, w_prop, kis, w_isi, kng, w_neg, kiv, w_inv, kmB, kmA, w_meth, knC, knB, knA, w_methK, kq, w_eqC, w_neC, kcp, w_capI, klc, w_lc, ksq_l, ksq_t, ksq_s, w_seq, krg, w_rng, kst, w_str, kjB, kjA, w_join, ksC, ksB, ksA, w_sl, wp_oNone, kso, w_some, khC, khD_t, khD_f, khB, khA, w_ch, ws_nil, s_cons, kx, kk, ke, s_exp, s_ret, ws_sRetN, ki_t, ki_f, s_if, ks, s_set, kpB, kpA, s_par, kfo, s_for, ws_for0, kr, s_raise, s_try, kat, s_asgT, kaL, s_asgL, gTs_nil, gTs_cons, ws_nxt, ws_ret, wp_own, wp_ownR, oAdd, oSub, oLt, oLe, oGt, oGe, wp_mul, wp_div, wp_mod, wp_pow, gAbs_i, gInt_i, gInt_b, gMax_i, gMin_i, gEqS_i, gNeS_i, gEqS_s, gNeS_s, gEqS_b, gNeS_b, wp_len, len_lst, len_tup, len_scr, ix_l0, ix_t0, ix_t1, ix_t2, en0, List.map_cons, List.map_nil, List.length_cons, List.length_nil, List.cons_append, List.nil_append, List.append_nil, List.replicate_zero, List.reduceReplicate, Nat.reduceAdd, Nat.reduceSub, Nat.zero_add, List.set_cons_zero, List.set_cons_succ, MV.tup.injEq, MV.int.injEq, MV.str.injEq, MV.lst.injEq, MV.bl.injEq, exists_eq_left', exists_eq_left, Option.some.injEq, decide_eq_true_eq, Bool.not_eq_true', decide_eq_false_iff_not, if_true, if_false, Bool.false_eq_true, and_true, true_and, eq_self, decide_true, decide_false, Bool.not_true, Bool.not_false, reduceIte, not_true_eq_false, not_false_eq_true, Bool.true_eq_false, Int.reduceEq, Int.reduceLT, Int.reduceLE, Int.reduceAdd, Int.reduceSub, Int.reduceMul, Int.reduceNeg, Int.reducePow, Int.reduceToNat, Int.reduceNe, ofS, String.reduceEq, in_one, in_two, in_twoI, Nat.reduceLT, Nat.reduceLeDiff, or_self, or_false, false_or, true_or, or_true, and_false, false_and, and_self, pm01, kl1, w_lc1, w_lc0, wipe1, wp_cat, Bool.or_true, Bool.or_false, Bool.true_or, Bool.false_or, Bool.and_true, Bool.and_false, Bool.true_and, Bool.false_and]
  refine wp_use (T_take w4 (by decide)) ?_
  rintro _ S5 ⟨t5, rfl, a5, b5, w5, l5⟩
  obtain ⟨p, hp5, e5⟩ := pace5 t5 S5 a5 b5
  obtain ⟨j, rfl⟩ : ∃ j : Nat, t4 = j := ⟨t4.toNat, by omega⟩
  obtain ⟨l', e6, hl', hp'⟩ := cells3 w many way at_ a2 (Txt.join "" l) gb j p (by omega) hp5 hm.2 S5
  unfold cfE at e6
  simp only [wp_ok, wp_exc, wp_bad, wp_mC, nm0, nm1, nm2, nm3, nm4, nm5, nm6, nm7, nm8, nm9, nm10, nm11, nm12, nm13, nm14, nm15, wp_nil, k3, k2, w_bin, kc, ka, w_cons, kt, w_tup, kl, w_lst, klM, w_lstM, kf, w_frz, kg, w_call, kkB, kkA, w_callK, kb, w_blt, kv, w_val, kn, w_not, kan_t, kan_f, w_and, kor_t, kor_f, w_or, knn, w_mnot, kma_t, kma_f, w_mand, kmo_t, kmo_f, w_mor, kmi_t, kmi_f, w_mif, kfl, w_fld, kpr, w_prop, kis, w_isi, kng, w_neg, kiv, w_inv, kmB, kmA, w_meth, knC, knB, knA, w_methK, kq, w_eqC, w_neC, kcp, w_capI, klc, w_lc, ksq_l, ksq_t, ksq_s, w_seq, krg, w_rng, kst, w_str, kjB, kjA, w_join, ksC, ksB, ksA, w_sl, wp_oNone, kso, w_some, khC, khD_t, khD_f, khB, khA, w_ch, ws_nil, s_cons, kx, kk, ke, s_exp, s_ret, ws_sRetN, ki_t, ki_f, s_if, ks, s_set, kpB, kpA, s_par, kfo, s_for, ws_for0, kr, s_raise, s_try, kat, s_asgT, kaL, s_asgL, gTs_nil, gTs_cons, ws_nxt, ws_ret, wp_own, wp_ownR, oAdd, oSub, oLt, oLe, oGt, oGe, wp_mul, wp_div, wp_mod, wp_pow, gAbs_i, gInt_i, gInt_b, gMax_i, gMin_i, gEqS_i, gNeS_i, gEqS_s, gNeS_s, gEqS_b, gNeS_b, wp_len, len_lst, len_tup, len_scr, ix_l0, ix_t0, ix_t1, ix_t2, en0, List.map_cons, List.map_nil, List.length_cons, List.length_nil, List.cons_append, List.nil_append, List.append_nil, List.replicate_zero, List.reduceReplicate, Nat.reduceAdd, Nat.reduceSub, Nat.zero_add, List.set_cons_zero, List.set_cons_succ, MV.tup.injEq, MV.int.injEq, MV.str.injEq, MV.lst.injEq, MV.bl.injEq, exists_eq_left', exists_eq_left, Option.some.injEq, decide_eq_true_eq, Bool.not_eq_true', decide_eq_false_iff_not, if_true, if_false, Bool.false_eq_true, and_true, true_and, eq_self, decide_true, decide_false, Bool.not_true, Bool.not_false, reduceIte, not_true_eq_false, not_false_eq_true, Bool.true_eq_false, Int.reduceEq, Int.reduceLT, Int.reduceLE, Int.reduceAdd, Int.reduceSub, Int.reduceMul, Int.reduceNeg, Int.reducePow, Int.reduceToNat, Int.reduceNe, ofS, String.reduceEq, in_one, in_two, in_twoI, Nat.reduceLT, Nat.reduceLeDiff, or_self, or_false, false_or, true_or, or_true, and_false, false_and, and_self, pm01, kl1, w_lc1, w_lc0, wipe1, wp_cat, Bool.or_true, Bool.or_false, Bool.true_or, Bool.false_or, Bool.and_true, Bool.and_false, Bool.true_and, Bool.false_and, e5, hb, hN, hr, e6]
  exact ⟨by omega, l', rfl, hl', hp', w5.mono (by omega), by omega⟩

end Q2

set_option maxHeartbeats 4000000
set_option exponentiation.threshold 5000
namespace Q2
open PySem PySem.Spec PyProof.Rows L2 Mi

def aT (x : PySem.Str) : Prop := x.length ≤ 14 ∧ ∀ k ∈ x.cps.toList, k < 128
theorem abc_lt : ∀ k ∈ abc.cps.toList, k < 128 := by decide +kernel
theorem let2 (w n : Nat) (S : So) (c : Nat) (hw : Wl S w c) (hn : n ≤ 13) (hc : c < 700000000) :
    wp (lcL [5] (gN 5) tYesM (mBin ixM (mName 1) (mCall f__law_take [] [(mName 0), (mC (.int 26))])) (rngM 0 n) [some (.ref w), some (.str abc), none, none, none, none] S) (fun ys S' => ∃ l, ys = smv l ∧ l.length = n ∧ (∀ x ∈ l, one1 x) ∧ Wl S' w (c + n) ∧ S'.length = S.length) noE := by
  have hab : abc.length ≤ SZ := by rw [len_abc]; exact Nat.le_of_ble_eq_true rfl
  refine wp_mono (wp_lcI (E := noE) (fun xs ys S1 => ∃ l, ys = smv l ∧ l.length + xs.length = n ∧ (∀ x ∈ l, one1 x) ∧ Wl S1 w (c + l.length) ∧ S1.length = S.length) (rngM 0 n) [] S ?_ ⟨[], rfl, (by rw [rng_len]; simp), (fun x h => nomatch h), hw, rfl⟩) ?_ (fun _ _ _ h => h)
  · rintro x xs ys S1 ⟨l, rfl, hl, hp, w1, l1⟩
    show wp (mBin ixM (mName 1) (mCall f__law_take [] [(mName 0), (mC (.int 26))]) [some (.ref w), some (.str abc), none, none, none, some x] S1) _ _
    simp only [wp_ok, wp_exc, wp_bad, wp_mC, nm0, nm1, nm2, nm3, nm4, nm5, nm6, nm7, nm8, nm9, nm10, nm11, nm12, nm13, nm14, nm15, wp_nil, k3, k2, w_bin, kc, ka, w_cons, kt, w_tup, kl, w_lst, klM, w_lstM, kf, w_frz, kg, w_call, kkB, kkA, w_callK, kb, w_blt, kv, w_val, kn, w_not, kan_t, kan_f, w_and, kor_t, kor_f, w_or, knn, w_mnot, kma_t, kma_f, w_mand, kmo_t, kmo_f, w_mor, kmi_t, kmi_f, w_mif, kfl, w_fld, kpr, w_prop, kis, w_isi, kng, w_neg, kiv, w_inv, kmB, kmA, w_meth, knC, knB, knA, w_methK, kq, w_eqC, w_neC, kcp, w_capI, klc, w_lc, ksq_l, ksq_t, ksq_s, w_seq, krg, w_rng, kst, w_str, kjB, kjA, w_join, ksC, ksB, ksA, w_sl, wp_oNone, kso, w_some, khC, khD_t, khD_f, khB, khA, w_ch, ws_nil, s_cons, kx, kk, ke, s_exp, s_ret, ws_sRetN, ki_t, ki_f, s_if, ks, s_set, kpB, kpA, s_par, kfo, s_for, ws_for0, kr, s_raise, s_try, kat, s_asgT, kaL, s_asgL, gTs_nil, gTs_cons, ws_nxt, ws_ret, wp_own, wp_ownR, oAdd, oSub, oLt, oLe, oGt, oGe, wp_mul, wp_div, wp_mod, wp_pow, gAbs_i, gInt_i, gInt_b, gMax_i, gMin_i, gEqS_i, gNeS_i, gEqS_s, gNeS_s, gEqS_b, gNeS_b, wp_len, len_lst, len_tup, len_scr, ix_l0, ix_t0, ix_t1, ix_t2, en0, List.map_cons, List.map_nil, List.length_cons, List.length_nil, List.cons_append, List.nil_append, List.append_nil, List.replicate_zero, List.reduceReplicate, Nat.reduceAdd, Nat.reduceSub, Nat.zero_add, List.set_cons_zero, List.set_cons_succ, MV.tup.injEq, MV.int.injEq, MV.str.injEq, MV.lst.injEq, MV.bl.injEq, exists_eq_left', exists_eq_left, Option.some.injEq, decide_eq_true_eq, Bool.not_eq_true', decide_eq_false_iff_not, if_true, if_false, Bool.false_eq_true, and_true, true_and, eq_self, decide_true, decide_false, Bool.not_true, Bool.not_false, reduceIte, not_true_eq_false, not_false_eq_true, Bool.true_eq_false, Int.reduceEq, Int.reduceLT, Int.reduceLE, Int.reduceAdd, Int.reduceSub, Int.reduceMul, Int.reduceNeg, Int.reducePow, Int.reduceToNat, Int.reduceNe, ofS, String.reduceEq, in_one, in_two, in_twoI, Nat.reduceLT, Nat.reduceLeDiff, or_self, or_false, false_or, true_or, or_true, and_false, false_and, and_self, pm01, kl1, w_lc1, w_lc0, wipe1, wp_cat, Bool.or_true, Bool.or_false, Bool.true_or, Bool.false_or, Bool.and_true, Bool.and_false, Bool.true_and, Bool.false_and]
    rw [List.length_cons] at hl
    refine wp_use (T_take w1 (by decide)) ?_
    rintro _ S2 ⟨t2, rfl, a2, b2, w2, l2⟩
    obtain ⟨k, hk, ek⟩ := ixS abc t2 S2 hab a2 (by rw [len_abc]; omega)
    simp only [wp_ok, wp_exc, wp_bad, wp_mC, nm0, nm1, nm2, nm3, nm4, nm5, nm6, nm7, nm8, nm9, nm10, nm11, nm12, nm13, nm14, nm15, wp_nil, k3, k2, w_bin, kc, ka, w_cons, kt, w_tup, kl, w_lst, klM, w_lstM, kf, w_frz, kg, w_call, kkB, kkA, w_callK, kb, w_blt, kv, w_val, kn, w_not, kan_t, kan_f, w_and, kor_t, kor_f, w_or, knn, w_mnot, kma_t, kma_f, w_mand, kmo_t, kmo_f, w_mor, kmi_t, kmi_f, w_mif, kfl, w_fld, kpr, w_prop, kis, w_isi, kng, w_neg, kiv, w_inv, kmB, kmA, w_meth, knC, knB, knA, w_methK, kq, w_eqC, w_neC, kcp, w_capI, klc, w_lc, ksq_l, ksq_t, ksq_s, w_seq, krg, w_rng, kst, w_str, kjB, kjA, w_join, ksC, ksB, ksA, w_sl, wp_oNone, kso, w_some, khC, khD_t, khD_f, khB, khA, w_ch, ws_nil, s_cons, kx, kk, ke, s_exp, s_ret, ws_sRetN, ki_t, ki_f, s_if, ks, s_set, kpB, kpA, s_par, kfo, s_for, ws_for0, kr, s_raise, s_try, kat, s_asgT, kaL, s_asgL, gTs_nil, gTs_cons, ws_nxt, ws_ret, wp_own, wp_ownR, oAdd, oSub, oLt, oLe, oGt, oGe, wp_mul, wp_div, wp_mod, wp_pow, gAbs_i, gInt_i, gInt_b, gMax_i, gMin_i, gEqS_i, gNeS_i, gEqS_s, gNeS_s, gEqS_b, gNeS_b, wp_len, len_lst, len_tup, len_scr, ix_l0, ix_t0, ix_t1, ix_t2, en0, List.map_cons, List.map_nil, List.length_cons, List.length_nil, List.cons_append, List.nil_append, List.append_nil, List.replicate_zero, List.reduceReplicate, Nat.reduceAdd, Nat.reduceSub, Nat.zero_add, List.set_cons_zero, List.set_cons_succ, MV.tup.injEq, MV.int.injEq, MV.str.injEq, MV.lst.injEq, MV.bl.injEq, exists_eq_left', exists_eq_left, Option.some.injEq, decide_eq_true_eq, Bool.not_eq_true', decide_eq_false_iff_not, if_true, if_false, Bool.false_eq_true, and_true, true_and, eq_self, decide_true, decide_false, Bool.not_true, Bool.not_false, reduceIte, not_true_eq_false, not_false_eq_true, Bool.true_eq_false, Int.reduceEq, Int.reduceLT, Int.reduceLE, Int.reduceAdd, Int.reduceSub, Int.reduceMul, Int.reduceNeg, Int.reducePow, Int.reduceToNat, Int.reduceNe, ofS, String.reduceEq, in_one, in_two, in_twoI, Nat.reduceLT, Nat.reduceLeDiff, or_self, or_false, false_or, true_or, or_true, and_false, false_and, and_self, pm01, kl1, w_lc1, w_lc0, wipe1, wp_cat, Bool.or_true, Bool.or_false, Bool.true_or, Bool.false_or, Bool.and_true, Bool.and_false, Bool.true_and, Bool.false_and, ek]
    refine ⟨l ++ [⟨#[k]⟩], (by show l.map MV.str ++ _ = (l ++ _).map MV.str; rw [List.map_append]; rfl), by rw [List.length_append, List.length_singleton]; omega, fun x hx => ?_, w2.mono (by rw [List.length_append, List.length_singleton]; omega), by omega⟩
    rcases List.mem_append.mp hx with hx | hx
    · exact hp x hx
    · rw [List.mem_singleton.mp hx]; exact one_let hk
  · rintro zs S2 ⟨l, e, hl, hp, w1, l1⟩
    rw [List.nil_append] at e
    have hl' : l.length = n := by simpa using hl
    exact ⟨l, e, hl', hp, w1.mono (by omega), l1⟩
abbrev odd15 : PySem.Str := "`{AZ09_ ~!@-.:?"
theorem len_odd : odd15.length = 15 := by decide +kernel
theorem odd_lt : ∀ k ∈ odd15.cps.toList, k < 128 := by decide +kernel
theorem cat_list (p q : PySem.Str) : (p ++ q).cps.toList = p.cps.toList ++ q.cps.toList := by
  show (p.cps ++ q.cps).toList = _
  rw [Array.toList_append]
theorem cat_len (p q : PySem.Str) : (p ++ q).length = p.length + q.length := by
  rw [← str_len, cat_list, List.length_append, str_len, str_len]
/-- text[:place] + odd + text[place + d:] -/
theorem odd_cut (b : PySem.Str) (c j d : Nat) (lb : b.length ≤ 13) (hb : ∀ k ∈ b.cps.toList, k < 128) (hc : c < 128) (hj : j ≤ b.length) (S : So) :
    ∃ x y z, slM (.str b) none (some (j : Int)) S = .ok (.str x) S ∧ (∀ S', slM (.str b) (some ((j : Int) + (d : Int))) none S' = .ok (.str y) S') ∧ (∀ S', gAddS (.str x) (.str ⟨#[c]⟩) S' = .ok (.str z) S') ∧ (∀ S', gAddS (.str z) (.str y) S' = .ok (.str (z ++ y)) S') ∧ aT (z ++ y) := by
  have hz : b.length ≤ SZ := Nat.le_trans lb (by decide)
  have hx : (cutS b none (some (j : Int))).cps.toList = b.cps.toList.take j := by
    show ((b.cps.toList.drop (HT.sIx b.length 0 none)).take (HT.sIx b.length b.length (some (j : Int)) - HT.sIx b.length 0 none)).toArray.toList = _
    rw [HT.sIx_none, HT.sIx_nat]
    simp
    omega
  have hy : (cutS b (some ((j : Int) + (d : Int))) none).cps.toList = b.cps.toList.drop (min (j + d) b.length) := by
    show ((b.cps.toList.drop (HT.sIx b.length 0 (some ((j : Int) + (d : Int))))).take (HT.sIx b.length b.length none - HT.sIx b.length 0 (some ((j : Int) + (d : Int))))).toArray.toList = _
    rw [HT.sIx_none, show ((j : Int) + (d : Int)) = ((j + d : Nat) : Int) by omega, HT.sIx_nat]
    rw [List.take_of_length_le]
    rw [List.length_drop, str_len]
    exact Nat.le_refl _
  have lx : (cutS b none (some (j : Int))).length ≤ j := by
    rw [← str_len, hx, List.length_take]; omega
  have ly : (cutS b (some ((j : Int) + (d : Int))) none).length ≤ b.length - j := by
    rw [← str_len, hy, List.length_drop, str_len]; omega
  have l1 : (⟨#[c]⟩ : PySem.Str).length = 1 := rfl
  have sz : SZ = 16777216 := rfl
  refine ⟨cutS b none (some (j : Int)), cutS b (some ((j : Int) + (d : Int))) none, cutS b none (some (j : Int)) ++ ⟨#[c]⟩, if_pos hz, fun S' => if_pos hz, fun S' => addS S' (by rw [l1, sz]; omega), fun S' => addS S' (by rw [cat_len, l1, sz]; omega), ⟨by rw [cat_len, cat_len, l1]; omega, fun k hk => ?_⟩⟩
  rw [cat_list, cat_list] at hk
  rcases List.mem_append.mp hk with hk | hk
  · rcases List.mem_append.mp hk with hk | hk
    · rw [hx] at hk
      exact hb k (List.mem_of_mem_take hk)
    · have : k = c := by simpa using hk
      rw [this]; exact hc
  · rw [hy] at hk
    exact hb k (List.mem_of_mem_drop hk)
theorem T_text {S : So} {w c : Nat} (hw : Wl S w c) (hc : c < 600000000) : wp (f__law_text [.ref w] S) (fun y S' => ∃ x, y = .str x ∧ aT x ∧ Wl S' w (c + 25) ∧ S'.length = S.length) noE := by
  refine wp_def ?_
  simp only [wp_ok, wp_exc, wp_bad, wp_mC, nm0, nm1, nm2, nm3, nm4, nm5, nm6, nm7, nm8, nm9, nm10, nm11, nm12, nm13, nm14, nm15, wp_nil, k3, k2, w_bin, kc, ka, w_cons, kt, w_tup, kl, w_lst, klM, w_lstM, kf, w_frz, kg, w_call, kkB, kkA, w_callK, kb, w_blt, kv, w_val, kn, w_not, kan_t, kan_f, w_and, kor_t, kor_f, w_or, knn, w_mnot, kma_t, kma_f, w_mand, kmo_t, kmo_f, w_mor, kmi_t, kmi_f, w_mif, kfl, w_fld, kpr, w_prop, kis, w_isi, kng, w_neg, kiv, w_inv, kmB, kmA, w_meth, knC, knB, knA, w_methK, kq, w_eqC, w_neC, kcp, w_capI, klc, w_lc, ksq_l, ksq_t, ksq_s, w_seq, krg, w_rng, kst, w_str, kjB, kjA, w_join, ksC, ksB, ksA, w_sl, wp_oNone, kso, w_some, khC, khD_t, khD_f, khB, khA, w_ch, ws_nil, s_cons, kx, kk, ke, s_exp, s_ret, ws_sRetN, ki_t, ki_f, s_if, ks, s_set, kpB, kpA, s_par, kfo, s_for, ws_for0, kr, s_raise, s_try, kat, s_asgT, kaL, s_asgL, gTs_nil, gTs_cons, ws_nxt, ws_ret, wp_own, wp_ownR, oAdd, oSub, oLt, oLe, oGt, oGe, wp_mul, wp_div, wp_mod, wp_pow, gAbs_i, gInt_i, gInt_b, gMax_i, gMin_i, gEqS_i, gNeS_i, gEqS_s, gNeS_s, gEqS_b, gNeS_b, wp_len, len_lst, len_tup, len_scr, ix_l0, ix_t0, ix_t1, ix_t2, en0, List.map_cons, List.map_nil, List.length_cons, List.length_nil, List.cons_append, List.nil_append, List.append_nil, List.replicate_zero, List.reduceReplicate, Nat.reduceAdd, Nat.reduceSub, Nat.zero_add, List.set_cons_zero, List.set_cons_succ, MV.tup.injEq, MV.int.injEq, MV.str.injEq, MV.lst.injEq, MV.bl.injEq, exists_eq_left', exists_eq_left, Option.some.injEq, decide_eq_true_eq, Bool.not_eq_true', decide_eq_false_iff_not, if_true, if_false, Bool.false_eq_true, and_true, true_and, eq_self, decide_true, decide_false, Bool.not_true, Bool.not_false, reduceIte, not_true_eq_false, not_false_eq_true, Bool.true_eq_false, Int.reduceEq, Int.reduceLT, Int.reduceLE, Int.reduceAdd, Int.reduceSub, Int.reduceMul, Int.reduceNeg, Int.reducePow, Int.reduceToNat, Int.reduceNe, ofS, String.reduceEq, in_one, in_two, in_twoI, Nat.reduceLT, Nat.reduceLeDiff, or_self, or_false, false_or, true_or, or_true, and_false, false_and, and_self, pm01, kl1, w_lc1, w_lc0, wipe1, wp_cat, Bool.or_true, Bool.or_false, Bool.true_or, Bool.false_or, Bool.and_true, Bool.and_false, Bool.true_and, Bool.false_and]
  refine wp_use (T_take hw (by decide)) ?_
  rintro _ S1 ⟨t1, rfl, a1, b1, w1, l1⟩
  obtain ⟨y, hy, e⟩ := ixP [.int 10, .int 13] t1 S1 a1 (by simpa using b1)
  obtain ⟨m, rfl, hm⟩ : ∃ m : Int, y = .int m ∧ (0 < m ∧ m ≤ 13) := by
    simp only [List.mem_cons, List.not_mem_nil, or_false] at hy
    rcases hy with rfl | rfl <;> exact ⟨_, rfl, by decide, by decide⟩
  simp only [wp_ok, wp_exc, wp_bad, wp_mC, nm0, nm1, nm2, nm3, nm4, nm5, nm6, nm7, nm8, nm9, nm10, nm11, nm12, nm13, nm14, nm15, wp_nil, k3, k2, w_bin, kc, ka, w_cons, kt, w_tup, kl, w_lst, klM, w_lstM, kf, w_frz, kg, w_call, kkB, kkA, w_callK, kb, w_blt, kv, w_val, kn, w_not, kan_t, kan_f, w_and, kor_t, kor_f, w_or, knn, w_mnot, kma_t, kma_f, w_mand, kmo_t, kmo_f, w_mor, kmi_t, kmi_f, w_mif, kfl, w_fld, kpr, w_prop, kis, w_isi, kng, w_neg, kiv, w_inv, kmB, kmA, w_meth, knC, knB, knA, w_methK, kq, w_eqC, w_neC, kcp, w_capI, klc, w_lc, ksq_l, ksq_t, ksq_s, w_seq, krg, w_rng, kst, w_str, kjB, kjA, w_join, ksC, ksB, ksA, w_sl, wp_oNone, kso, w_some, khC, khD_t, khD_f, khB, khA, w_ch, ws_nil, s_cons, kx, kk, ke, s_exp, s_ret, ws_sRetN, ki_t, ki_f, s_if, ks, s_set, kpB, kpA, s_par, kfo, s_for, ws_for0, kr, s_raise, s_try, kat, s_asgT, kaL, s_asgL, gTs_nil, gTs_cons, ws_nxt, ws_ret, wp_own, wp_ownR, oAdd, oSub, oLt, oLe, oGt, oGe, wp_mul, wp_div, wp_mod, wp_pow, gAbs_i, gInt_i, gInt_b, gMax_i, gMin_i, gEqS_i, gNeS_i, gEqS_s, gNeS_s, gEqS_b, gNeS_b, wp_len, len_lst, len_tup, len_scr, ix_l0, ix_t0, ix_t1, ix_t2, en0, List.map_cons, List.map_nil, List.length_cons, List.length_nil, List.cons_append, List.nil_append, List.append_nil, List.replicate_zero, List.reduceReplicate, Nat.reduceAdd, Nat.reduceSub, Nat.zero_add, List.set_cons_zero, List.set_cons_succ, MV.tup.injEq, MV.int.injEq, MV.str.injEq, MV.lst.injEq, MV.bl.injEq, exists_eq_left', exists_eq_left, Option.some.injEq, decide_eq_true_eq, Bool.not_eq_true', decide_eq_false_iff_not, if_true, if_false, Bool.false_eq_true, and_true, true_and, eq_self, decide_true, decide_false, Bool.not_true, Bool.not_false, reduceIte, not_true_eq_false, not_false_eq_true, Bool.true_eq_false, Int.reduceEq, Int.reduceLT, Int.reduceLE, Int.reduceAdd, Int.reduceSub, Int.reduceMul, Int.reduceNeg, Int.reducePow, Int.reduceToNat, Int.reduceNe, ofS, String.reduceEq, in_one, in_two, in_twoI, Nat.reduceLT, Nat.reduceLeDiff, or_self, or_false, false_or, true_or, or_true, and_false, false_and, and_self, pm01, kl1, w_lc1, w_lc0, wipe1, wp_cat, Bool.or_true, Bool.or_false, Bool.true_or, Bool.false_or, Bool.and_true, Bool.and_false, Bool.true_and, Bool.false_and, e]
  refine wp_use (T_take w1 (m := m) hm.1 (by omega) (Nat.lt_of_le_of_lt (by omega : m.natAbs ≤ 13) (by decide))) ?_
  rintro _ S2 ⟨t2, rfl, a2, b2, w2, l2⟩
  obtain ⟨n, rfl⟩ : ∃ n : Nat, t2 = n := ⟨t2.toNat, by omega⟩
  have hN : ((n : Nat) : Int).toNat = n := Int.toNat_natCast n
  have hb := b62 n (by omega)
  have hr : (rngM 0 n).length ≤ SZ := by rw [rng_len]; have : SZ = 16777216 := rfl; omega
  simp only [wp_ok, wp_exc, wp_bad, wp_mC, nm0, nm1, nm2, nm3, nm4, nm5, nm6, nm7, nm8, nm9, nm10, nm11, nm12, nm13, nm14, nm15, wp_nil, k3, k2, w_bin, kc, ka, w_cons, kt, w_tup, kl, w_lst, klM, w_lstM, kf, w_frz, kg, w_call, kkB, kkA, w_callK, kb, w_blt, kv, w_val, kn, w_not, kan_t, kan_f, w_and, kor_t, kor_f, w_or, knn, w_mnot, kma_t, kma_f, w_mand, kmo_t, kmo_f, w_mor, kmi_t, kmi_f, w_mif, kfl, w_fld, kpr, w_prop, kis, w_isi, kng, w_neg, kiv, w_inv, kmB, kmA, w_meth, knC, knB, knA, w_methK, kq, w_eqC, w_neC, kcp, w_capI, klc, w_lc, ksq_l, ksq_t, ksq_s, w_seq, krg, w_rng, kst, w_str, kjB, kjA, w_join, ksC, ksB, ksA, w_sl, wp_oNone, kso, w_some, khC, khD_t, khD_f, khB, khA, w_ch, ws_nil, s_cons, kx, kk, ke, s_exp, s_ret, ws_sRetN, ki_t, ki_f, s_if, ks, s_set, kpB, kpA, s_par, kfo, s_for, ws_for0, kr, s_raise, s_try, kat, s_asgT, kaL, s_asgL, gTs_nil, gTs_cons, ws_nxt, ws_ret, wp_own, wp_ownR, oAdd, oSub, oLt, oLe, oGt, oGe, wp_mul, wp_div, wp_mod, wp_pow, gAbs_i, gInt_i, gInt_b, gMax_i, gMin_i, gEqS_i, gNeS_i, gEqS_s, gNeS_s, gEqS_b, gNeS_b, wp_len, len_lst, len_tup, len_scr, ix_l0, ix_t0, ix_t1, ix_t2, en0, List.map_cons, List.map_nil, List.length_cons, List.length_nil, List.cons_append, List.nil_append, List.append_nil, List.replicate_zero, List.reduceReplicate, Nat.reduceAdd, Nat.reduceSub, Nat.zero_add, List.set_cons_zero, List.set_cons_succ, MV.tup.injEq, MV.int.injEq, MV.str.injEq, MV.lst.injEq, MV.bl.injEq, exists_eq_left', exists_eq_left, Option.some.injEq, decide_eq_true_eq, Bool.not_eq_true', decide_eq_false_iff_not, if_true, if_false, Bool.false_eq_true, and_true, true_and, eq_self, decide_true, decide_false, Bool.not_true, Bool.not_false, reduceIte, not_true_eq_false, not_false_eq_true, Bool.true_eq_false, Int.reduceEq, Int.reduceLT, Int.reduceLE, Int.reduceAdd, Int.reduceSub, Int.reduceMul, Int.reduceNeg, Int.reducePow, Int.reduceToNat, Int.reduceNe, ofS, String.reduceEq, in_one, in_two, in_twoI, Nat.reduceLT, Nat.reduceLeDiff, or_self, or_false, false_or, true_or, or_true, and_false, false_and, and_self, pm01, kl1, w_lc1, w_lc0, wipe1, wp_cat, Bool.or_true, Bool.or_false, Bool.true_or, Bool.false_or, Bool.and_true, Bool.and_false, Bool.true_and, Bool.false_and, hb, hN, hr]
  refine wp_use (let2 w n S2 (c + 1 + 1) w2 (by omega) (by omega)) ?_
  rintro _ S3 ⟨l, rfl, hl, hp, w3, l3⟩
  have ej := joinI l S3 (by omega) hp
  obtain ⟨j1, j2⟩ := join_ones l hp
  simp only [wp_ok, wp_exc, wp_bad, wp_mC, nm0, nm1, nm2, nm3, nm4, nm5, nm6, nm7, nm8, nm9, nm10, nm11, nm12, nm13, nm14, nm15, wp_nil, k3, k2, w_bin, kc, ka, w_cons, kt, w_tup, kl, w_lst, klM, w_lstM, kf, w_frz, kg, w_call, kkB, kkA, w_callK, kb, w_blt, kv, w_val, kn, w_not, kan_t, kan_f, w_and, kor_t, kor_f, w_or, knn, w_mnot, kma_t, kma_f, w_mand, kmo_t, kmo_f, w_mor, kmi_t, kmi_f, w_mif, kfl, w_fld, kpr, w_prop, kis, w_isi, kng, w_neg, kiv, w_inv, kmB, kmA, w_meth, knC, knB, knA, w_methK, kq, w_eqC, w_neC, kcp, w_capI, klc, w_lc, ksq_l, ksq_t, ksq_s, w_seq, krg, w_rng, kst, w_str, kjB, kjA, w_join, ksC, ksB, ksA, w_sl, wp_oNone, kso, w_some, khC, khD_t, khD_f, khB, khA, w_ch, ws_nil, s_cons, kx, kk, ke, s_exp, s_ret, ws_sRetN, ki_t, ki_f, s_if, ks, s_set, kpB, kpA, s_par, kfo, s_for, ws_for0, kr, s_raise, s_try, kat, s_asgT, kaL, s_asgL, gTs_nil, gTs_cons, ws_nxt, ws_ret, wp_own, wp_ownR, oAdd, oSub, oLt, oLe, oGt, oGe, wp_mul, wp_div, wp_mod, wp_pow, gAbs_i, gInt_i, gInt_b, gMax_i, gMin_i, gEqS_i, gNeS_i, gEqS_s, gNeS_s, gEqS_b, gNeS_b, wp_len, len_lst, len_tup, len_scr, ix_l0, ix_t0, ix_t1, ix_t2, en0, List.map_cons, List.map_nil, List.length_cons, List.length_nil, List.cons_append, List.nil_append, List.append_nil, List.replicate_zero, List.reduceReplicate, Nat.reduceAdd, Nat.reduceSub, Nat.zero_add, List.set_cons_zero, List.set_cons_succ, MV.tup.injEq, MV.int.injEq, MV.str.injEq, MV.lst.injEq, MV.bl.injEq, exists_eq_left', exists_eq_left, Option.some.injEq, decide_eq_true_eq, Bool.not_eq_true', decide_eq_false_iff_not, if_true, if_false, Bool.false_eq_true, and_true, true_and, eq_self, decide_true, decide_false, Bool.not_true, Bool.not_false, reduceIte, not_true_eq_false, not_false_eq_true, Bool.true_eq_false, Int.reduceEq, Int.reduceLT, Int.reduceLE, Int.reduceAdd, Int.reduceSub, Int.reduceMul, Int.reduceNeg, Int.reducePow, Int.reduceToNat, Int.reduceNe, ofS, String.reduceEq, in_one, in_two, in_twoI, Nat.reduceLT, Nat.reduceLeDiff, or_self, or_false, false_or, true_or, or_true, and_false, false_and, and_self, pm01, kl1, w_lc1, w_lc0, wipe1, wp_cat, Bool.or_true, Bool.or_false, Bool.true_or, Bool.false_or, Bool.and_true, Bool.and_false, Bool.true_and, Bool.false_and, ej]
  have hb : ∀ k ∈ (Txt.join "" l).cps.toList, k < 128 := fun k hk => abc_lt k (j2 k hk)
  refine wp_use (T_take w3 (by decide)) ?_
  rintro _ S4 ⟨t4, rfl, a4, b4, w4, l4⟩
  have hz : (Txt.join "" l).length ≤ SZ := by have : SZ = 16777216 := rfl; omega
  by_cases h4 : t4 = 0
  · simp only [wp_ok, wp_exc, wp_bad, wp_mC, nm0, nm1, nm2, nm3, nm4, nm5, nm6, nm7, nm8, nm9, nm10, nm11, nm12, nm13, nm14, nm15, wp_nil, k3, k2, w_bin, kc, ka, w_cons, kt, w_tup, kl, w_lst, klM, w_lstM, kf, w_frz, kg, w_call, kkB, kkA, w_callK, kb, w_blt, kv, w_val, kn, w_not, kan_t, kan_f, w_and, kor_t, kor_f, w_or, knn, w_mnot, kma_t, kma_f, w_mand, kmo_t, kmo_f, w_mor, kmi_t, kmi_f, w_mif, kfl, w_fld, kpr, w_prop, kis, w_isi, kng, w_neg, kiv, w_inv, kmB, kmA, w_meth, knC, knB, knA, w_methK, kq, w_eqC, w_neC, kcp, w_capI, klc, w_lc, ksq_l, ksq_t, ksq_s, w_seq, krg, w_rng, kst, w_str, kjB, kjA, w_join, ksC, ksB, ksA, w_sl, wp_oNone, kso, w_some, khC, khD_t, khD_f, khB, khA, w_ch, ws_nil, s_cons, kx, kk, ke, s_exp, s_ret, ws_sRetN, ki_t, ki_f, s_if, ks, s_set, kpB, kpA, s_par, kfo, s_for, ws_for0, kr, s_raise, s_try, kat, s_asgT, kaL, s_asgL, gTs_nil, gTs_cons, ws_nxt, ws_ret, wp_own, wp_ownR, oAdd, oSub, oLt, oLe, oGt, oGe, wp_mul, wp_div, wp_mod, wp_pow, gAbs_i, gInt_i, gInt_b, gMax_i, gMin_i, gEqS_i, gNeS_i, gEqS_s, gNeS_s, gEqS_b, gNeS_b, wp_len, len_lst, len_tup, len_scr, ix_l0, ix_t0, ix_t1, ix_t2, en0, List.map_cons, List.map_nil, List.length_cons, List.length_nil, List.cons_append, List.nil_append, List.append_nil, List.replicate_zero, List.reduceReplicate, Nat.reduceAdd, Nat.reduceSub, Nat.zero_add, List.set_cons_zero, List.set_cons_succ, MV.tup.injEq, MV.int.injEq, MV.str.injEq, MV.lst.injEq, MV.bl.injEq, exists_eq_left', exists_eq_left, Option.some.injEq, decide_eq_true_eq, Bool.not_eq_true', decide_eq_false_iff_not, if_true, if_false, Bool.false_eq_true, and_true, true_and, eq_self, decide_true, decide_false, Bool.not_true, Bool.not_false, reduceIte, not_true_eq_false, not_false_eq_true, Bool.true_eq_false, Int.reduceEq, Int.reduceLT, Int.reduceLE, Int.reduceAdd, Int.reduceSub, Int.reduceMul, Int.reduceNeg, Int.reducePow, Int.reduceToNat, Int.reduceNe, ofS, String.reduceEq, in_one, in_two, in_twoI, Nat.reduceLT, Nat.reduceLeDiff, or_self, or_false, false_or, true_or, or_true, and_false, false_and, and_self, pm01, kl1, w_lc1, w_lc0, wipe1, wp_cat, Bool.or_true, Bool.or_false, Bool.true_or, Bool.false_or, Bool.and_true, Bool.and_false, Bool.true_and, Bool.false_and, h4]
    exact ⟨by omega, ⟨by omega, hb⟩, w4.mono (by omega), by omega⟩
  simp only [wp_ok, wp_exc, wp_bad, wp_mC, nm0, nm1, nm2, nm3, nm4, nm5, nm6, nm7, nm8, nm9, nm10, nm11, nm12, nm13, nm14, nm15, wp_nil, k3, k2, w_bin, kc, ka, w_cons, kt, w_tup, kl, w_lst, klM, w_lstM, kf, w_frz, kg, w_call, kkB, kkA, w_callK, kb, w_blt, kv, w_val, kn, w_not, kan_t, kan_f, w_and, kor_t, kor_f, w_or, knn, w_mnot, kma_t, kma_f, w_mand, kmo_t, kmo_f, w_mor, kmi_t, kmi_f, w_mif, kfl, w_fld, kpr, w_prop, kis, w_isi, kng, w_neg, kiv, w_inv, kmB, kmA, w_meth, knC, knB, knA, w_methK, kq, w_eqC, w_neC, kcp, w_capI, klc, w_lc, ksq_l, ksq_t, ksq_s, w_seq, krg, w_rng, kst, w_str, kjB, kjA, w_join, ksC, ksB, ksA, w_sl, wp_oNone, kso, w_some, khC, khD_t, khD_f, khB, khA, w_ch, ws_nil, s_cons, kx, kk, ke, s_exp, s_ret, ws_sRetN, ki_t, ki_f, s_if, ks, s_set, kpB, kpA, s_par, kfo, s_for, ws_for0, kr, s_raise, s_try, kat, s_asgT, kaL, s_asgL, gTs_nil, gTs_cons, ws_nxt, ws_ret, wp_own, wp_ownR, oAdd, oSub, oLt, oLe, oGt, oGe, wp_mul, wp_div, wp_mod, wp_pow, gAbs_i, gInt_i, gInt_b, gMax_i, gMin_i, gEqS_i, gNeS_i, gEqS_s, gNeS_s, gEqS_b, gNeS_b, wp_len, len_lst, len_tup, len_scr, ix_l0, ix_t0, ix_t1, ix_t2, en0, List.map_cons, List.map_nil, List.length_cons, List.length_nil, List.cons_append, List.nil_append, List.append_nil, List.replicate_zero, List.reduceReplicate, Nat.reduceAdd, Nat.reduceSub, Nat.zero_add, List.set_cons_zero, List.set_cons_succ, MV.tup.injEq, MV.int.injEq, MV.str.injEq, MV.lst.injEq, MV.bl.injEq, exists_eq_left', exists_eq_left, Option.some.injEq, decide_eq_true_eq, Bool.not_eq_true', decide_eq_false_iff_not, if_true, if_false, Bool.false_eq_true, and_true, true_and, eq_self, decide_true, decide_false, Bool.not_true, Bool.not_false, reduceIte, not_true_eq_false, not_false_eq_true, Bool.true_eq_false, Int.reduceEq, Int.reduceLT, Int.reduceLE, Int.reduceAdd, Int.reduceSub, Int.reduceMul, Int.reduceNeg, Int.reducePow, Int.reduceToNat, Int.reduceNe, ofS, String.reduceEq, in_one, in_two, in_twoI, Nat.reduceLT, Nat.reduceLeDiff, or_self, or_false, false_or, true_or, or_true, and_false, false_and, and_self, pm01, kl1, w_lc1, w_lc0, wipe1, wp_cat, Bool.or_true, Bool.or_false, Bool.true_or, Bool.false_or, Bool.and_true, Bool.and_false, Bool.true_and, Bool.false_and, h4]
  refine wp_use (T_take w4 (by decide)) ?_
  rintro _ S5 ⟨t5, rfl, a5, b5, w5, l5⟩
  obtain ⟨k, hk, ek⟩ := ixS odd15 t5 S5 (by rw [len_odd]; exact Nat.le_of_ble_eq_true rfl) a5 (by rw [len_odd]; omega)
  simp only [wp_ok, wp_exc, wp_bad, wp_mC, nm0, nm1, nm2, nm3, nm4, nm5, nm6, nm7, nm8, nm9, nm10, nm11, nm12, nm13, nm14, nm15, wp_nil, k3, k2, w_bin, kc, ka, w_cons, kt, w_tup, kl, w_lst, klM, w_lstM, kf, w_frz, kg, w_call, kkB, kkA, w_callK, kb, w_blt, kv, w_val, kn, w_not, kan_t, kan_f, w_and, kor_t, kor_f, w_or, knn, w_mnot, kma_t, kma_f, w_mand, kmo_t, kmo_f, w_mor, kmi_t, kmi_f, w_mif, kfl, w_fld, kpr, w_prop, kis, w_isi, kng, w_neg, kiv, w_inv, kmB, kmA, w_meth, knC, knB, knA, w_methK, kq, w_eqC, w_neC, kcp, w_capI, klc, w_lc, ksq_l, ksq_t, ksq_s, w_seq, krg, w_rng, kst, w_str, kjB, kjA, w_join, ksC, ksB, ksA, w_sl, wp_oNone, kso, w_some, khC, khD_t, khD_f, khB, khA, w_ch, ws_nil, s_cons, kx, kk, ke, s_exp, s_ret, ws_sRetN, ki_t, ki_f, s_if, ks, s_set, kpB, kpA, s_par, kfo, s_for, ws_for0, kr, s_raise, s_try, kat, s_asgT, kaL, s_asgL, gTs_nil, gTs_cons, ws_nxt, ws_ret, wp_own, wp_ownR, oAdd, oSub, oLt, oLe, oGt, oGe, wp_mul, wp_div, wp_mod, wp_pow, gAbs_i, gInt_i, gInt_b, gMax_i, gMin_i, gEqS_i, gNeS_i, gEqS_s, gNeS_s, gEqS_b, gNeS_b, wp_len, len_lst, len_tup, len_scr, ix_l0, ix_t0, ix_t1, ix_t2, en0, List.map_cons, List.map_nil, List.length_cons, List.length_nil, List.cons_append, List.nil_append, List.append_nil, List.replicate_zero, List.reduceReplicate, Nat.reduceAdd, Nat.reduceSub, Nat.zero_add, List.set_cons_zero, List.set_cons_succ, MV.tup.injEq, MV.int.injEq, MV.str.injEq, MV.lst.injEq, MV.bl.injEq, exists_eq_left', exists_eq_left, Option.some.injEq, decide_eq_true_eq, Bool.not_eq_true', decide_eq_false_iff_not, if_true, if_false, Bool.false_eq_true, and_true, true_and, eq_self, decide_true, decide_false, Bool.not_true, Bool.not_false, reduceIte, not_true_eq_false, not_false_eq_true, Bool.true_eq_false, Int.reduceEq, Int.reduceLT, Int.reduceLE, Int.reduceAdd, Int.reduceSub, Int.reduceMul, Int.reduceNeg, Int.reducePow, Int.reduceToNat, Int.reduceNe, ofS, String.reduceEq, in_one, in_two, in_twoI, Nat.reduceLT, Nat.reduceLeDiff, or_self, or_false, false_or, true_or, or_true, and_false, false_and, and_self, pm01, kl1, w_lc1, w_lc0, wipe1, wp_cat, Bool.or_true, Bool.or_false, Bool.true_or, Bool.false_or, Bool.and_true, Bool.and_false, Bool.true_and, Bool.false_and, ek, hz]
  refine wp_use (T_take w5 (m := ((Txt.join "" l).length : Int) + 1) (by omega) (by omega) (Nat.lt_of_le_of_lt (by omega : (((Txt.join "" l).length : Int) + 1).natAbs ≤ 14) (by decide))) ?_
  rintro _ S6 ⟨t6, rfl, a6, b6, w6, l6⟩
  obtain ⟨j, rfl⟩ : ∃ j : Nat, t6 = j := ⟨t6.toNat, by omega⟩
  have main : ∀ d : Nat, _ := fun d => odd_cut (Txt.join "" l) k j d (by omega) hb (odd_lt k hk) (by omega) S6
  obtain ⟨x, _, z, e1, _, e2, _, _⟩ := main 0
  simp only [wp_ok, wp_exc, wp_bad, wp_mC, nm0, nm1, nm2, nm3, nm4, nm5, nm6, nm7, nm8, nm9, nm10, nm11, nm12, nm13, nm14, nm15, wp_nil, k3, k2, w_bin, kc, ka, w_cons, kt, w_tup, kl, w_lst, klM, w_lstM, kf, w_frz, kg, w_call, kkB, kkA, w_callK, kb, w_blt, kv, w_val, kn, w_not, kan_t, kan_f, w_and, kor_t, kor_f, w_or, knn, w_mnot, kma_t, kma_f, w_mand, kmo_t, kmo_f, w_mor, kmi_t, kmi_f, w_mif, kfl, w_fld, kpr, w_prop, kis, w_isi, kng, w_neg, kiv, w_inv, kmB, kmA, w_meth, knC, knB, knA, w_methK, kq, w_eqC, w_neC, kcp, w_capI, klc, w_lc, ksq_l, ksq_t, ksq_s, w_seq, krg, w_rng, kst, w_str, kjB, kjA, w_join, ksC, ksB, ksA, w_sl, wp_oNone, kso, w_some, khC, khD_t, khD_f, khB, khA, w_ch, ws_nil, s_cons, kx, kk, ke, s_exp, s_ret, ws_sRetN, ki_t, ki_f, s_if, ks, s_set, kpB, kpA, s_par, kfo, s_for, ws_for0, kr, s_raise, s_try, kat, s_asgT, kaL, s_asgL, gTs_nil, gTs_cons, ws_nxt, ws_ret, wp_own, wp_ownR, oAdd, oSub, oLt, oLe, oGt, oGe, wp_mul, wp_div, wp_mod, wp_pow, gAbs_i, gInt_i, gInt_b, gMax_i, gMin_i, gEqS_i, gNeS_i, gEqS_s, gNeS_s, gEqS_b, gNeS_b, wp_len, len_lst, len_tup, len_scr, ix_l0, ix_t0, ix_t1, ix_t2, en0, List.map_cons, List.map_nil, List.length_cons, List.length_nil, List.cons_append, List.nil_append, List.append_nil, List.replicate_zero, List.reduceReplicate, Nat.reduceAdd, Nat.reduceSub, Nat.zero_add, List.set_cons_zero, List.set_cons_succ, MV.tup.injEq, MV.int.injEq, MV.str.injEq, MV.lst.injEq, MV.bl.injEq, exists_eq_left', exists_eq_left, Option.some.injEq, decide_eq_true_eq, Bool.not_eq_true', decide_eq_false_iff_not, if_true, if_false, Bool.false_eq_true, and_true, true_and, eq_self, decide_true, decide_false, Bool.not_true, Bool.not_false, reduceIte, not_true_eq_false, not_false_eq_true, Bool.true_eq_false, Int.reduceEq, Int.reduceLT, Int.reduceLE, Int.reduceAdd, Int.reduceSub, Int.reduceMul, Int.reduceNeg, Int.reducePow, Int.reduceToNat, Int.reduceNe, ofS, String.reduceEq, in_one, in_two, in_twoI, Nat.reduceLT, Nat.reduceLeDiff, or_self, or_false, false_or, true_or, or_true, and_false, false_and, and_self, pm01, kl1, w_lc1, w_lc0, wipe1, wp_cat, Bool.or_true, Bool.or_false, Bool.true_or, Bool.false_or, Bool.and_true, Bool.and_false, Bool.true_and, Bool.false_and, e1, e2]
  refine wp_use (T_take w6 (by decide)) ?_
  rintro _ S7 ⟨t7, rfl, a7, b7, w7, l7⟩
  obtain ⟨d, rfl⟩ : ∃ d : Nat, t7 = d := ⟨t7.toNat, by omega⟩
  obtain ⟨x', y, z', f1, f2, f3, f4, f5⟩ := main d
  obtain rfl : x = x' := by
    rw [e1] at f1; injection f1 with f1; injection f1
  obtain rfl : z = z' := by
    have := (e2 S6).symm.trans (f3 S6); injection this with this; injection this
  simp only [wp_ok, wp_exc, wp_bad, wp_mC, nm0, nm1, nm2, nm3, nm4, nm5, nm6, nm7, nm8, nm9, nm10, nm11, nm12, nm13, nm14, nm15, wp_nil, k3, k2, w_bin, kc, ka, w_cons, kt, w_tup, kl, w_lst, klM, w_lstM, kf, w_frz, kg, w_call, kkB, kkA, w_callK, kb, w_blt, kv, w_val, kn, w_not, kan_t, kan_f, w_and, kor_t, kor_f, w_or, knn, w_mnot, kma_t, kma_f, w_mand, kmo_t, kmo_f, w_mor, kmi_t, kmi_f, w_mif, kfl, w_fld, kpr, w_prop, kis, w_isi, kng, w_neg, kiv, w_inv, kmB, kmA, w_meth, knC, knB, knA, w_methK, kq, w_eqC, w_neC, kcp, w_capI, klc, w_lc, ksq_l, ksq_t, ksq_s, w_seq, krg, w_rng, kst, w_str, kjB, kjA, w_join, ksC, ksB, ksA, w_sl, wp_oNone, kso, w_some, khC, khD_t, khD_f, khB, khA, w_ch, ws_nil, s_cons, kx, kk, ke, s_exp, s_ret, ws_sRetN, ki_t, ki_f, s_if, ks, s_set, kpB, kpA, s_par, kfo, s_for, ws_for0, kr, s_raise, s_try, kat, s_asgT, kaL, s_asgL, gTs_nil, gTs_cons, ws_nxt, ws_ret, wp_own, wp_ownR, oAdd, oSub, oLt, oLe, oGt, oGe, wp_mul, wp_div, wp_mod, wp_pow, gAbs_i, gInt_i, gInt_b, gMax_i, gMin_i, gEqS_i, gNeS_i, gEqS_s, gNeS_s, gEqS_b, gNeS_b, wp_len, len_lst, len_tup, len_scr, ix_l0, ix_t0, ix_t1, ix_t2, en0, List.map_cons, List.map_nil, List.length_cons, List.length_nil, List.cons_append, List.nil_append, List.append_nil, List.replicate_zero, List.reduceReplicate, Nat.reduceAdd, Nat.reduceSub, Nat.zero_add, List.set_cons_zero, List.set_cons_succ, MV.tup.injEq, MV.int.injEq, MV.str.injEq, MV.lst.injEq, MV.bl.injEq, exists_eq_left', exists_eq_left, Option.some.injEq, decide_eq_true_eq, Bool.not_eq_true', decide_eq_false_iff_not, if_true, if_false, Bool.false_eq_true, and_true, true_and, eq_self, decide_true, decide_false, Bool.not_true, Bool.not_false, reduceIte, not_true_eq_false, not_false_eq_true, Bool.true_eq_false, Int.reduceEq, Int.reduceLT, Int.reduceLE, Int.reduceAdd, Int.reduceSub, Int.reduceMul, Int.reduceNeg, Int.reducePow, Int.reduceToNat, Int.reduceNe, ofS, String.reduceEq, in_one, in_two, in_twoI, Nat.reduceLT, Nat.reduceLeDiff, or_self, or_false, false_or, true_or, or_true, and_false, false_and, and_self, pm01, kl1, w_lc1, w_lc0, wipe1, wp_cat, Bool.or_true, Bool.or_false, Bool.true_or, Bool.false_or, Bool.and_true, Bool.and_false, Bool.true_and, Bool.false_and, f2, f4]
  exact ⟨by omega, f5, w7.mono (by omega), by omega⟩

end Q2

set_option maxHeartbeats 4000000
set_option exponentiation.threshold 5000
namespace Q2
open PySem PySem.Spec PyProof.Rows L2 Mi

noncomputable instance goodDec (x : PySem.Str) : Decidable (goodN x) := Classical.propDecidable _

theorem abc_range : abc.cps.toList = List.range' 97 26 := by decide +kernel
theorem abc_mem (k : Nat) : k ∈ abc.cps.toList ↔ 97 ≤ k ∧ k ≤ 122 := by
  rw [abc_range, List.mem_range'_1]; omega
abbrev sg1 (x : PySem.Str) : List PySem.Str := x.cps.toList.map fun c => ⟨#[c]⟩
theorem signs_sg (x : PySem.Str) : signsM x = smv (sg1 x) := by
  show x.cps.toList.map _ = (x.cps.toList.map _).map MV.str
  rw [List.map_map]; rfl
def okL (x : PySem.Str) : Bool := x.cps.toList.all fun k => decide (k ∈ abc.cps.toList)
theorem goodN_iff (x : PySem.Str) : goodN x ↔ (1 ≤ x.length ∧ x.length ≤ 8) ∧ okL x = true := by
  unfold goodN okL
  rw [List.all_eq_true]
  simp only [decide_eq_true_eq]
theorem okL_alls (x : PySem.Str) (S : So) : gAll [.lst ((sg1 x).map fun z => MV.bl (z.cps.toList.all fun k => decide (k ∈ abc.cps.toList)))] S = .ok (.bl (okL x)) S := by
  have h : ∀ l : List Nat, blsOf ((l.map fun c => (⟨#[c]⟩ : PySem.Str)).map fun z => MV.bl (z.cps.toList.all fun k => decide (k ∈ abc.cps.toList))) = some (l.map fun k => decide (k ∈ abc.cps.toList)) := fun l => by
    induction l with
    | nil => rfl
    | cons c l ih =>
      show (blsOf ((l.map fun c => (⟨#[c]⟩ : PySem.Str)).map fun z => MV.bl (z.cps.toList.all fun k => decide (k ∈ abc.cps.toList)))).map ((([c].all fun k => decide (k ∈ abc.cps.toList))) :: ·) = _
      rw [ih]
      simp
  show (match blsOf ((sg1 x).map fun z => MV.bl (z.cps.toList.all fun k => decide (k ∈ abc.cps.toList))) with
      | some bs => Mi.R.ok (MV.bl (bs.all id)) S
      | none => .bad) = _
  rw [h]
  simp only [okL, List.all_map]
  rfl
def fLet : MV → MV
  | .str z => .bl (z.cps.toList.all fun k => decide (k ∈ abc.cps.toList))
  | x => x
theorem fLet_signs (x : PySem.Str) : (signsM x).map fLet = (sg1 x).map fun z => MV.bl (z.cps.toList.all fun k => decide (k ∈ abc.cps.toList)) := by
  rw [signs_sg, List.map_map]; rfl
theorem W_check (S : So) (x : PySem.Str) (ha : aT x) {Q : MV → So → Prop} {E : PySem.Str → MV → So → Prop} : wp (f_check_name [.str x] S) Q E = if goodN x then Q .non S else E "InvalidName" (.str x) S := by
  by_cases hg : goodN x
  · rw [if_pos hg, L_check S x hg]; rfl
  rw [if_neg hg]
  have e : f_check_name [.str x] S = .exc "InvalidName" (.str x) S := by
    refine wp_isX (wp_def ?_)
    have e : lcL [1] (gN 1) tYesM (mBin gInSign (mName 1) (mC (.str "abcdefghijklmnopqrstuvwxyz"))) (signsM x) [some (.str x), none] S = .ok ((signsM x).map fLet) S := by
      refine lc_map _ _ fun y hy => ?_
      obtain ⟨k, hk, rfl⟩ := List.mem_map.mp hy
      show Mi.R.ok (MV.bl (decide (k ∈ abc.cps.toList))) S = Mi.R.ok (MV.bl ([k].all fun k => decide (k ∈ abc.cps.toList))) S
      simp
    have ea := okL_alls x S
    rw [← fLet_signs] at ea
    have hz : x.length ≤ SZ := Nat.le_trans ha.1 (by decide)
    have l3 : (signsM x).length ≤ SZ := by rw [len_signs]; exact hz
    rw [goodN_iff] at hg
    rcases Classical.propComplete ((1 : Int) ≤ (x.length : Int)) with h1 | h1
    · rcases Classical.propComplete ((x.length : Int) ≤ 8) with h2 | h2
      · have h3 : okL x = false := by
          cases h : okL x
          · rfl
          · exact absurd ⟨⟨by have := of_eq_true h1; omega, by have := of_eq_true h2; omega⟩, h⟩ hg
        rw [h3] at ea
        simp only [wp_ok, wp_exc, wp_bad, wp_mC, nm0, nm1, nm2, nm3, nm4, nm5, nm6, nm7, nm8, nm9, nm10, nm11, nm12, nm13, nm14, nm15, wp_nil, k3, k2, w_bin, kc, ka, w_cons, kt, w_tup, kl, w_lst, klM, w_lstM, kf, w_frz, kg, w_call, kkB, kkA, w_callK, kb, w_blt, kv, w_val, kn, w_not, kan_t, kan_f, w_and, kor_t, kor_f, w_or, knn, w_mnot, kma_t, kma_f, w_mand, kmo_t, kmo_f, w_mor, kmi_t, kmi_f, w_mif, kfl, w_fld, kpr, w_prop, kis, w_isi, kng, w_neg, kiv, w_inv, kmB, kmA, w_meth, knC, knB, knA, w_methK, kq, w_eqC, w_neC, kcp, w_capI, klc, w_lc, ksq_l, ksq_t, ksq_s, w_seq, krg, w_rng, kst, w_str, kjB, kjA, w_join, ksC, ksB, ksA, w_sl, wp_oNone, kso, w_some, khC, khD_t, khD_f, khB, khA, w_ch, ws_nil, s_cons, kx, kk, ke, s_exp, s_ret, ws_sRetN, ki_t, ki_f, s_if, ks, s_set, kpB, kpA, s_par, kfo, s_for, ws_for0, kr, s_raise, s_try, kat, s_asgT, kaL, s_asgL, gTs_nil, gTs_cons, ws_nxt, ws_ret, wp_own, wp_ownR, oAdd, oSub, oLt, oLe, oGt, oGe, wp_mul, wp_div, wp_mod, wp_pow, gAbs_i, gInt_i, gInt_b, gMax_i, gMin_i, gEqS_i, gNeS_i, gEqS_s, gNeS_s, gEqS_b, gNeS_b, wp_len, len_lst, len_tup, len_scr, ix_l0, ix_t0, ix_t1, ix_t2, en0, List.map_cons, List.map_nil, List.length_cons, List.length_nil, List.cons_append, List.nil_append, List.append_nil, List.replicate_zero, List.reduceReplicate, Nat.reduceAdd, Nat.reduceSub, Nat.zero_add, List.set_cons_zero, List.set_cons_succ, MV.tup.injEq, MV.int.injEq, MV.str.injEq, MV.lst.injEq, MV.bl.injEq, exists_eq_left', exists_eq_left, Option.some.injEq, decide_eq_true_eq, Bool.not_eq_true', decide_eq_false_iff_not, if_true, if_false, Bool.false_eq_true, and_true, true_and, eq_self, decide_true, decide_false, Bool.not_true, Bool.not_false, reduceIte, not_true_eq_false, not_false_eq_true, Bool.true_eq_false, Int.reduceEq, Int.reduceLT, Int.reduceLE, Int.reduceAdd, Int.reduceSub, Int.reduceMul, Int.reduceNeg, Int.reducePow, Int.reduceToNat, Int.reduceNe, ofS, String.reduceEq, in_one, in_two, in_twoI, Nat.reduceLT, Nat.reduceLeDiff, or_self, or_false, false_or, true_or, or_true, and_false, false_and, and_self, pm01, kl1, w_lc1, w_lc0, wipe1, wp_cat, Bool.or_true, Bool.or_false, Bool.true_or, Bool.false_or, Bool.and_true, Bool.and_false, Bool.true_and, Bool.false_and, e, ea, hz, h1, h2, l3]
      · simp only [wp_ok, wp_exc, wp_bad, wp_mC, nm0, nm1, nm2, nm3, nm4, nm5, nm6, nm7, nm8, nm9, nm10, nm11, nm12, nm13, nm14, nm15, wp_nil, k3, k2, w_bin, kc, ka, w_cons, kt, w_tup, kl, w_lst, klM, w_lstM, kf, w_frz, kg, w_call, kkB, kkA, w_callK, kb, w_blt, kv, w_val, kn, w_not, kan_t, kan_f, w_and, kor_t, kor_f, w_or, knn, w_mnot, kma_t, kma_f, w_mand, kmo_t, kmo_f, w_mor, kmi_t, kmi_f, w_mif, kfl, w_fld, kpr, w_prop, kis, w_isi, kng, w_neg, kiv, w_inv, kmB, kmA, w_meth, knC, knB, knA, w_methK, kq, w_eqC, w_neC, kcp, w_capI, klc, w_lc, ksq_l, ksq_t, ksq_s, w_seq, krg, w_rng, kst, w_str, kjB, kjA, w_join, ksC, ksB, ksA, w_sl, wp_oNone, kso, w_some, khC, khD_t, khD_f, khB, khA, w_ch, ws_nil, s_cons, kx, kk, ke, s_exp, s_ret, ws_sRetN, ki_t, ki_f, s_if, ks, s_set, kpB, kpA, s_par, kfo, s_for, ws_for0, kr, s_raise, s_try, kat, s_asgT, kaL, s_asgL, gTs_nil, gTs_cons, ws_nxt, ws_ret, wp_own, wp_ownR, oAdd, oSub, oLt, oLe, oGt, oGe, wp_mul, wp_div, wp_mod, wp_pow, gAbs_i, gInt_i, gInt_b, gMax_i, gMin_i, gEqS_i, gNeS_i, gEqS_s, gNeS_s, gEqS_b, gNeS_b, wp_len, len_lst, len_tup, len_scr, ix_l0, ix_t0, ix_t1, ix_t2, en0, List.map_cons, List.map_nil, List.length_cons, List.length_nil, List.cons_append, List.nil_append, List.append_nil, List.replicate_zero, List.reduceReplicate, Nat.reduceAdd, Nat.reduceSub, Nat.zero_add, List.set_cons_zero, List.set_cons_succ, MV.tup.injEq, MV.int.injEq, MV.str.injEq, MV.lst.injEq, MV.bl.injEq, exists_eq_left', exists_eq_left, Option.some.injEq, decide_eq_true_eq, Bool.not_eq_true', decide_eq_false_iff_not, if_true, if_false, Bool.false_eq_true, and_true, true_and, eq_self, decide_true, decide_false, Bool.not_true, Bool.not_false, reduceIte, not_true_eq_false, not_false_eq_true, Bool.true_eq_false, Int.reduceEq, Int.reduceLT, Int.reduceLE, Int.reduceAdd, Int.reduceSub, Int.reduceMul, Int.reduceNeg, Int.reducePow, Int.reduceToNat, Int.reduceNe, ofS, String.reduceEq, in_one, in_two, in_twoI, Nat.reduceLT, Nat.reduceLeDiff, or_self, or_false, false_or, true_or, or_true, and_false, false_and, and_self, pm01, kl1, w_lc1, w_lc0, wipe1, wp_cat, Bool.or_true, Bool.or_false, Bool.true_or, Bool.false_or, Bool.and_true, Bool.and_false, Bool.true_and, Bool.false_and, e, ea, hz, h1, h2, l3]
    · simp only [wp_ok, wp_exc, wp_bad, wp_mC, nm0, nm1, nm2, nm3, nm4, nm5, nm6, nm7, nm8, nm9, nm10, nm11, nm12, nm13, nm14, nm15, wp_nil, k3, k2, w_bin, kc, ka, w_cons, kt, w_tup, kl, w_lst, klM, w_lstM, kf, w_frz, kg, w_call, kkB, kkA, w_callK, kb, w_blt, kv, w_val, kn, w_not, kan_t, kan_f, w_and, kor_t, kor_f, w_or, knn, w_mnot, kma_t, kma_f, w_mand, kmo_t, kmo_f, w_mor, kmi_t, kmi_f, w_mif, kfl, w_fld, kpr, w_prop, kis, w_isi, kng, w_neg, kiv, w_inv, kmB, kmA, w_meth, knC, knB, knA, w_methK, kq, w_eqC, w_neC, kcp, w_capI, klc, w_lc, ksq_l, ksq_t, ksq_s, w_seq, krg, w_rng, kst, w_str, kjB, kjA, w_join, ksC, ksB, ksA, w_sl, wp_oNone, kso, w_some, khC, khD_t, khD_f, khB, khA, w_ch, ws_nil, s_cons, kx, kk, ke, s_exp, s_ret, ws_sRetN, ki_t, ki_f, s_if, ks, s_set, kpB, kpA, s_par, kfo, s_for, ws_for0, kr, s_raise, s_try, kat, s_asgT, kaL, s_asgL, gTs_nil, gTs_cons, ws_nxt, ws_ret, wp_own, wp_ownR, oAdd, oSub, oLt, oLe, oGt, oGe, wp_mul, wp_div, wp_mod, wp_pow, gAbs_i, gInt_i, gInt_b, gMax_i, gMin_i, gEqS_i, gNeS_i, gEqS_s, gNeS_s, gEqS_b, gNeS_b, wp_len, len_lst, len_tup, len_scr, ix_l0, ix_t0, ix_t1, ix_t2, en0, List.map_cons, List.map_nil, List.length_cons, List.length_nil, List.cons_append, List.nil_append, List.append_nil, List.replicate_zero, List.reduceReplicate, Nat.reduceAdd, Nat.reduceSub, Nat.zero_add, List.set_cons_zero, List.set_cons_succ, MV.tup.injEq, MV.int.injEq, MV.str.injEq, MV.lst.injEq, MV.bl.injEq, exists_eq_left', exists_eq_left, Option.some.injEq, decide_eq_true_eq, Bool.not_eq_true', decide_eq_false_iff_not, if_true, if_false, Bool.false_eq_true, and_true, true_and, eq_self, decide_true, decide_false, Bool.not_true, Bool.not_false, reduceIte, not_true_eq_false, not_false_eq_true, Bool.true_eq_false, Int.reduceEq, Int.reduceLT, Int.reduceLE, Int.reduceAdd, Int.reduceSub, Int.reduceMul, Int.reduceNeg, Int.reducePow, Int.reduceToNat, Int.reduceNe, ofS, String.reduceEq, in_one, in_two, in_twoI, Nat.reduceLT, Nat.reduceLeDiff, or_self, or_false, false_or, true_or, or_true, and_false, false_and, and_self, pm01, kl1, w_lc1, w_lc0, wipe1, wp_cat, Bool.or_true, Bool.or_false, Bool.true_or, Bool.false_or, Bool.and_true, Bool.and_false, Bool.true_and, Bool.false_and, e, ea, hz, h1, l3]
  rw [e]; rfl
theorem W_cell (S : So) (x : PySem.Str) (ha : aT x) {Q : MV → So → Prop} {E : PySem.Str → MV → So → Prop} : wp (f_cell [.str x] S) Q E = if goodN x then Q (Vt.cell x).mv S else E "InvalidName" (.str x) S := by
  by_cases hg : goodN x
  · rw [if_pos hg, L_cell S x hg]; rfl
  rw [if_neg hg]
  have e : f_cell [.str x] S = .exc "InvalidName" (.str x) S := by
    refine wp_isX (wp_def ?_)
    simp only [wp_ok, wp_exc, wp_bad, wp_mC, nm0, nm1, nm2, nm3, nm4, nm5, nm6, nm7, nm8, nm9, nm10, nm11, nm12, nm13, nm14, nm15, wp_nil, k3, k2, w_bin, kc, ka, w_cons, kt, w_tup, kl, w_lst, klM, w_lstM, kf, w_frz, kg, w_call, kkB, kkA, w_callK, kb, w_blt, kv, w_val, kn, w_not, kan_t, kan_f, w_and, kor_t, kor_f, w_or, knn, w_mnot, kma_t, kma_f, w_mand, kmo_t, kmo_f, w_mor, kmi_t, kmi_f, w_mif, kfl, w_fld, kpr, w_prop, kis, w_isi, kng, w_neg, kiv, w_inv, kmB, kmA, w_meth, knC, knB, knA, w_methK, kq, w_eqC, w_neC, kcp, w_capI, klc, w_lc, ksq_l, ksq_t, ksq_s, w_seq, krg, w_rng, kst, w_str, kjB, kjA, w_join, ksC, ksB, ksA, w_sl, wp_oNone, kso, w_some, khC, khD_t, khD_f, khB, khA, w_ch, ws_nil, s_cons, kx, kk, ke, s_exp, s_ret, ws_sRetN, ki_t, ki_f, s_if, ks, s_set, kpB, kpA, s_par, kfo, s_for, ws_for0, kr, s_raise, s_try, kat, s_asgT, kaL, s_asgL, gTs_nil, gTs_cons, ws_nxt, ws_ret, wp_own, wp_ownR, oAdd, oSub, oLt, oLe, oGt, oGe, wp_mul, wp_div, wp_mod, wp_pow, gAbs_i, gInt_i, gInt_b, gMax_i, gMin_i, gEqS_i, gNeS_i, gEqS_s, gNeS_s, gEqS_b, gNeS_b, wp_len, len_lst, len_tup, len_scr, ix_l0, ix_t0, ix_t1, ix_t2, en0, List.map_cons, List.map_nil, List.length_cons, List.length_nil, List.cons_append, List.nil_append, List.append_nil, List.replicate_zero, List.reduceReplicate, Nat.reduceAdd, Nat.reduceSub, Nat.zero_add, List.set_cons_zero, List.set_cons_succ, MV.tup.injEq, MV.int.injEq, MV.str.injEq, MV.lst.injEq, MV.bl.injEq, exists_eq_left', exists_eq_left, Option.some.injEq, decide_eq_true_eq, Bool.not_eq_true', decide_eq_false_iff_not, if_true, if_false, Bool.false_eq_true, and_true, true_and, eq_self, decide_true, decide_false, Bool.not_true, Bool.not_false, reduceIte, not_true_eq_false, not_false_eq_true, Bool.true_eq_false, Int.reduceEq, Int.reduceLT, Int.reduceLE, Int.reduceAdd, Int.reduceSub, Int.reduceMul, Int.reduceNeg, Int.reducePow, Int.reduceToNat, Int.reduceNe, ofS, String.reduceEq, in_one, in_two, in_twoI, Nat.reduceLT, Nat.reduceLeDiff, or_self, or_false, false_or, true_or, or_true, and_false, false_and, and_self, pm01, kl1, w_lc1, w_lc0, wipe1, wp_cat, Bool.or_true, Bool.or_false, Bool.true_or, Bool.false_or, Bool.and_true, Bool.and_false, Bool.true_and, Bool.false_and, W_check S x ha, hg]
  rw [e]; rfl

end Q2

set_option maxHeartbeats 4000000
set_option exponentiation.threshold 5000
namespace Q2
open PySem PySem.Spec PyProof.Rows L2 Mi

abbrev stp (ps nm : List MV) : MV := .obj "Step" ["sign", "parts", "_names"] [.str "put", .tup ps, .tup nm]
theorem L_initS (S : So) (a b c : MV) : f_Step___init__ [.ref S.length, a, b, c] (S ++ [.ins "Step" [] []]) = .ok .non (S ++ [.ins "Step" ["sign", "parts", "_names"] [a, b, c]]) := by
  have e1 : stFld "Step" "sign" a (.ref S.length) (S ++ [.ins "Step" [] []]) = some (S ++ [.ins "Step" ["sign"] [a]]) := by
    unfold stFld; simp only [at_end, set_end]; rfl
  have e2 : stFld "Step" "parts" b (.ref S.length) (S ++ [.ins "Step" ["sign"] [a]]) = some (S ++ [.ins "Step" ["sign", "parts"] [a, b]]) := by
    unfold stFld; simp only [at_end, set_end]; rfl
  have e3 : stFld "Step" "_names" c (.ref S.length) (S ++ [.ins "Step" ["sign", "parts"] [a, b]]) = some (S ++ [.ins "Step" ["sign", "parts", "_names"] [a, b, c]]) := by
    unfold stFld; simp only [at_end, set_end]; rfl
  simp only [f_Step___init__, runDef, sBlk, sSeq, sSkip, sFldM, mName, en0, List.map_cons, List.map_nil, List.length_cons, List.length_nil, List.replicate, List.append_nil, Nat.reduceAdd, Nat.sub_self, List.getElem?_cons_zero, List.getElem?_cons_succ, R.to_ok, e1, e2, e3, SR.fin]
  exact trim_same _ _ _ (by simp)
theorem make_okS {ms : List ME} {r : En} {S S1 : So} {a b c : MV} (h : mArgs ms r S = .ok [a, b, c] S1) (hl : S.length ≤ S1.length) :
    mFrz (mTrim (mMake "Step" f_Step___init__ [] ms)) r S = .ok (.obj "Step" ["sign", "parts", "_names"] [a, b, c]) (S1 ++ [.dead]) := by
  have h1 : mMake "Step" f_Step___init__ [] ms r S = .ok (.ref S1.length) (S1 ++ [.ins "Step" ["sign", "parts", "_names"] [a, b, c]]) := by
    unfold mMake
    rw [h]
    simp only [R.bind_ok, List.append_nil, L_initS]
  have h2 : mTrim (mMake "Step" f_Step___init__ [] ms) r S = .ok (.ref S1.length) (S1 ++ [.ins "Step" ["sign", "parts", "_names"] [a, b, c]]) := by
    unfold mTrim
    rw [h1]
    exact trim_keep _ _ _ (decide_eq_false (by omega))
  unfold mFrz
  rw [h2]
  simp only [R.bind_ok, frz, at_end, set_end]
theorem L_namesinL (S : So) (a b : Vt) (hz : (a.nms ++ b.nms).length < 4000) : f_names_in [.lst [a.mv, b.mv]] S = .ok (.tup (smv (sortU (a.nms ++ b.nms)))) S := by
  have h0 : mSortSet (iSeq (mName 0)) [1, 2] (gN 1) (iSeq (mProp "Value" f_Value_names (mName 1))) [2] (gN 2) (mName 2) (en0 3 [.lst [a.mv, b.mv]]) S = .ok (.lst (smv (sortU (a.nms ++ b.nms)))) S := by
    have e : scOut [1, 2] (gN 1) (iSeq (mProp "Value" f_Value_names (mName 1))) [2] (gN 2) (mName 2) [a.mv, b.mv] (en0 3 [.lst [a.mv, b.mv]]) S = .ok ([a, b].flatMap Vt.nms) S := sc_vals (en0 3 [.lst [a.mv, b.mv]]) S rfl [a, b]
    unfold mSortSet
    rw [show iSeq (mName 0) (en0 3 [.lst [a.mv, b.mv]]) S = .ok [a.mv, b.mv] S from rfl]
    simp only [R.bind_ok]
    rw [e]
    simp only [List.flatMap_cons, List.flatMap_nil, List.append_nil]
    rw [if_pos hz]
  refine def_ok (ret1 ?_) rfl
  show mBlt gTuple [mSortSet (iSeq (mName 0)) [1, 2] (gN 1) (iSeq (mProp "Value" f_Value_names (mName 1))) [2] (gN 2) (mName 2)] (en0 3 [.lst [a.mv, b.mv]]) S = _
  simp only [mBlt, mArgs, aCons, aNil, h0, R.bind_ok, gTuple, seqOf]
theorem sortU_1 (x : PySem.Str) : sortU [x] = [x] := rfl
theorem L_put (S : So) (x : PySem.Str) (a : Arg) (n : Int) (hn : a.vt = .num n) (hg : goodN x) : f_put [.str x, a.mv] S = .ok (stp [.str x, (Vt.num n).mv] [.str x]) S := by
  have h1 : mCall f_cell [] [mName 0] (en0 4 [.str x, a.mv]) S = .ok (Vt.cell x).mv S := (show _ = f_cell [.str x] S from rfl).trans (L_cell S x hg)
  have h2 : mCall f__as_value [] [mName 1] (en0 4 [.str x, a.mv]) S = .ok (Vt.num n).mv S := (show _ = f__as_value [a.mv] S from rfl).trans ((L_asval S a).trans (by rw [hn]))
  have h3 : mArgs [(mC (.str "put")), (mTup [(mName 0), (mName 3)]), (mCall f_names_in [] [(mLst [(mName 2), (mName 3)])])] (((en0 4 [.str x, a.mv]).set 2 (some (Vt.cell x).mv)).set 3 (some (Vt.num n).mv)) S = .ok [.str "put", .tup [.str x, (Vt.num n).mv], .tup [.str x]] S := by
    have e1 : mCall f_names_in [] [(mLst [(mName 2), (mName 3)])] (((en0 4 [.str x, a.mv]).set 2 (some (Vt.cell x).mv)).set 3 (some (Vt.num n).mv)) S = .ok (.tup (smv (sortU [x]))) S := (show _ = f_names_in [.lst [(Vt.cell x).mv, (Vt.num n).mv]] S from rfl).trans (L_namesinL S (.cell x) (.num n) (by show 1 < 4000; decide))
    have e2 : mTup [(mName 0), (mName 3)] (((en0 4 [.str x, a.mv]).set 2 (some (Vt.cell x).mv)).set 3 (some (Vt.num n).mv)) S = .ok (.tup [.str x, (Vt.num n).mv]) S := rfl
    rw [sortU_1] at e1
    simp only [mArgs, aCons, aNil, e1, e2, R.bind_ok, mC]
    rfl
  refine def_one (u := .dead) ?_ (by simp [MV.lt, MV.lts, Vt.mv])
  simp only [sBlk, sSeq, sPar, sRet, h1, h2, R.to_ok, make_okS h3 (Nat.le_refl _), SR.fin]
theorem W_put (S : So) (x : PySem.Str) (a : Arg) (n : Int) (hn : a.vt = .num n) (ha : aT x) {Q : MV → So → Prop} {E : PySem.Str → MV → So → Prop} : wp (f_put [.str x, a.mv] S) Q E = if goodN x then Q (stp [.str x, (Vt.num n).mv] [.str x]) S else E "InvalidName" (.str x) S := by
  by_cases hg : goodN x
  · rw [if_pos hg, L_put S x a n hn hg]; rfl
  rw [if_neg hg]
  have e : f_put [.str x, a.mv] S = .exc "InvalidName" (.str x) S := by
    refine wp_isX (wp_def ?_)
    simp only [wp_ok, wp_exc, wp_bad, wp_mC, nm0, nm1, nm2, nm3, nm4, nm5, nm6, nm7, nm8, nm9, nm10, nm11, nm12, nm13, nm14, nm15, wp_nil, k3, k2, w_bin, kc, ka, w_cons, kt, w_tup, kl, w_lst, klM, w_lstM, kf, w_frz, kg, w_call, kkB, kkA, w_callK, kb, w_blt, kv, w_val, kn, w_not, kan_t, kan_f, w_and, kor_t, kor_f, w_or, knn, w_mnot, kma_t, kma_f, w_mand, kmo_t, kmo_f, w_mor, kmi_t, kmi_f, w_mif, kfl, w_fld, kpr, w_prop, kis, w_isi, kng, w_neg, kiv, w_inv, kmB, kmA, w_meth, knC, knB, knA, w_methK, kq, w_eqC, w_neC, kcp, w_capI, klc, w_lc, ksq_l, ksq_t, ksq_s, w_seq, krg, w_rng, kst, w_str, kjB, kjA, w_join, ksC, ksB, ksA, w_sl, wp_oNone, kso, w_some, khC, khD_t, khD_f, khB, khA, w_ch, ws_nil, s_cons, kx, kk, ke, s_exp, s_ret, ws_sRetN, ki_t, ki_f, s_if, ks, s_set, kpB, kpA, s_par, kfo, s_for, ws_for0, kr, s_raise, s_try, kat, s_asgT, kaL, s_asgL, gTs_nil, gTs_cons, ws_nxt, ws_ret, wp_own, wp_ownR, oAdd, oSub, oLt, oLe, oGt, oGe, wp_mul, wp_div, wp_mod, wp_pow, gAbs_i, gInt_i, gInt_b, gMax_i, gMin_i, gEqS_i, gNeS_i, gEqS_s, gNeS_s, gEqS_b, gNeS_b, wp_len, len_lst, len_tup, len_scr, ix_l0, ix_t0, ix_t1, ix_t2, en0, List.map_cons, List.map_nil, List.length_cons, List.length_nil, List.cons_append, List.nil_append, List.append_nil, List.replicate_zero, List.reduceReplicate, Nat.reduceAdd, Nat.reduceSub, Nat.zero_add, List.set_cons_zero, List.set_cons_succ, MV.tup.injEq, MV.int.injEq, MV.str.injEq, MV.lst.injEq, MV.bl.injEq, exists_eq_left', exists_eq_left, Option.some.injEq, decide_eq_true_eq, Bool.not_eq_true', decide_eq_false_iff_not, if_true, if_false, Bool.false_eq_true, and_true, true_and, eq_self, decide_true, decide_false, Bool.not_true, Bool.not_false, reduceIte, not_true_eq_false, not_false_eq_true, Bool.true_eq_false, Int.reduceEq, Int.reduceLT, Int.reduceLE, Int.reduceAdd, Int.reduceSub, Int.reduceMul, Int.reduceNeg, Int.reducePow, Int.reduceToNat, Int.reduceNe, ofS, String.reduceEq, in_one, in_two, in_twoI, Nat.reduceLT, Nat.reduceLeDiff, or_self, or_false, false_or, true_or, or_true, and_false, false_and, and_self, pm01, kl1, w_lc1, w_lc0, wipe1, wp_cat, Bool.or_true, Bool.or_false, Bool.true_or, Bool.false_or, Bool.and_true, Bool.and_false, Bool.true_and, Bool.false_and, W_cell S x ha, hg]
  rw [e]; rfl

end Q2

set_option maxHeartbeats 4000000
set_option exponentiation.threshold 5000
namespace Q2
open PySem PySem.Spec PyProof.Rows L2 Mi

noncomputable def wants (x : PySem.Str) : MV := if goodN x then .lst [.str x] else .lst [.bl true, .str x]
theorem try_n (D : SE) (x : PySem.Str) (r1 : En) (S1 : So) : tryE (caOf [("InvalidDivisor", true), ("InvalidName", true), ("UnknownName", true)]) 4 2 [(.isi (caOf [("InvalidDivisor", false), ("InvalidName", true), ("UnknownName", false)])), .val] D "InvalidName" (.str x) r1 S1 =
    (4 < r1.length ∧ D.nx ((r1.set 2 (some (.lst [.bl true, .str x]))).set 4 none) S1) := by
  unfold tryE caOf
  simp [allSome, XI.ev, List.find?, ofS]
theorem alt_v (x : PySem.Str) (a b c d : Option MV) (S : So) : mAlt (mProp "Step" f_Step_names (mName 3)) (mProp "Value" f_Value_names (mName 3)) [a, b, c, some (Vt.cell x).mv, d] S = .ok (.lst [.str x]) S := by
  have e1 : mProp "Step" f_Step_names (mName 3) [a, b, c, some (Vt.cell x).mv, d] S = .bad := rfl
  have e2 : mProp "Value" f_Value_names (mName 3) [a, b, c, some (Vt.cell x).mv, d] S = .ok (.lst [.str x]) S := (show _ = noX (f_Value_names [(Vt.cell x).mv] S) from rfl).trans (by rw [L_names]; rfl)
  unfold mAlt
  rw [e1, e2]
theorem L_namesS (S : So) (ps : List MV) (x : PySem.Str) : f_Step_names [stp ps [.str x]] S = .ok (.lst [.str x]) S := def_ok rfl rfl
theorem alt_s (x : PySem.Str) (ps : List MV) (a b c d : Option MV) (S : So) : mAlt (mProp "Step" f_Step_names (mName 3)) (mProp "Value" f_Value_names (mName 3)) [a, b, c, some (stp ps [.str x]), d] S = .ok (.lst [.str x]) S := by
  have e1 : mProp "Step" f_Step_names (mName 3) [a, b, c, some (stp ps [.str x]), d] S = .ok (.lst [.str x]) S := (show _ = noX (f_Step_names [stp ps [.str x]] S) from rfl).trans (by rw [L_namesS]; rfl)
  unfold mAlt
  rw [e1]
theorem isn_v (v : Vt) (S : So) : gIsN v.mv .non S = .ok (.bl false) S := by cases v <;> rfl
theorem isn_s (ps nm : List MV) (S : So) : gIsN (stp ps nm) .non S = .ok (.bl false) S := rfl
theorem isn_n (S : So) : gIsN .non .non S = .ok (.bl true) S := rfl
theorem gp1 (x : MV) : gPm [0] [] [x] = [x] := rfl
theorem gp2 (x y : MV) : gPm [1, 0] [] [x, y] = [y, x] := rfl
theorem L_caught (x : PySem.Str) (ha : aT x) (way : Int) (S : So) (hw : 0 ≤ way ∧ way < 4) : f__law_caught [.str x, .int way] S = .ok (wants x) S := by
  refine wp_is (wp_def ?_)
  have hww : way = 0 ∨ way = 1 ∨ way = 2 ∨ way = 3 := by omega
  have hn := L_number S 0
  have p5 : ∀ {Q : MV → So → Prop} {E : PySem.Str → MV → So → Prop}, wp (f_put [.str x, .int 5] S) Q E = if goodN x then Q (stp [.str x, (Vt.num 5).mv] [.str x]) S else E "InvalidName" (.str x) S := fun {Q E} => W_put S x (.i 5) 5 rfl ha
  have p0 : ∀ {Q : MV → So → Prop} {E : PySem.Str → MV → So → Prop}, wp (f_put [.str x, val "number" [.int 0] []] S) Q E = if goodN x then Q (stp [.str x, (Vt.num 0).mv] [.str x]) S else E "InvalidName" (.str x) S := fun {Q E} => W_put S x (.v (.num 0)) 0 rfl ha
  by_cases hg : goodN x
  · rcases hww with rfl | rfl | rfl | rfl <;> simp only [wp_ok, wp_exc, wp_bad, wp_mC, nm0, nm1, nm2, nm3, nm4, nm5, nm6, nm7, nm8, nm9, nm10, nm11, nm12, nm13, nm14, nm15, wp_nil, k3, k2, w_bin, kc, ka, w_cons, kt, w_tup, kl, w_lst, klM, w_lstM, kf, w_frz, kg, w_call, kkB, kkA, w_callK, kb, w_blt, kv, w_val, kn, w_not, kan_t, kan_f, w_and, kor_t, kor_f, w_or, knn, w_mnot, kma_t, kma_f, w_mand, kmo_t, kmo_f, w_mor, kmi_t, kmi_f, w_mif, kfl, w_fld, kpr, w_prop, kis, w_isi, kng, w_neg, kiv, w_inv, kmB, kmA, w_meth, knC, knB, knA, w_methK, kq, w_eqC, w_neC, kcp, w_capI, klc, w_lc, ksq_l, ksq_t, ksq_s, w_seq, krg, w_rng, kst, w_str, kjB, kjA, w_join, ksC, ksB, ksA, w_sl, wp_oNone, kso, w_some, khC, khD_t, khD_f, khB, khA, w_ch, ws_nil, s_cons, kx, kk, ke, s_exp, s_ret, ws_sRetN, ki_t, ki_f, s_if, ks, s_set, kpB, kpA, s_par, kfo, s_for, ws_for0, kr, s_raise, s_try, kat, s_asgT, kaL, s_asgL, gTs_nil, gTs_cons, ws_nxt, ws_ret, wp_own, wp_ownR, oAdd, oSub, oLt, oLe, oGt, oGe, wp_mul, wp_div, wp_mod, wp_pow, gAbs_i, gInt_i, gInt_b, gMax_i, gMin_i, gEqS_i, gNeS_i, gEqS_s, gNeS_s, gEqS_b, gNeS_b, wp_len, len_lst, len_tup, len_scr, ix_l0, ix_t0, ix_t1, ix_t2, en0, List.map_cons, List.map_nil, List.length_cons, List.length_nil, List.cons_append, List.nil_append, List.append_nil, List.replicate_zero, List.reduceReplicate, Nat.reduceAdd, Nat.reduceSub, Nat.zero_add, List.set_cons_zero, List.set_cons_succ, MV.tup.injEq, MV.int.injEq, MV.str.injEq, MV.lst.injEq, MV.bl.injEq, exists_eq_left', exists_eq_left, Option.some.injEq, decide_eq_true_eq, Bool.not_eq_true', decide_eq_false_iff_not, if_true, if_false, Bool.false_eq_true, and_true, true_and, eq_self, decide_true, decide_false, Bool.not_true, Bool.not_false, reduceIte, not_true_eq_false, not_false_eq_true, Bool.true_eq_false, Int.reduceEq, Int.reduceLT, Int.reduceLE, Int.reduceAdd, Int.reduceSub, Int.reduceMul, Int.reduceNeg, Int.reducePow, Int.reduceToNat, Int.reduceNe, ofS, String.reduceEq, in_one, in_two, in_twoI, Nat.reduceLT, Nat.reduceLeDiff, or_self, or_false, false_or, true_or, or_true, and_false, false_and, and_self, pm01, kl1, w_lc1, w_lc0, wipe1, wp_cat, Bool.or_true, Bool.or_false, Bool.true_or, Bool.false_or, Bool.and_true, Bool.and_false, Bool.true_and, Bool.false_and, W_cell S x ha, p5, p0, hn, hg, alt_v, alt_s, isn_v, isn_s, isn_n, gp1, gp2, wants]
  · rcases hww with rfl | rfl | rfl | rfl <;> simp only [wp_ok, wp_exc, wp_bad, wp_mC, nm0, nm1, nm2, nm3, nm4, nm5, nm6, nm7, nm8, nm9, nm10, nm11, nm12, nm13, nm14, nm15, wp_nil, k3, k2, w_bin, kc, ka, w_cons, kt, w_tup, kl, w_lst, klM, w_lstM, kf, w_frz, kg, w_call, kkB, kkA, w_callK, kb, w_blt, kv, w_val, kn, w_not, kan_t, kan_f, w_and, kor_t, kor_f, w_or, knn, w_mnot, kma_t, kma_f, w_mand, kmo_t, kmo_f, w_mor, kmi_t, kmi_f, w_mif, kfl, w_fld, kpr, w_prop, kis, w_isi, kng, w_neg, kiv, w_inv, kmB, kmA, w_meth, knC, knB, knA, w_methK, kq, w_eqC, w_neC, kcp, w_capI, klc, w_lc, ksq_l, ksq_t, ksq_s, w_seq, krg, w_rng, kst, w_str, kjB, kjA, w_join, ksC, ksB, ksA, w_sl, wp_oNone, kso, w_some, khC, khD_t, khD_f, khB, khA, w_ch, ws_nil, s_cons, kx, kk, ke, s_exp, s_ret, ws_sRetN, ki_t, ki_f, s_if, ks, s_set, kpB, kpA, s_par, kfo, s_for, ws_for0, kr, s_raise, s_try, kat, s_asgT, kaL, s_asgL, gTs_nil, gTs_cons, ws_nxt, ws_ret, wp_own, wp_ownR, oAdd, oSub, oLt, oLe, oGt, oGe, wp_mul, wp_div, wp_mod, wp_pow, gAbs_i, gInt_i, gInt_b, gMax_i, gMin_i, gEqS_i, gNeS_i, gEqS_s, gNeS_s, gEqS_b, gNeS_b, wp_len, len_lst, len_tup, len_scr, ix_l0, ix_t0, ix_t1, ix_t2, en0, List.map_cons, List.map_nil, List.length_cons, List.length_nil, List.cons_append, List.nil_append, List.append_nil, List.replicate_zero, List.reduceReplicate, Nat.reduceAdd, Nat.reduceSub, Nat.zero_add, List.set_cons_zero, List.set_cons_succ, MV.tup.injEq, MV.int.injEq, MV.str.injEq, MV.lst.injEq, MV.bl.injEq, exists_eq_left', exists_eq_left, Option.some.injEq, decide_eq_true_eq, Bool.not_eq_true', decide_eq_false_iff_not, if_true, if_false, Bool.false_eq_true, and_true, true_and, eq_self, decide_true, decide_false, Bool.not_true, Bool.not_false, reduceIte, not_true_eq_false, not_false_eq_true, Bool.true_eq_false, Int.reduceEq, Int.reduceLT, Int.reduceLE, Int.reduceAdd, Int.reduceSub, Int.reduceMul, Int.reduceNeg, Int.reducePow, Int.reduceToNat, Int.reduceNe, ofS, String.reduceEq, in_one, in_two, in_twoI, Nat.reduceLT, Nat.reduceLeDiff, or_self, or_false, false_or, true_or, or_true, and_false, false_and, and_self, pm01, kl1, w_lc1, w_lc0, wipe1, wp_cat, Bool.or_true, Bool.or_false, Bool.true_or, Bool.false_or, Bool.and_true, Bool.and_false, Bool.true_and, Bool.false_and, W_cell S x ha, p5, p0, hn, hg, try_n, isn_n, gp1, gp2, wants]

end Q2

set_option maxHeartbeats 4000000
set_option exponentiation.threshold 5000
namespace Q2
open PySem PySem.Spec PyProof.Rows L2 Mi

theorem objEq_v (f : DF) (v w : Vt) (S : So) : objEq "Value" f ["Value"] v.mv w.mv S = (f [v.mv, w.mv] S).bind asB := by
  unfold objEq
  rw [if_pos]
  exact ⟨cls_v v S, by show (isCls "Value" w.mv S || false) = true; rw [cls_v]; rfl⟩
theorem refy_v (v : Vt) : refy v.mv = true := by cases v <;> rfl
theorem flat_v (v w : Vt) (S : So) : eqFlat v.mv w.mv S = .bad := by cases v <;> rfl
theorem eqI_same {g : GE} {v w : Vt} {S : So} (h : g v.mv w.mv S = .ok true S) : eqOr eqFlat (Mi.eqI g) v.mv w.mv S = .ok true S := by
  unfold eqOr
  rw [flat_v]
  simp only
  unfold Mi.eqI
  rw [refy_v, refy_v, h]
  simp only [Bool.and_self, if_true, soSame_refl]
theorem eqL_1 {g : GE} {x y : MV} {S : So} (h : g x y S = .ok true S) : eqL g [x] [y] S = .ok true S := by
  show (g x y S).bind (fun b S => if b = true then eqL g [] [] S else .ok false S) = _
  rw [h]; rfl
theorem eqL_2 {g : GE} {x y x' y' : MV} {S : So} (h : g x y S = .ok true S) (h' : g x' y' S = .ok true S) : eqL g [x, x'] [y, y'] S = .ok true S := by
  show (g x y S).bind (fun b S => if b = true then eqL g [x'] [y'] S else .ok false S) = _
  rw [h]
  exact eqL_1 h'
theorem flat_s (x : PySem.Str) (S : So) (g : GE) : eqOr eqFlat g (.str x) (.str x) S = .ok true S := by
  have e : eqFlat (.str x) (.str x) S = .ok true S := by
    show Mi.R.ok (eqV (V.str x) (V.str x)) S = _
    simp [eqV]
  unfold eqOr
  rw [e]
theorem flat_i (x : Int) (S : So) (g : GE) : eqOr eqFlat g (.int x) (.int x) S = .ok true S := by
  have e : eqFlat (.int x) (.int x) S = .ok true S := by
    show Mi.R.ok (eqV (V.int x) (V.int x)) S = _
    simp [eqV]
  unfold eqOr
  rw [e]

theorem strOk_lt {x : PySem.Str} (h : ∀ k ∈ x.cps.toList, k < 128) : PyData.strOk x = true := by
  unfold PyData.strOk
  rw [← Array.all_toList]
  refine List.all_eq_true.mpr fun k hk => ?_
  have := h k hk
  exact decide_eq_true (by omega)
theorem lay_ok : ∀ l : List PySem.Str, (∀ x ∈ l, PyData.strOk x = true) → PyData.canLayAll0 (l.map PyData.str) = true ∧ PyData.depthAll (l.map PyData.str) ≤ 1
  | [], _ => ⟨rfl, by decide⟩
  | x :: l, h => by
    obtain ⟨h1, h2⟩ := lay_ok l fun y hy => h y (List.mem_cons_of_mem _ hy)
    refine ⟨?_, ?_⟩
    · show (PyData.canLay0 (.str x) && PyData.canLayAll0 (l.map PyData.str)) = true
      rw [h1, Bool.and_true]
      exact h x List.mem_cons_self
    · simp only [List.map_cons, PyData.depthAll, PyData.depth] at h2 ⊢
      omega
theorem shaped_ok (l : List PySem.Str) (h : ∀ x ∈ l, PyData.strOk x = true) : SeqAt.shaped (.list (l.map PyData.str)) = true ∧ SeqAt.shaped (.tuple (l.map PyData.str)) = true := by
  obtain ⟨h1, h2⟩ := lay_ok l h
  unfold SeqAt.shaped
  rw [show PyData.canLay0 (.list (l.map PyData.str)) = true by simpa only [PyData.canLay0] using h1, decide_eq_true (by simp only [PyData.depth]; omega), show PyData.canLay0 (.tuple (l.map PyData.str)) = true by simpa only [PyData.canLay0] using h1, decide_eq_true (by simp only [PyData.depth]; omega)]
  exact ⟨rfl, rfl⟩
theorem eqD_nil (l : List PySem.Str) (S : So) (h : ∀ x ∈ l, PyData.strOk x = true) : gEqD (.lst (smv l)) (.lst []) S = .ok (.bl (decide (l = []))) S := by
  have e1 : ∀ l, toD DF0 S (.lst (smv l)) = some (.list (l.map PyData.str)) := fun l => by
    show (allSome ((smv l).map (toD 11 S))).map PyData.list = _
    rw [toD_strs 10 S l]
    rfl
  have e2 := e1 []
  simp only [List.map_nil] at e2
  unfold gEqD
  rw [e1, e2]
  simp only
  rw [if_pos ⟨(shaped_ok l h).1, (shaped_ok [] (fun _ h => nomatch h)).1⟩]
  have := eqv_strs l []
  simp only [List.map_nil] at this
  rw [show PyData.eqv (.list (l.map PyData.str)) (.list []) = PyData.eqvAll (l.map PyData.str) [] by simp only [PyData.eqv], this]
theorem eqD_tup (a b : PySem.Str) (S : So) (ha : goodN a) (hb : goodN b) : gEqD (.tup [.str a]) (.tup [.str b]) S = .ok (.bl (decide (a = b))) S := by
  have e1 : ∀ a : PySem.Str, toD DF0 S (.tup [.str a]) = some (.tuple [.str a]) := fun a => rfl
  unfold gEqD
  rw [e1, e1]
  simp only
  have s : ∀ a : PySem.Str, goodN a → SeqAt.shaped (.tuple [.str a]) = true := fun a h => (shaped_ok [a] (fun x hx => by
    rw [List.mem_singleton.mp hx]; exact strOk_good h)).2
  rw [if_pos ⟨s a ha, s b hb⟩]
  have := eqv_strs [a] [b]
  simp only [List.map_cons, List.map_nil] at this
  rw [show PyData.eqv (.tuple [.str a]) (.tuple [.str b]) = PyData.eqvAll [.str a] [.str b] by simp only [PyData.eqv], this]
  simp
theorem L_eqcell (a b : PySem.Str) (S : So) (ha : goodN a) (hb : goodN b) : f_Value___eq__ [(Vt.cell a).mv, (Vt.cell b).mv] S = .ok (.bl (decide (a = b))) S := by
  have h := eqD_tup a b S ha hb
  have p : ∀ a : PySem.Str, (Vt.cell a).pts = [.str a] := fun a => rfl
  have q : ∀ a : PySem.Str, (Vt.cell a).sg = "cell" := fun a => rfl
  refine wp_is (wp_def ?_)
  simp only [wp_ok, wp_exc, wp_bad, wp_mC, nm0, nm1, nm2, nm3, nm4, nm5, nm6, nm7, nm8, nm9, nm10, nm11, nm12, nm13, nm14, nm15, wp_nil, k3, k2, w_bin, kc, ka, w_cons, kt, w_tup, kl, w_lst, klM, w_lstM, kf, w_frz, kg, w_call, kkB, kkA, w_callK, kb, w_blt, kv, w_val, kn, w_not, kan_t, kan_f, w_and, kor_t, kor_f, w_or, knn, w_mnot, kma_t, kma_f, w_mand, kmo_t, kmo_f, w_mor, kmi_t, kmi_f, w_mif, kfl, w_fld, kpr, w_prop, kis, w_isi, kng, w_neg, kiv, w_inv, kmB, kmA, w_meth, knC, knB, knA, w_methK, kq, w_eqC, w_neC, kcp, w_capI, klc, w_lc, ksq_l, ksq_t, ksq_s, w_seq, krg, w_rng, kst, w_str, kjB, kjA, w_join, ksC, ksB, ksA, w_sl, wp_oNone, kso, w_some, khC, khD_t, khD_f, khB, khA, w_ch, ws_nil, s_cons, kx, kk, ke, s_exp, s_ret, ws_sRetN, ki_t, ki_f, s_if, ks, s_set, kpB, kpA, s_par, kfo, s_for, ws_for0, kr, s_raise, s_try, kat, s_asgT, kaL, s_asgL, gTs_nil, gTs_cons, ws_nxt, ws_ret, wp_own, wp_ownR, oAdd, oSub, oLt, oLe, oGt, oGe, wp_mul, wp_div, wp_mod, wp_pow, gAbs_i, gInt_i, gInt_b, gMax_i, gMin_i, gEqS_i, gNeS_i, gEqS_s, gNeS_s, gEqS_b, gNeS_b, wp_len, len_lst, len_tup, len_scr, ix_l0, ix_t0, ix_t1, ix_t2, en0, List.map_cons, List.map_nil, List.length_cons, List.length_nil, List.cons_append, List.nil_append, List.append_nil, List.replicate_zero, List.reduceReplicate, Nat.reduceAdd, Nat.reduceSub, Nat.zero_add, List.set_cons_zero, List.set_cons_succ, MV.tup.injEq, MV.int.injEq, MV.str.injEq, MV.lst.injEq, MV.bl.injEq, exists_eq_left', exists_eq_left, Option.some.injEq, decide_eq_true_eq, Bool.not_eq_true', decide_eq_false_iff_not, if_true, if_false, Bool.false_eq_true, and_true, true_and, eq_self, decide_true, decide_false, Bool.not_true, Bool.not_false, reduceIte, not_true_eq_false, not_false_eq_true, Bool.true_eq_false, Int.reduceEq, Int.reduceLT, Int.reduceLE, Int.reduceAdd, Int.reduceSub, Int.reduceMul, Int.reduceNeg, Int.reducePow, Int.reduceToNat, Int.reduceNe, ofS, String.reduceEq, in_one, in_two, in_twoI, Nat.reduceLT, Nat.reduceLeDiff, or_self, or_false, false_or, true_or, or_true, and_false, false_and, and_self, pm01, kl1, w_lc1, w_lc0, wipe1, wp_cat, Bool.or_true, Bool.or_false, Bool.true_or, Bool.false_or, Bool.and_true, Bool.and_false, Bool.true_and, Bool.false_and, isi_v, sign_v, parts_v, p, q, h]
theorem L_eqnum (n : Int) (S : So) : f_Value___eq__ [(Vt.num n).mv, (Vt.num n).mv] S = .ok (.bl true) S := by
  have h : gEqD (.tup [.int n]) (.tup [.int n]) S = .ok (.bl true) S := by
    have e1 : toD DF0 S (.tup [.int n]) = some (.tuple [.int n]) := rfl
    unfold gEqD
    rw [e1]
    simp only
    rw [if_pos ⟨rfl, rfl⟩]
    simp [PyData.eqv, PyData.eqvAll]
  have p : (Vt.num n).pts = [.int n] := rfl
  refine wp_is (wp_def ?_)
  simp only [wp_ok, wp_exc, wp_bad, wp_mC, nm0, nm1, nm2, nm3, nm4, nm5, nm6, nm7, nm8, nm9, nm10, nm11, nm12, nm13, nm14, nm15, wp_nil, k3, k2, w_bin, kc, ka, w_cons, kt, w_tup, kl, w_lst, klM, w_lstM, kf, w_frz, kg, w_call, kkB, kkA, w_callK, kb, w_blt, kv, w_val, kn, w_not, kan_t, kan_f, w_and, kor_t, kor_f, w_or, knn, w_mnot, kma_t, kma_f, w_mand, kmo_t, kmo_f, w_mor, kmi_t, kmi_f, w_mif, kfl, w_fld, kpr, w_prop, kis, w_isi, kng, w_neg, kiv, w_inv, kmB, kmA, w_meth, knC, knB, knA, w_methK, kq, w_eqC, w_neC, kcp, w_capI, klc, w_lc, ksq_l, ksq_t, ksq_s, w_seq, krg, w_rng, kst, w_str, kjB, kjA, w_join, ksC, ksB, ksA, w_sl, wp_oNone, kso, w_some, khC, khD_t, khD_f, khB, khA, w_ch, ws_nil, s_cons, kx, kk, ke, s_exp, s_ret, ws_sRetN, ki_t, ki_f, s_if, ks, s_set, kpB, kpA, s_par, kfo, s_for, ws_for0, kr, s_raise, s_try, kat, s_asgT, kaL, s_asgL, gTs_nil, gTs_cons, ws_nxt, ws_ret, wp_own, wp_ownR, oAdd, oSub, oLt, oLe, oGt, oGe, wp_mul, wp_div, wp_mod, wp_pow, gAbs_i, gInt_i, gInt_b, gMax_i, gMin_i, gEqS_i, gNeS_i, gEqS_s, gNeS_s, gEqS_b, gNeS_b, wp_len, len_lst, len_tup, len_scr, ix_l0, ix_t0, ix_t1, ix_t2, en0, List.map_cons, List.map_nil, List.length_cons, List.length_nil, List.cons_append, List.nil_append, List.append_nil, List.replicate_zero, List.reduceReplicate, Nat.reduceAdd, Nat.reduceSub, Nat.zero_add, List.set_cons_zero, List.set_cons_succ, MV.tup.injEq, MV.int.injEq, MV.str.injEq, MV.lst.injEq, MV.bl.injEq, exists_eq_left', exists_eq_left, Option.some.injEq, decide_eq_true_eq, Bool.not_eq_true', decide_eq_false_iff_not, if_true, if_false, Bool.false_eq_true, and_true, true_and, eq_self, decide_true, decide_false, Bool.not_true, Bool.not_false, reduceIte, not_true_eq_false, not_false_eq_true, Bool.true_eq_false, Int.reduceEq, Int.reduceLT, Int.reduceLE, Int.reduceAdd, Int.reduceSub, Int.reduceMul, Int.reduceNeg, Int.reducePow, Int.reduceToNat, Int.reduceNe, ofS, String.reduceEq, in_one, in_two, in_twoI, Nat.reduceLT, Nat.reduceLeDiff, or_self, or_false, false_or, true_or, or_true, and_false, false_and, and_self, pm01, kl1, w_lc1, w_lc0, wipe1, wp_cat, Bool.or_true, Bool.or_false, Bool.true_or, Bool.false_or, Bool.and_true, Bool.and_false, Bool.true_and, Bool.false_and, isi_v, sign_v, parts_v, p, h]
theorem sign_s (ps nm : List MV) (S : So) : gFld "Step" "sign" (stp ps nm) S = .ok (.str "put") S := rfl
theorem parts_s (ps nm : List MV) (S : So) : gFld "Step" "parts" (stp ps nm) S = .ok (.tup ps) S := rfl
theorem isi_s (ps nm : List MV) (S : So) : gIsi (tbOf [(.own "Step", true)]) (stp ps nm) S = .ok (.bl true) S := rfl
theorem flat_ss (x y : PySem.Str) (S : So) (g : GE) : eqOr eqFlat g (.str x) (.str y) S = .ok (decide (x = y)) S := by
  have e : eqFlat (.str x) (.str y) S = .ok (decide (x = y)) S := by
    show Mi.R.ok (eqV (V.str x) (V.str y)) S = _
    by_cases h : x = y <;> simp [eqV, h]
  unfold eqOr
  rw [e]
theorem L_eqstep (a b : PySem.Str) (n : Int) (S : So) : f_Step___eq__ [stp [.str a, (Vt.num n).mv] [.str a], stp [.str b, (Vt.num n).mv] [.str b]] S = .ok (.bl (decide (a = b))) S := by
  have h : eqTup (eqOr eqFlat (Mi.eqI (objEq "Value" f_Value___eq__ ["Value"]))) (.tup [.str a, (Vt.num n).mv]) (.tup [.str b, (Vt.num n).mv]) S = .ok (decide (a = b)) S := by
    show (eqOr eqFlat (Mi.eqI (objEq "Value" f_Value___eq__ ["Value"])) (.str a) (.str b) S).bind (fun c S => if c = true then eqL _ [(Vt.num n).mv] [(Vt.num n).mv] S else .ok false S) = _
    rw [flat_ss]
    by_cases h : a = b
    · have e : eqL (eqOr eqFlat (Mi.eqI (objEq "Value" f_Value___eq__ ["Value"]))) [(Vt.num n).mv] [(Vt.num n).mv] S = .ok true S := eqL_1 (eqI_same (by
        rw [objEq_v, L_eqnum]; rfl))
      rw [decide_eq_true h]
      exact e
    · rw [decide_eq_false h]; rfl
  refine wp_is (wp_def ?_)
  simp only [wp_ok, wp_exc, wp_bad, wp_mC, nm0, nm1, nm2, nm3, nm4, nm5, nm6, nm7, nm8, nm9, nm10, nm11, nm12, nm13, nm14, nm15, wp_nil, k3, k2, w_bin, kc, ka, w_cons, kt, w_tup, kl, w_lst, klM, w_lstM, kf, w_frz, kg, w_call, kkB, kkA, w_callK, kb, w_blt, kv, w_val, kn, w_not, kan_t, kan_f, w_and, kor_t, kor_f, w_or, knn, w_mnot, kma_t, kma_f, w_mand, kmo_t, kmo_f, w_mor, kmi_t, kmi_f, w_mif, kfl, w_fld, kpr, w_prop, kis, w_isi, kng, w_neg, kiv, w_inv, kmB, kmA, w_meth, knC, knB, knA, w_methK, kq, w_eqC, w_neC, kcp, w_capI, klc, w_lc, ksq_l, ksq_t, ksq_s, w_seq, krg, w_rng, kst, w_str, kjB, kjA, w_join, ksC, ksB, ksA, w_sl, wp_oNone, kso, w_some, khC, khD_t, khD_f, khB, khA, w_ch, ws_nil, s_cons, kx, kk, ke, s_exp, s_ret, ws_sRetN, ki_t, ki_f, s_if, ks, s_set, kpB, kpA, s_par, kfo, s_for, ws_for0, kr, s_raise, s_try, kat, s_asgT, kaL, s_asgL, gTs_nil, gTs_cons, ws_nxt, ws_ret, wp_own, wp_ownR, oAdd, oSub, oLt, oLe, oGt, oGe, wp_mul, wp_div, wp_mod, wp_pow, gAbs_i, gInt_i, gInt_b, gMax_i, gMin_i, gEqS_i, gNeS_i, gEqS_s, gNeS_s, gEqS_b, gNeS_b, wp_len, len_lst, len_tup, len_scr, ix_l0, ix_t0, ix_t1, ix_t2, en0, List.map_cons, List.map_nil, List.length_cons, List.length_nil, List.cons_append, List.nil_append, List.append_nil, List.replicate_zero, List.reduceReplicate, Nat.reduceAdd, Nat.reduceSub, Nat.zero_add, List.set_cons_zero, List.set_cons_succ, MV.tup.injEq, MV.int.injEq, MV.str.injEq, MV.lst.injEq, MV.bl.injEq, exists_eq_left', exists_eq_left, Option.some.injEq, decide_eq_true_eq, Bool.not_eq_true', decide_eq_false_iff_not, if_true, if_false, Bool.false_eq_true, and_true, true_and, eq_self, decide_true, decide_false, Bool.not_true, Bool.not_false, reduceIte, not_true_eq_false, not_false_eq_true, Bool.true_eq_false, Int.reduceEq, Int.reduceLT, Int.reduceLE, Int.reduceAdd, Int.reduceSub, Int.reduceMul, Int.reduceNeg, Int.reducePow, Int.reduceToNat, Int.reduceNe, ofS, String.reduceEq, in_one, in_two, in_twoI, Nat.reduceLT, Nat.reduceLeDiff, or_self, or_false, false_or, true_or, or_true, and_false, false_and, and_self, pm01, kl1, w_lc1, w_lc0, wipe1, wp_cat, Bool.or_true, Bool.or_false, Bool.true_or, Bool.false_or, Bool.and_true, Bool.and_false, Bool.true_and, Bool.false_and, isi_s, sign_s, parts_s, h]
theorem W_eqcell (a b : PySem.Str) (S : So) (ha : goodN a) (hb : goodN b) : objEq "Value" f_Value___eq__ ["Value"] (Vt.cell a).mv (Vt.cell b).mv S = .ok (decide (a = b)) S := by
  rw [objEq_v, L_eqcell a b S ha hb]; rfl
theorem W_eqstep (a b : PySem.Str) (n : Int) (S : So) : objEq "Step" f_Step___eq__ ["Step"] (stp [.str a, (Vt.num n).mv] [.str a]) (stp [.str b, (Vt.num n).mv] [.str b]) S = .ok (decide (a = b)) S := by
  unfold objEq
  rw [if_pos ⟨rfl, rfl⟩, L_eqstep]; rfl

end Q2

set_option maxHeartbeats 4000000
set_option exponentiation.threshold 5000
namespace Q2
open PySem PySem.Spec PyProof.Rows L2 Mi

def pB : MV → Bool
  | .str z => ltT z "a" || ltT "z" z
  | _ => false
theorem pB_k (k : Nat) : pB (.str ⟨#[k]⟩) = !decide (k ∈ abc.cps.toList) := by
  have ea : (PySem.Str.ofString "a").cps.toList = [97] := by decide +kernel
  have ez : (PySem.Str.ofString "z").cps.toList = [122] := by decide +kernel
  show (decide ([k] < (PySem.Str.ofString "a").cps.toList) || decide ((PySem.Str.ofString "z").cps.toList < [k])) = _
  have g3 : decide (k ∈ abc.cps.toList) = decide (97 ≤ k ∧ k ≤ 122) := decide_eq_decide.mpr (abc_mem k)
  rw [ea, ez, g3]
  have h1 : ([k] < [97]) ↔ k < 97 := by simp [List.cons_lt_cons_iff]
  have h2 : ([122] < [k]) ↔ 122 < k := by simp [List.cons_lt_cons_iff]
  have g1 : decide ([k] < [97]) = decide (k < 97) := decide_eq_decide.mpr h1
  have g2 : decide ([122] < [k]) = decide (122 < k) := decide_eq_decide.mpr h2
  rw [g1, g2]
  by_cases a1 : k < 97 <;> by_cases a2 : 122 < k <;> simp [a1, a2] <;> omega
theorem odd_nil (x : PySem.Str) : decide (((sg1 x).filter fun z => pB (.str z)) = []) = okL x := by
  unfold okL
  have h : ∀ l : List Nat, decide (((l.map fun c => (⟨#[c]⟩ : PySem.Str)).filter fun z => pB (.str z)) = []) = l.all fun k => decide (k ∈ abc.cps.toList) := fun l => by
    induction l with
    | nil => rfl
    | cons c l ih =>
      rw [List.map_cons, List.filter_cons, List.all_cons, ← ih]
      rw [pB_k]
      by_cases hc : c ∈ abc.cps.toList <;> simp [hc]
  exact h _
theorem odd_smv (x : PySem.Str) : ((signsM x).filter pB).map id = smv ((sg1 x).filter fun z => pB (.str z)) := by
  rw [List.map_id, signs_sg, List.filter_map]; rfl
abbrev oE (w : Nat) (a1 : Option MV) (x : PySem.Str) (a3 a4 : Option MV) : En := [some (.ref w), a1, some (.str x), a3, a4, none, none, none, none, none, none, none]
theorem lc_odd (w : Nat) (a1 a3 a4 : Option MV) (x : PySem.Str) (S : So) : lcL [11] (gN 11) (tOr' (tVal (mBin (gStrC ltT) (mName 11) (mC (.str "a")))) (tVal (mBin (gStrC fun i j => ltT j i) (mName 11) (mC (.str "z"))))) (mName 11) (signsM x) (oE w a1 x a3 a4) S = .ok (smv ((sg1 x).filter fun z => pB (.str z))) S := by
  rw [← odd_smv]
  refine lc_pure pB id _ fun y hy => ?_
  obtain ⟨k, hk, rfl⟩ := List.mem_map.mp hy
  refine ⟨_, rfl, ?_, fun _ => rfl⟩
  have h1 : tVal (mBin (gStrC ltT) (mName 11) (mC (.str "a"))) [some (.ref w), a1, some (.str x), a3, a4, none, none, none, none, none, none, some (.str ⟨#[k]⟩)] S = .ok (ltT ⟨#[k]⟩ "a") S := rfl
  have h2 : tVal (mBin (gStrC fun i j => ltT j i) (mName 11) (mC (.str "z"))) [some (.ref w), a1, some (.str x), a3, a4, none, none, none, none, none, none, some (.str ⟨#[k]⟩)] S = .ok (ltT "z" ⟨#[k]⟩) S := rfl
  show tOr' _ _ [some (.ref w), a1, some (.str x), a3, a4, none, none, none, none, none, none, some (.str ⟨#[k]⟩)] S = _
  unfold tOr'
  rw [h1]
  show _ = Mi.R.ok (ltT ⟨#[k]⟩ "a" || ltT "z" ⟨#[k]⟩) S
  cases ltT ⟨#[k]⟩ "a"
  · exact h2
  · rfl
abbrev goodE : ME := mAnd (mCh (fun i j => decide (i ≤ j)) (fun i j => decide (i ≤ j)) (mC (.int 1)) (mBlt gLen [(mName 2)]) (mC (.int 8))) (mBin gEqD (mLc (capI (iStrM (mName 2))) (([("sign", 11)] : List (PySem.Str × Nat)).map (·.2)) (gN 11) (tOr' (tVal (mBin (gStrC ltT) (mName 11) (mC (.str "a")))) (tVal (mBin (gStrC fun i j => ltT j i) (mName 11) (mC (.str "z"))))) (mName 11)) (mLst []))
theorem L_good (w : Nat) (a1 a3 a4 : Option MV) (x : PySem.Str) (ha : aT x) (S : So) : goodE (oE w a1 x a3 a4) S = .ok (.bl (decide (goodN x))) S := by
  have e := lc_odd w a1 a3 a4 x S
  have eq : gEqD (.lst (smv ((sg1 x).filter fun z => pB (.str z)))) (.lst []) S = .ok (.bl (okL x)) S := by
    rw [eqD_nil, odd_nil]
    intro y hy
    obtain ⟨hy, _⟩ := List.mem_filter.mp hy
    obtain ⟨k, hk, rfl⟩ := List.mem_map.mp hy
    exact strOk_lt fun j hj => by
      have : j = k := by simpa using hj
      rw [this]; exact ha.2 k hk
  have hz : x.length ≤ SZ := Nat.le_trans ha.1 (by decide)
  have l3 : (signsM x).length ≤ SZ := by rw [len_signs]; exact hz
  refine wp_is ?_
  have hd : decide (goodN x) = decide ((1 ≤ x.length ∧ x.length ≤ 8) ∧ okL x = true) := decide_eq_decide.mpr (goodN_iff x)
  rw [hd]
  rcases Classical.propComplete ((1 : Int) ≤ (x.length : Int)) with h1 | h1
  · have h1' : 1 ≤ x.length := by have := of_eq_true h1; omega
    rcases Classical.propComplete ((x.length : Int) ≤ 8) with h2 | h2
    · have h2' : x.length ≤ 8 := by have := of_eq_true h2; omega
      simp only [goodE, oE, wp_ok, wp_exc, wp_bad, wp_mC, nm0, nm1, nm2, nm3, nm4, nm5, nm6, nm7, nm8, nm9, nm10, nm11, nm12, nm13, nm14, nm15, wp_nil, k3, k2, w_bin, kc, ka, w_cons, kt, w_tup, kl, w_lst, klM, w_lstM, kf, w_frz, kg, w_call, kkB, kkA, w_callK, kb, w_blt, kv, w_val, kn, w_not, kan_t, kan_f, w_and, kor_t, kor_f, w_or, knn, w_mnot, kma_t, kma_f, w_mand, kmo_t, kmo_f, w_mor, kmi_t, kmi_f, w_mif, kfl, w_fld, kpr, w_prop, kis, w_isi, kng, w_neg, kiv, w_inv, kmB, kmA, w_meth, knC, knB, knA, w_methK, kq, w_eqC, w_neC, kcp, w_capI, klc, w_lc, ksq_l, ksq_t, ksq_s, w_seq, krg, w_rng, kst, w_str, kjB, kjA, w_join, ksC, ksB, ksA, w_sl, wp_oNone, kso, w_some, khC, khD_t, khD_f, khB, khA, w_ch, ws_nil, s_cons, kx, kk, ke, s_exp, s_ret, ws_sRetN, ki_t, ki_f, s_if, ks, s_set, kpB, kpA, s_par, kfo, s_for, ws_for0, kr, s_raise, s_try, kat, s_asgT, kaL, s_asgL, gTs_nil, gTs_cons, ws_nxt, ws_ret, wp_own, wp_ownR, oAdd, oSub, oLt, oLe, oGt, oGe, wp_mul, wp_div, wp_mod, wp_pow, gAbs_i, gInt_i, gInt_b, gMax_i, gMin_i, gEqS_i, gNeS_i, gEqS_s, gNeS_s, gEqS_b, gNeS_b, wp_len, len_lst, len_tup, len_scr, ix_l0, ix_t0, ix_t1, ix_t2, en0, List.map_cons, List.map_nil, List.length_cons, List.length_nil, List.cons_append, List.nil_append, List.append_nil, List.replicate_zero, List.reduceReplicate, Nat.reduceAdd, Nat.reduceSub, Nat.zero_add, List.set_cons_zero, List.set_cons_succ, MV.tup.injEq, MV.int.injEq, MV.str.injEq, MV.lst.injEq, MV.bl.injEq, exists_eq_left', exists_eq_left, Option.some.injEq, decide_eq_true_eq, Bool.not_eq_true', decide_eq_false_iff_not, if_true, if_false, Bool.false_eq_true, and_true, true_and, eq_self, decide_true, decide_false, Bool.not_true, Bool.not_false, reduceIte, not_true_eq_false, not_false_eq_true, Bool.true_eq_false, Int.reduceEq, Int.reduceLT, Int.reduceLE, Int.reduceAdd, Int.reduceSub, Int.reduceMul, Int.reduceNeg, Int.reducePow, Int.reduceToNat, Int.reduceNe, ofS, String.reduceEq, in_one, in_two, in_twoI, Nat.reduceLT, Nat.reduceLeDiff, or_self, or_false, false_or, true_or, or_true, and_false, false_and, and_self, pm01, kl1, w_lc1, w_lc0, wipe1, wp_cat, Bool.or_true, Bool.or_false, Bool.true_or, Bool.false_or, Bool.and_true, Bool.and_false, Bool.true_and, Bool.false_and, e, eq, hz, h1, h2, l3, h1', h2', Bool.decide_eq_true]
    · have h2' : ¬ x.length ≤ 8 := fun h => of_eq_false h2 (by omega)
      simp only [goodE, oE, wp_ok, wp_exc, wp_bad, wp_mC, nm0, nm1, nm2, nm3, nm4, nm5, nm6, nm7, nm8, nm9, nm10, nm11, nm12, nm13, nm14, nm15, wp_nil, k3, k2, w_bin, kc, ka, w_cons, kt, w_tup, kl, w_lst, klM, w_lstM, kf, w_frz, kg, w_call, kkB, kkA, w_callK, kb, w_blt, kv, w_val, kn, w_not, kan_t, kan_f, w_and, kor_t, kor_f, w_or, knn, w_mnot, kma_t, kma_f, w_mand, kmo_t, kmo_f, w_mor, kmi_t, kmi_f, w_mif, kfl, w_fld, kpr, w_prop, kis, w_isi, kng, w_neg, kiv, w_inv, kmB, kmA, w_meth, knC, knB, knA, w_methK, kq, w_eqC, w_neC, kcp, w_capI, klc, w_lc, ksq_l, ksq_t, ksq_s, w_seq, krg, w_rng, kst, w_str, kjB, kjA, w_join, ksC, ksB, ksA, w_sl, wp_oNone, kso, w_some, khC, khD_t, khD_f, khB, khA, w_ch, ws_nil, s_cons, kx, kk, ke, s_exp, s_ret, ws_sRetN, ki_t, ki_f, s_if, ks, s_set, kpB, kpA, s_par, kfo, s_for, ws_for0, kr, s_raise, s_try, kat, s_asgT, kaL, s_asgL, gTs_nil, gTs_cons, ws_nxt, ws_ret, wp_own, wp_ownR, oAdd, oSub, oLt, oLe, oGt, oGe, wp_mul, wp_div, wp_mod, wp_pow, gAbs_i, gInt_i, gInt_b, gMax_i, gMin_i, gEqS_i, gNeS_i, gEqS_s, gNeS_s, gEqS_b, gNeS_b, wp_len, len_lst, len_tup, len_scr, ix_l0, ix_t0, ix_t1, ix_t2, en0, List.map_cons, List.map_nil, List.length_cons, List.length_nil, List.cons_append, List.nil_append, List.append_nil, List.replicate_zero, List.reduceReplicate, Nat.reduceAdd, Nat.reduceSub, Nat.zero_add, List.set_cons_zero, List.set_cons_succ, MV.tup.injEq, MV.int.injEq, MV.str.injEq, MV.lst.injEq, MV.bl.injEq, exists_eq_left', exists_eq_left, Option.some.injEq, decide_eq_true_eq, Bool.not_eq_true', decide_eq_false_iff_not, if_true, if_false, Bool.false_eq_true, and_true, true_and, eq_self, decide_true, decide_false, Bool.not_true, Bool.not_false, reduceIte, not_true_eq_false, not_false_eq_true, Bool.true_eq_false, Int.reduceEq, Int.reduceLT, Int.reduceLE, Int.reduceAdd, Int.reduceSub, Int.reduceMul, Int.reduceNeg, Int.reducePow, Int.reduceToNat, Int.reduceNe, ofS, String.reduceEq, in_one, in_two, in_twoI, Nat.reduceLT, Nat.reduceLeDiff, or_self, or_false, false_or, true_or, or_true, and_false, false_and, and_self, pm01, kl1, w_lc1, w_lc0, wipe1, wp_cat, Bool.or_true, Bool.or_false, Bool.true_or, Bool.false_or, Bool.and_true, Bool.and_false, Bool.true_and, Bool.false_and, e, eq, hz, h1, h2, l3, h1', h2']
  · have h1' : ¬ 1 ≤ x.length := fun h => of_eq_false h1 (by omega)
    simp only [goodE, oE, wp_ok, wp_exc, wp_bad, wp_mC, nm0, nm1, nm2, nm3, nm4, nm5, nm6, nm7, nm8, nm9, nm10, nm11, nm12, nm13, nm14, nm15, wp_nil, k3, k2, w_bin, kc, ka, w_cons, kt, w_tup, kl, w_lst, klM, w_lstM, kf, w_frz, kg, w_call, kkB, kkA, w_callK, kb, w_blt, kv, w_val, kn, w_not, kan_t, kan_f, w_and, kor_t, kor_f, w_or, knn, w_mnot, kma_t, kma_f, w_mand, kmo_t, kmo_f, w_mor, kmi_t, kmi_f, w_mif, kfl, w_fld, kpr, w_prop, kis, w_isi, kng, w_neg, kiv, w_inv, kmB, kmA, w_meth, knC, knB, knA, w_methK, kq, w_eqC, w_neC, kcp, w_capI, klc, w_lc, ksq_l, ksq_t, ksq_s, w_seq, krg, w_rng, kst, w_str, kjB, kjA, w_join, ksC, ksB, ksA, w_sl, wp_oNone, kso, w_some, khC, khD_t, khD_f, khB, khA, w_ch, ws_nil, s_cons, kx, kk, ke, s_exp, s_ret, ws_sRetN, ki_t, ki_f, s_if, ks, s_set, kpB, kpA, s_par, kfo, s_for, ws_for0, kr, s_raise, s_try, kat, s_asgT, kaL, s_asgL, gTs_nil, gTs_cons, ws_nxt, ws_ret, wp_own, wp_ownR, oAdd, oSub, oLt, oLe, oGt, oGe, wp_mul, wp_div, wp_mod, wp_pow, gAbs_i, gInt_i, gInt_b, gMax_i, gMin_i, gEqS_i, gNeS_i, gEqS_s, gNeS_s, gEqS_b, gNeS_b, wp_len, len_lst, len_tup, len_scr, ix_l0, ix_t0, ix_t1, ix_t2, en0, List.map_cons, List.map_nil, List.length_cons, List.length_nil, List.cons_append, List.nil_append, List.append_nil, List.replicate_zero, List.reduceReplicate, Nat.reduceAdd, Nat.reduceSub, Nat.zero_add, List.set_cons_zero, List.set_cons_succ, MV.tup.injEq, MV.int.injEq, MV.str.injEq, MV.lst.injEq, MV.bl.injEq, exists_eq_left', exists_eq_left, Option.some.injEq, decide_eq_true_eq, Bool.not_eq_true', decide_eq_false_iff_not, if_true, if_false, Bool.false_eq_true, and_true, true_and, eq_self, decide_true, decide_false, Bool.not_true, Bool.not_false, reduceIte, not_true_eq_false, not_false_eq_true, Bool.true_eq_false, Int.reduceEq, Int.reduceLT, Int.reduceLE, Int.reduceAdd, Int.reduceSub, Int.reduceMul, Int.reduceNeg, Int.reducePow, Int.reduceToNat, Int.reduceNe, ofS, String.reduceEq, in_one, in_two, in_twoI, Nat.reduceLT, Nat.reduceLeDiff, or_self, or_false, false_or, true_or, or_true, and_false, false_and, and_self, pm01, kl1, w_lc1, w_lc0, wipe1, wp_cat, Bool.or_true, Bool.or_false, Bool.true_or, Bool.false_or, Bool.and_true, Bool.and_false, Bool.true_and, Bool.false_and, e, eq, hz, h1, l3, h1']

end Q2

set_option maxHeartbeats 4000000
set_option exponentiation.threshold 5000
namespace Q2
open PySem PySem.Spec PyProof.Rows L2 Mi

theorem ok_show {d : PyData} (h1 : d.showable = true) (h2 : d.hasDict = false) (h3 : d.depth ≤ 60) (h4 : PyData.leavesShort 2000 d = true) (h5 : d.bulk ≤ 100) : okShow d = true := by
  have hb := PySem.PyData.shown_le_bulk 2000 (by decide) d h4
  unfold okShow
  rw [h1, h2, decide_eq_true h3, decide_eq_true]
  · rfl
  · have hb3 : (2000 + 2) * d.bulk ≤ 2002 * 100 := Nat.mul_le_mul_left _ h5
    show _ ≤ 16777216
    omega
theorem leaf {x : PySem.Str} (ha : aT x) : (x.cps.toList.all fun c => decide (c < 16 ^ 8)) = true := List.all_eq_true.mpr fun k hk => decide_eq_true (Nat.lt_trans (ha.2 k hk) (by decide))
theorem size_T {x : PySem.Str} (ha : aT x) : x.cps.size ≤ 14 := ha.1
theorem aT_good {x : PySem.Str} (h : goodN x) : aT x := ⟨by have := h.1.2; omega, fun k hk => abc_lt k (h.2 k hk)⟩
theorem R_lst (ds : List PyData) (xs : List MV) (S : So) (e : allSome (xs.map (toD 11 S)) = some ds) (h : okShow (.list ds) = true) : gRepr [.lst xs] S = .ok (.str (PyData.shown (.list ds))) S := by
  have e1 : toD DF0 S (.lst xs) = some (.list ds) := by
    show (allSome (xs.map (toD 11 S))).map PyData.list = _
    rw [e]; rfl
  have e2 : gRepr [.lst xs] S = (match toD DF0 S (.lst xs) with
    | some (.list ds) => if okShow (.list ds) = true then (Mi.R.ok (MV.str (PyData.shown (.list ds))) S : Mi.R MV) else .bad
    | some (.tuple ds) => if okShow (.tuple ds) = true then .ok (MV.str (PyData.shown (.tuple ds))) S else .bad
    | _ => .bad) := rfl
  rw [e2, e1]
  simp only
  rw [if_pos h]
theorem R_wants (x : PySem.Str) (ha : aT x) (S : So) : ∃ s, gRepr [wants x] S = .ok (.str s) S := by
  unfold wants
  have hl := leaf ha
  have hs := size_T ha
  split
  · refine ⟨_, R_lst [.str x] _ S rfl (ok_show ?_ ?_ ?_ ?_ ?_)⟩ <;> simp only [PyData.showable, PyData.showableAll, PyData.hasDict, PyData.hasDictAll, PyData.depth, PyData.depthAll, PyData.leavesShort, PyData.leavesShortAll, PyData.bulk, PyData.bulkAll, hl, Bool.and_true, Bool.or_false] <;> omega
  · refine ⟨_, R_lst [.bool true, .str x] _ S rfl (ok_show ?_ ?_ ?_ ?_ ?_)⟩ <;> simp only [PyData.showable, PyData.showableAll, PyData.hasDict, PyData.hasDictAll, PyData.depth, PyData.depthAll, PyData.leavesShort, PyData.leavesShortAll, PyData.bulk, PyData.bulkAll, hl, Bool.and_true, Bool.or_false] <;> omega
theorem R_told (x : PySem.Str) (ha : aT x) (a b c d : Bool) (S : So) : ∃ s, gRepr [.lst [.bl a, .bl b, .bl c, .bl d, .lst [.str x]]] S = .ok (.str s) S := by
  have hl := leaf ha
  have hs := size_T ha
  refine ⟨_, R_lst [.bool a, .bool b, .bool c, .bool d, .list [.str x]] _ S rfl (ok_show ?_ ?_ ?_ ?_ ?_)⟩ <;> simp only [PyData.showable, PyData.showableAll, PyData.hasDict, PyData.hasDictAll, PyData.depth, PyData.depthAll, PyData.leavesShort, PyData.leavesShortAll, PyData.bulk, PyData.bulkAll, hl, Bool.and_true, Bool.or_false] <;> omega
theorem lc_ways (w : Nat) (a1 a3 : Option MV) (x : PySem.Str) (ha : aT x) (S : So) : lcL [10] (gN 10) (tVal (mBin gNeS (mBlt gRepr [(mCall f__law_caught [] [(mName 2), (mName 10)])]) (mBlt gRepr [(mName 4)]))) (mName 10) (rngM 0 4) (oE w a1 x a3 (some (wants x))) S = .ok [] S := by
  obtain ⟨s, es⟩ := R_wants x ha S
  refine (lc_pure (fun _ => false) id (rngM 0 4) fun y hy => ?_).trans rfl
  obtain ⟨j, hj, rfl⟩ := rng_mem hy
  refine ⟨_, rfl, wp_is ?_, fun h => nomatch h⟩
  have ec := L_caught x ha (j : Int) S ⟨by omega, by omega⟩
  show wp (tVal (mBin gNeS (mBlt gRepr [(mCall f__law_caught [] [(mName 2), (mName 10)])]) (mBlt gRepr [(mName 4)])) [some (.ref w), a1, some (.str x), a3, some (wants x), none, none, none, none, none, some (.int j), none] S) _ _
  simp only [wp_ok, wp_exc, wp_bad, wp_mC, nm0, nm1, nm2, nm3, nm4, nm5, nm6, nm7, nm8, nm9, nm10, nm11, nm12, nm13, nm14, nm15, wp_nil, k3, k2, w_bin, kc, ka, w_cons, kt, w_tup, kl, w_lst, klM, w_lstM, kf, w_frz, kg, w_call, kkB, kkA, w_callK, kb, w_blt, kv, w_val, kn, w_not, kan_t, kan_f, w_and, kor_t, kor_f, w_or, knn, w_mnot, kma_t, kma_f, w_mand, kmo_t, kmo_f, w_mor, kmi_t, kmi_f, w_mif, kfl, w_fld, kpr, w_prop, kis, w_isi, kng, w_neg, kiv, w_inv, kmB, kmA, w_meth, knC, knB, knA, w_methK, kq, w_eqC, w_neC, kcp, w_capI, klc, w_lc, ksq_l, ksq_t, ksq_s, w_seq, krg, w_rng, kst, w_str, kjB, kjA, w_join, ksC, ksB, ksA, w_sl, wp_oNone, kso, w_some, khC, khD_t, khD_f, khB, khA, w_ch, ws_nil, s_cons, kx, kk, ke, s_exp, s_ret, ws_sRetN, ki_t, ki_f, s_if, ks, s_set, kpB, kpA, s_par, kfo, s_for, ws_for0, kr, s_raise, s_try, kat, s_asgT, kaL, s_asgL, gTs_nil, gTs_cons, ws_nxt, ws_ret, wp_own, wp_ownR, oAdd, oSub, oLt, oLe, oGt, oGe, wp_mul, wp_div, wp_mod, wp_pow, gAbs_i, gInt_i, gInt_b, gMax_i, gMin_i, gEqS_i, gNeS_i, gEqS_s, gNeS_s, gEqS_b, gNeS_b, wp_len, len_lst, len_tup, len_scr, ix_l0, ix_t0, ix_t1, ix_t2, en0, List.map_cons, List.map_nil, List.length_cons, List.length_nil, List.cons_append, List.nil_append, List.append_nil, List.replicate_zero, List.reduceReplicate, Nat.reduceAdd, Nat.reduceSub, Nat.zero_add, List.set_cons_zero, List.set_cons_succ, MV.tup.injEq, MV.int.injEq, MV.str.injEq, MV.lst.injEq, MV.bl.injEq, exists_eq_left', exists_eq_left, Option.some.injEq, decide_eq_true_eq, Bool.not_eq_true', decide_eq_false_iff_not, if_true, if_false, Bool.false_eq_true, and_true, true_and, eq_self, decide_true, decide_false, Bool.not_true, Bool.not_false, reduceIte, not_true_eq_false, not_false_eq_true, Bool.true_eq_false, Int.reduceEq, Int.reduceLT, Int.reduceLE, Int.reduceAdd, Int.reduceSub, Int.reduceMul, Int.reduceNeg, Int.reducePow, Int.reduceToNat, Int.reduceNe, ofS, String.reduceEq, in_one, in_two, in_twoI, Nat.reduceLT, Nat.reduceLeDiff, or_self, or_false, false_or, true_or, or_true, and_false, false_and, and_self, pm01, kl1, w_lc1, w_lc0, wipe1, wp_cat, Bool.or_true, Bool.or_false, Bool.true_or, Bool.false_or, Bool.and_true, Bool.and_false, Bool.true_and, Bool.false_and, ec, es]
theorem gprop_v (v : Vt) (S : So) : gProp "Value" f_Value_names v.mv S = .ok (.lst (smv v.nms)) S := by
  obtain ⟨sg, ps, e⟩ := v.mv_names
  have e2 := L_names S v
  unfold gProp
  rw [e] at e2 ⊢
  simp only [clsOf, e2, noX, if_true]
theorem body_ok (w : Nat) (t a2 a3 a4 : Option MV) (S : So) (c : Nat) (hw : Wl S w c) (hc : c < 500000000) (D : SE) (hD : ∀ a2 a3 a4 S', Wl S' w (c + 25) → S'.length = S.length → D.nx [some (.ref w), t, a2, a3, a4, none, none, none, none, none, none, none] S') :
    ws (sBlk [(sAsg (gN 2) (mCall f__law_text [] [(mName 0)])), (sAsg (gN 3) goodE), (sAsg (gN 4) (mIf (tVal (mName 3)) (mLst [(mName 2)]) (mLst [(mC (.bl true)), (mName 2)]))),
      (sIf (tVal (mBin gNeD (mLc (capI (iRng (mC (.int 4)))) (([("way", 10)] : List (PySem.Str × Nat)).map (·.2)) (gN 10) (tVal (mBin gNeS (mBlt gRepr [(mCall f__law_caught [] [(mName 2), (mName 10)])]) (mBlt gRepr [(mName 4)]))) (mName 10)) (mLst []))) (sBlk [(sRet (mC (.bl false)))]) (sBlk []))] [some (.ref w), t, a2, a3, a4, none, none, none, none, none, none, none] S) D := by
  refine ws_cut (fun r S1 => ∃ x, aT x ∧ r = oE w t x a3 a4 ∧ Wl S1 w (c + 25) ∧ S1.length = S.length) ?_ ?_
  · simp only [wp_ok, wp_exc, wp_bad, wp_mC, nm0, nm1, nm2, nm3, nm4, nm5, nm6, nm7, nm8, nm9, nm10, nm11, nm12, nm13, nm14, nm15, wp_nil, k3, k2, w_bin, kc, ka, w_cons, kt, w_tup, kl, w_lst, klM, w_lstM, kf, w_frz, kg, w_call, kkB, kkA, w_callK, kb, w_blt, kv, w_val, kn, w_not, kan_t, kan_f, w_and, kor_t, kor_f, w_or, knn, w_mnot, kma_t, kma_f, w_mand, kmo_t, kmo_f, w_mor, kmi_t, kmi_f, w_mif, kfl, w_fld, kpr, w_prop, kis, w_isi, kng, w_neg, kiv, w_inv, kmB, kmA, w_meth, knC, knB, knA, w_methK, kq, w_eqC, w_neC, kcp, w_capI, klc, w_lc, ksq_l, ksq_t, ksq_s, w_seq, krg, w_rng, kst, w_str, kjB, kjA, w_join, ksC, ksB, ksA, w_sl, wp_oNone, kso, w_some, khC, khD_t, khD_f, khB, khA, w_ch, ws_nil, s_cons, kx, kk, ke, s_exp, s_ret, ws_sRetN, ki_t, ki_f, s_if, ks, s_set, kpB, kpA, s_par, kfo, s_for, ws_for0, kr, s_raise, s_try, kat, s_asgT, kaL, s_asgL, gTs_nil, gTs_cons, ws_nxt, ws_ret, wp_own, wp_ownR, oAdd, oSub, oLt, oLe, oGt, oGe, wp_mul, wp_div, wp_mod, wp_pow, gAbs_i, gInt_i, gInt_b, gMax_i, gMin_i, gEqS_i, gNeS_i, gEqS_s, gNeS_s, gEqS_b, gNeS_b, wp_len, len_lst, len_tup, len_scr, ix_l0, ix_t0, ix_t1, ix_t2, en0, List.map_cons, List.map_nil, List.length_cons, List.length_nil, List.cons_append, List.nil_append, List.append_nil, List.replicate_zero, List.reduceReplicate, Nat.reduceAdd, Nat.reduceSub, Nat.zero_add, List.set_cons_zero, List.set_cons_succ, MV.tup.injEq, MV.int.injEq, MV.str.injEq, MV.lst.injEq, MV.bl.injEq, exists_eq_left', exists_eq_left, Option.some.injEq, decide_eq_true_eq, Bool.not_eq_true', decide_eq_false_iff_not, if_true, if_false, Bool.false_eq_true, and_true, true_and, eq_self, decide_true, decide_false, Bool.not_true, Bool.not_false, reduceIte, not_true_eq_false, not_false_eq_true, Bool.true_eq_false, Int.reduceEq, Int.reduceLT, Int.reduceLE, Int.reduceAdd, Int.reduceSub, Int.reduceMul, Int.reduceNeg, Int.reducePow, Int.reduceToNat, Int.reduceNe, ofS, String.reduceEq, in_one, in_two, in_twoI, Nat.reduceLT, Nat.reduceLeDiff, or_self, or_false, false_or, true_or, or_true, and_false, false_and, and_self, pm01, kl1, w_lc1, w_lc0, wipe1, wp_cat, Bool.or_true, Bool.or_false, Bool.true_or, Bool.false_or, Bool.and_true, Bool.and_false, Bool.true_and, Bool.false_and]
    refine wp_use (T_text hw (by omega)) ?_
    rintro _ S1 ⟨x, rfl, ha, w1, l1⟩
    simp only [wp_ok, wp_exc, wp_bad, wp_mC, nm0, nm1, nm2, nm3, nm4, nm5, nm6, nm7, nm8, nm9, nm10, nm11, nm12, nm13, nm14, nm15, wp_nil, k3, k2, w_bin, kc, ka, w_cons, kt, w_tup, kl, w_lst, klM, w_lstM, kf, w_frz, kg, w_call, kkB, kkA, w_callK, kb, w_blt, kv, w_val, kn, w_not, kan_t, kan_f, w_and, kor_t, kor_f, w_or, knn, w_mnot, kma_t, kma_f, w_mand, kmo_t, kmo_f, w_mor, kmi_t, kmi_f, w_mif, kfl, w_fld, kpr, w_prop, kis, w_isi, kng, w_neg, kiv, w_inv, kmB, kmA, w_meth, knC, knB, knA, w_methK, kq, w_eqC, w_neC, kcp, w_capI, klc, w_lc, ksq_l, ksq_t, ksq_s, w_seq, krg, w_rng, kst, w_str, kjB, kjA, w_join, ksC, ksB, ksA, w_sl, wp_oNone, kso, w_some, khC, khD_t, khD_f, khB, khA, w_ch, ws_nil, s_cons, kx, kk, ke, s_exp, s_ret, ws_sRetN, ki_t, ki_f, s_if, ks, s_set, kpB, kpA, s_par, kfo, s_for, ws_for0, kr, s_raise, s_try, kat, s_asgT, kaL, s_asgL, gTs_nil, gTs_cons, ws_nxt, ws_ret, wp_own, wp_ownR, oAdd, oSub, oLt, oLe, oGt, oGe, wp_mul, wp_div, wp_mod, wp_pow, gAbs_i, gInt_i, gInt_b, gMax_i, gMin_i, gEqS_i, gNeS_i, gEqS_s, gNeS_s, gEqS_b, gNeS_b, wp_len, len_lst, len_tup, len_scr, ix_l0, ix_t0, ix_t1, ix_t2, en0, List.map_cons, List.map_nil, List.length_cons, List.length_nil, List.cons_append, List.nil_append, List.append_nil, List.replicate_zero, List.reduceReplicate, Nat.reduceAdd, Nat.reduceSub, Nat.zero_add, List.set_cons_zero, List.set_cons_succ, MV.tup.injEq, MV.int.injEq, MV.str.injEq, MV.lst.injEq, MV.bl.injEq, exists_eq_left', exists_eq_left, Option.some.injEq, decide_eq_true_eq, Bool.not_eq_true', decide_eq_false_iff_not, if_true, if_false, Bool.false_eq_true, and_true, true_and, eq_self, decide_true, decide_false, Bool.not_true, Bool.not_false, reduceIte, not_true_eq_false, not_false_eq_true, Bool.true_eq_false, Int.reduceEq, Int.reduceLT, Int.reduceLE, Int.reduceAdd, Int.reduceSub, Int.reduceMul, Int.reduceNeg, Int.reducePow, Int.reduceToNat, Int.reduceNe, ofS, String.reduceEq, in_one, in_two, in_twoI, Nat.reduceLT, Nat.reduceLeDiff, or_self, or_false, false_or, true_or, or_true, and_false, false_and, and_self, pm01, kl1, w_lc1, w_lc0, wipe1, wp_cat, Bool.or_true, Bool.or_false, Bool.true_or, Bool.false_or, Bool.and_true, Bool.and_false, Bool.true_and, Bool.false_and]
    exact ⟨x, ha, rfl, w1, l1⟩
  rintro r S1 ⟨x, ha, rfl, w1, l1⟩
  refine ws_cut (fun r S2 => S2 = S1 ∧ r = oE w t x (some (.bl (decide (goodN x)))) a4) ?_ ?_
  · rw [s_set]
    rw [L_good w t a3 a4 x ha S1]
    exact ⟨rfl, rfl⟩
  rintro r S2 ⟨rfl, rfl⟩
  refine ws_cut (fun r S3 => S3 = S2 ∧ r = oE w t x (some (.bl (decide (goodN x)))) (some (wants x))) ?_ ?_
  · by_cases hg : goodN x <;> simp only [oE, wp_ok, wp_exc, wp_bad, wp_mC, nm0, nm1, nm2, nm3, nm4, nm5, nm6, nm7, nm8, nm9, nm10, nm11, nm12, nm13, nm14, nm15, wp_nil, k3, k2, w_bin, kc, ka, w_cons, kt, w_tup, kl, w_lst, klM, w_lstM, kf, w_frz, kg, w_call, kkB, kkA, w_callK, kb, w_blt, kv, w_val, kn, w_not, kan_t, kan_f, w_and, kor_t, kor_f, w_or, knn, w_mnot, kma_t, kma_f, w_mand, kmo_t, kmo_f, w_mor, kmi_t, kmi_f, w_mif, kfl, w_fld, kpr, w_prop, kis, w_isi, kng, w_neg, kiv, w_inv, kmB, kmA, w_meth, knC, knB, knA, w_methK, kq, w_eqC, w_neC, kcp, w_capI, klc, w_lc, ksq_l, ksq_t, ksq_s, w_seq, krg, w_rng, kst, w_str, kjB, kjA, w_join, ksC, ksB, ksA, w_sl, wp_oNone, kso, w_some, khC, khD_t, khD_f, khB, khA, w_ch, ws_nil, s_cons, kx, kk, ke, s_exp, s_ret, ws_sRetN, ki_t, ki_f, s_if, ks, s_set, kpB, kpA, s_par, kfo, s_for, ws_for0, kr, s_raise, s_try, kat, s_asgT, kaL, s_asgL, gTs_nil, gTs_cons, ws_nxt, ws_ret, wp_own, wp_ownR, oAdd, oSub, oLt, oLe, oGt, oGe, wp_mul, wp_div, wp_mod, wp_pow, gAbs_i, gInt_i, gInt_b, gMax_i, gMin_i, gEqS_i, gNeS_i, gEqS_s, gNeS_s, gEqS_b, gNeS_b, wp_len, len_lst, len_tup, len_scr, ix_l0, ix_t0, ix_t1, ix_t2, en0, List.map_cons, List.map_nil, List.length_cons, List.length_nil, List.cons_append, List.nil_append, List.append_nil, List.replicate_zero, List.reduceReplicate, Nat.reduceAdd, Nat.reduceSub, Nat.zero_add, List.set_cons_zero, List.set_cons_succ, MV.tup.injEq, MV.int.injEq, MV.str.injEq, MV.lst.injEq, MV.bl.injEq, exists_eq_left', exists_eq_left, Option.some.injEq, decide_eq_true_eq, Bool.not_eq_true', decide_eq_false_iff_not, if_true, if_false, Bool.false_eq_true, and_true, true_and, eq_self, decide_true, decide_false, Bool.not_true, Bool.not_false, reduceIte, not_true_eq_false, not_false_eq_true, Bool.true_eq_false, Int.reduceEq, Int.reduceLT, Int.reduceLE, Int.reduceAdd, Int.reduceSub, Int.reduceMul, Int.reduceNeg, Int.reducePow, Int.reduceToNat, Int.reduceNe, ofS, String.reduceEq, in_one, in_two, in_twoI, Nat.reduceLT, Nat.reduceLeDiff, or_self, or_false, false_or, true_or, or_true, and_false, false_and, and_self, pm01, kl1, w_lc1, w_lc0, wipe1, wp_cat, Bool.or_true, Bool.or_false, Bool.true_or, Bool.false_or, Bool.and_true, Bool.and_false, Bool.true_and, Bool.false_and, hg, wants] <;> rfl
  rintro r S3 ⟨rfl, rfl⟩
  have e := lc_ways w t (some (.bl (decide (goodN x)))) x ha S3
  have hb4 : -B62 ≤ (4 : Int) ∧ (4 : Int) < B62 := b62 4 (by decide)
  have hr : (rngM 0 4).length ≤ SZ := by rw [rng_len]; have : SZ = 16777216 := rfl; omega
  have en : gNeD (.lst []) (.lst []) S3 = .ok (.bl false) S3 := rfl
  simp only [oE] at e
  simp only [oE, wp_ok, wp_exc, wp_bad, wp_mC, nm0, nm1, nm2, nm3, nm4, nm5, nm6, nm7, nm8, nm9, nm10, nm11, nm12, nm13, nm14, nm15, wp_nil, k3, k2, w_bin, kc, ka, w_cons, kt, w_tup, kl, w_lst, klM, w_lstM, kf, w_frz, kg, w_call, kkB, kkA, w_callK, kb, w_blt, kv, w_val, kn, w_not, kan_t, kan_f, w_and, kor_t, kor_f, w_or, knn, w_mnot, kma_t, kma_f, w_mand, kmo_t, kmo_f, w_mor, kmi_t, kmi_f, w_mif, kfl, w_fld, kpr, w_prop, kis, w_isi, kng, w_neg, kiv, w_inv, kmB, kmA, w_meth, knC, knB, knA, w_methK, kq, w_eqC, w_neC, kcp, w_capI, klc, w_lc, ksq_l, ksq_t, ksq_s, w_seq, krg, w_rng, kst, w_str, kjB, kjA, w_join, ksC, ksB, ksA, w_sl, wp_oNone, kso, w_some, khC, khD_t, khD_f, khB, khA, w_ch, ws_nil, s_cons, kx, kk, ke, s_exp, s_ret, ws_sRetN, ki_t, ki_f, s_if, ks, s_set, kpB, kpA, s_par, kfo, s_for, ws_for0, kr, s_raise, s_try, kat, s_asgT, kaL, s_asgL, gTs_nil, gTs_cons, ws_nxt, ws_ret, wp_own, wp_ownR, oAdd, oSub, oLt, oLe, oGt, oGe, wp_mul, wp_div, wp_mod, wp_pow, gAbs_i, gInt_i, gInt_b, gMax_i, gMin_i, gEqS_i, gNeS_i, gEqS_s, gNeS_s, gEqS_b, gNeS_b, wp_len, len_lst, len_tup, len_scr, ix_l0, ix_t0, ix_t1, ix_t2, en0, List.map_cons, List.map_nil, List.length_cons, List.length_nil, List.cons_append, List.nil_append, List.append_nil, List.replicate_zero, List.reduceReplicate, Nat.reduceAdd, Nat.reduceSub, Nat.zero_add, List.set_cons_zero, List.set_cons_succ, MV.tup.injEq, MV.int.injEq, MV.str.injEq, MV.lst.injEq, MV.bl.injEq, exists_eq_left', exists_eq_left, Option.some.injEq, decide_eq_true_eq, Bool.not_eq_true', decide_eq_false_iff_not, if_true, if_false, Bool.false_eq_true, and_true, true_and, eq_self, decide_true, decide_false, Bool.not_true, Bool.not_false, reduceIte, not_true_eq_false, not_false_eq_true, Bool.true_eq_false, Int.reduceEq, Int.reduceLT, Int.reduceLE, Int.reduceAdd, Int.reduceSub, Int.reduceMul, Int.reduceNeg, Int.reducePow, Int.reduceToNat, Int.reduceNe, ofS, String.reduceEq, in_one, in_two, in_twoI, Nat.reduceLT, Nat.reduceLeDiff, or_self, or_false, false_or, true_or, or_true, and_false, false_and, and_self, pm01, kl1, w_lc1, w_lc0, wipe1, wp_cat, Bool.or_true, Bool.or_false, Bool.true_or, Bool.false_or, Bool.and_true, Bool.and_false, Bool.true_and, Bool.false_and, hb4, hr, e, en]
  exact hD _ _ _ S3 w1 l1

end Q2

set_option maxHeartbeats 4000000
set_option exponentiation.threshold 5000
namespace Q2
open PySem PySem.Spec PyProof.Rows L2 Mi

theorem T_fits (S : So) (w c : Nat) (hw : Wl S w c) (hc : c < 400000000) : wp (f__law_fits [.ref w] S) (fun y S' => y = .bl true ∧ Wl S' w (c + 1000) ∧ S'.length = S.length) noE := by
  refine wp_def ?_
  simp only [en0, List.map_cons, List.map_nil, List.length_cons, List.length_nil, Nat.reduceAdd, Nat.reduceSub, List.reduceReplicate, List.cons_append, List.nil_append]
  have hb4 : -B62 ≤ (4 : Int) ∧ (4 : Int) < B62 := b62 4 (by decide)
  have hr4 : (rngM 0 4).length ≤ SZ := by rw [rng_len]; have : SZ = 16777216 := rfl; omega
  refine ws_cut (fun r S1 => (∃ a1 a2 a3 a4, r = [some (.ref w), a1, a2, a3, a4, none, none, none, none, none, none, none]) ∧ Wl S1 w (c + 100) ∧ S1.length = S.length) ?_ ?_
  · rw [s_for]
    simp only [w_rng, krg, w_val, wp_oNone, kso, w_some, wp_mC, hb4, hr4, Int.reduceToNat, kfo, and_self, true_and]
    refine ws_for (fun xs r S' => xs.length ≤ 4 ∧ (∃ a1 a2 a3 a4, r = [some (.ref w), a1, a2, a3, a4, none, none, none, none, none, none, none]) ∧ Wl S' w (c + 25 * (4 - xs.length)) ∧ S'.length = S.length) ?_ ?_ (rngM 0 4) _ _ ⟨by rw [rng_len]; decide, ⟨none, none, none, none, rfl⟩, hw.mono (by omega), rfl⟩
    · rintro x l r S' ⟨hx, ⟨a1, a2, a3, a4, rfl⟩, w2, l2⟩
      rw [List.length_cons] at hx w2
      exact ⟨_, rfl, body_ok w (some x) a2 a3 a4 S' _ w2 (by omega) _ fun a2 a3 a4 S3 w3 l3 => ⟨by omega, ⟨some x, a2, a3, a4, rfl⟩, w3.mono (by omega), by omega⟩⟩
    · rintro r S' ⟨_, h, w2, l2⟩
      exact ⟨h, w2.mono (by simp), l2⟩
  rintro r S1 ⟨⟨a1, a2, a3, a4, rfl⟩, w1, l1⟩
  have tc := T_cells 5 (by decide) S1 w (c + 100) w1 (by omega)
  have tc : wp (f__law_cells [.ref w, .int 5] S1) _ _ := tc
  simp only [wp_ok, wp_exc, wp_bad, wp_mC, nm0, nm1, nm2, nm3, nm4, nm5, nm6, nm7, nm8, nm9, nm10, nm11, nm12, nm13, nm14, nm15, wp_nil, k3, k2, w_bin, kc, ka, w_cons, kt, w_tup, kl, w_lst, klM, w_lstM, kf, w_frz, kg, w_call, kkB, kkA, w_callK, kb, w_blt, kv, w_val, kn, w_not, kan_t, kan_f, w_and, kor_t, kor_f, w_or, knn, w_mnot, kma_t, kma_f, w_mand, kmo_t, kmo_f, w_mor, kmi_t, kmi_f, w_mif, kfl, w_fld, kpr, w_prop, kis, w_isi, kng, w_neg, kiv, w_inv, kmB, kmA, w_meth, knC, knB, knA, w_methK, kq, w_eqC, w_neC, kcp, w_capI, klc, w_lc, ksq_l, ksq_t, ksq_s, w_seq, krg, w_rng, kst, w_str, kjB, kjA, w_join, ksC, ksB, ksA, w_sl, wp_oNone, kso, w_some, khC, khD_t, khD_f, khB, khA, w_ch, ws_nil, s_cons, kx, kk, ke, s_exp, s_ret, ws_sRetN, ki_t, ki_f, s_if, ks, s_set, kpB, kpA, s_par, kfo, s_for, ws_for0, kr, s_raise, s_try, kat, s_asgT, kaL, s_asgL, gTs_nil, gTs_cons, ws_nxt, ws_ret, wp_own, wp_ownR, oAdd, oSub, oLt, oLe, oGt, oGe, wp_mul, wp_div, wp_mod, wp_pow, gAbs_i, gInt_i, gInt_b, gMax_i, gMin_i, gEqS_i, gNeS_i, gEqS_s, gNeS_s, gEqS_b, gNeS_b, wp_len, len_lst, len_tup, len_scr, ix_l0, ix_t0, ix_t1, ix_t2, en0, List.map_cons, List.map_nil, List.length_cons, List.length_nil, List.cons_append, List.nil_append, List.append_nil, List.replicate_zero, List.reduceReplicate, Nat.reduceAdd, Nat.reduceSub, Nat.zero_add, List.set_cons_zero, List.set_cons_succ, MV.tup.injEq, MV.int.injEq, MV.str.injEq, MV.lst.injEq, MV.bl.injEq, exists_eq_left', exists_eq_left, Option.some.injEq, decide_eq_true_eq, Bool.not_eq_true', decide_eq_false_iff_not, if_true, if_false, Bool.false_eq_true, and_true, true_and, eq_self, decide_true, decide_false, Bool.not_true, Bool.not_false, reduceIte, not_true_eq_false, not_false_eq_true, Bool.true_eq_false, Int.reduceEq, Int.reduceLT, Int.reduceLE, Int.reduceAdd, Int.reduceSub, Int.reduceMul, Int.reduceNeg, Int.reducePow, Int.reduceToNat, Int.reduceNe, ofS, String.reduceEq, in_one, in_two, in_twoI, Nat.reduceLT, Nat.reduceLeDiff, or_self, or_false, false_or, true_or, or_true, and_false, false_and, and_self, pm01, kl1, w_lc1, w_lc0, wipe1, wp_cat, Bool.or_true, Bool.or_false, Bool.true_or, Bool.false_or, Bool.and_true, Bool.and_false, Bool.true_and, Bool.false_and]
  refine wp_use tc ?_
  rintro _ S2 ⟨l, rfl, hl, hp, w2, l2⟩
  simp only [wp_ok, wp_exc, wp_bad, wp_mC, nm0, nm1, nm2, nm3, nm4, nm5, nm6, nm7, nm8, nm9, nm10, nm11, nm12, nm13, nm14, nm15, wp_nil, k3, k2, w_bin, kc, ka, w_cons, kt, w_tup, kl, w_lst, klM, w_lstM, kf, w_frz, kg, w_call, kkB, kkA, w_callK, kb, w_blt, kv, w_val, kn, w_not, kan_t, kan_f, w_and, kor_t, kor_f, w_or, knn, w_mnot, kma_t, kma_f, w_mand, kmo_t, kmo_f, w_mor, kmi_t, kmi_f, w_mif, kfl, w_fld, kpr, w_prop, kis, w_isi, kng, w_neg, kiv, w_inv, kmB, kmA, w_meth, knC, knB, knA, w_methK, kq, w_eqC, w_neC, kcp, w_capI, klc, w_lc, ksq_l, ksq_t, ksq_s, w_seq, krg, w_rng, kst, w_str, kjB, kjA, w_join, ksC, ksB, ksA, w_sl, wp_oNone, kso, w_some, khC, khD_t, khD_f, khB, khA, w_ch, ws_nil, s_cons, kx, kk, ke, s_exp, s_ret, ws_sRetN, ki_t, ki_f, s_if, ks, s_set, kpB, kpA, s_par, kfo, s_for, ws_for0, kr, s_raise, s_try, kat, s_asgT, kaL, s_asgL, gTs_nil, gTs_cons, ws_nxt, ws_ret, wp_own, wp_ownR, oAdd, oSub, oLt, oLe, oGt, oGe, wp_mul, wp_div, wp_mod, wp_pow, gAbs_i, gInt_i, gInt_b, gMax_i, gMin_i, gEqS_i, gNeS_i, gEqS_s, gNeS_s, gEqS_b, gNeS_b, wp_len, len_lst, len_tup, len_scr, ix_l0, ix_t0, ix_t1, ix_t2, en0, List.map_cons, List.map_nil, List.length_cons, List.length_nil, List.cons_append, List.nil_append, List.append_nil, List.replicate_zero, List.reduceReplicate, Nat.reduceAdd, Nat.reduceSub, Nat.zero_add, List.set_cons_zero, List.set_cons_succ, MV.tup.injEq, MV.int.injEq, MV.str.injEq, MV.lst.injEq, MV.bl.injEq, exists_eq_left', exists_eq_left, Option.some.injEq, decide_eq_true_eq, Bool.not_eq_true', decide_eq_false_iff_not, if_true, if_false, Bool.false_eq_true, and_true, true_and, eq_self, decide_true, decide_false, Bool.not_true, Bool.not_false, reduceIte, not_true_eq_false, not_false_eq_true, Bool.true_eq_false, Int.reduceEq, Int.reduceLT, Int.reduceLE, Int.reduceAdd, Int.reduceSub, Int.reduceMul, Int.reduceNeg, Int.reducePow, Int.reduceToNat, Int.reduceNe, ofS, String.reduceEq, in_one, in_two, in_twoI, Nat.reduceLT, Nat.reduceLeDiff, or_self, or_false, false_or, true_or, or_true, and_false, false_and, and_self, pm01, kl1, w_lc1, w_lc0, wipe1, wp_cat, Bool.or_true, Bool.or_false, Bool.true_or, Bool.false_or, Bool.and_true, Bool.and_false, Bool.true_and, Bool.false_and]
  refine wp_use (T_take w2 (by decide)) ?_
  rintro _ S3 ⟨t3, rfl, a3', b3, w3, l3⟩
  obtain ⟨y, hy, e3⟩ := ixP (smv l) t3 S3 a3' (by rw [List.length_map, hl]; omega)
  obtain ⟨a, ma, rfl⟩ := List.mem_map.mp hy
  simp only [wp_ok, wp_exc, wp_bad, wp_mC, nm0, nm1, nm2, nm3, nm4, nm5, nm6, nm7, nm8, nm9, nm10, nm11, nm12, nm13, nm14, nm15, wp_nil, k3, k2, w_bin, kc, ka, w_cons, kt, w_tup, kl, w_lst, klM, w_lstM, kf, w_frz, kg, w_call, kkB, kkA, w_callK, kb, w_blt, kv, w_val, kn, w_not, kan_t, kan_f, w_and, kor_t, kor_f, w_or, knn, w_mnot, kma_t, kma_f, w_mand, kmo_t, kmo_f, w_mor, kmi_t, kmi_f, w_mif, kfl, w_fld, kpr, w_prop, kis, w_isi, kng, w_neg, kiv, w_inv, kmB, kmA, w_meth, knC, knB, knA, w_methK, kq, w_eqC, w_neC, kcp, w_capI, klc, w_lc, ksq_l, ksq_t, ksq_s, w_seq, krg, w_rng, kst, w_str, kjB, kjA, w_join, ksC, ksB, ksA, w_sl, wp_oNone, kso, w_some, khC, khD_t, khD_f, khB, khA, w_ch, ws_nil, s_cons, kx, kk, ke, s_exp, s_ret, ws_sRetN, ki_t, ki_f, s_if, ks, s_set, kpB, kpA, s_par, kfo, s_for, ws_for0, kr, s_raise, s_try, kat, s_asgT, kaL, s_asgL, gTs_nil, gTs_cons, ws_nxt, ws_ret, wp_own, wp_ownR, oAdd, oSub, oLt, oLe, oGt, oGe, wp_mul, wp_div, wp_mod, wp_pow, gAbs_i, gInt_i, gInt_b, gMax_i, gMin_i, gEqS_i, gNeS_i, gEqS_s, gNeS_s, gEqS_b, gNeS_b, wp_len, len_lst, len_tup, len_scr, ix_l0, ix_t0, ix_t1, ix_t2, en0, List.map_cons, List.map_nil, List.length_cons, List.length_nil, List.cons_append, List.nil_append, List.append_nil, List.replicate_zero, List.reduceReplicate, Nat.reduceAdd, Nat.reduceSub, Nat.zero_add, List.set_cons_zero, List.set_cons_succ, MV.tup.injEq, MV.int.injEq, MV.str.injEq, MV.lst.injEq, MV.bl.injEq, exists_eq_left', exists_eq_left, Option.some.injEq, decide_eq_true_eq, Bool.not_eq_true', decide_eq_false_iff_not, if_true, if_false, Bool.false_eq_true, and_true, true_and, eq_self, decide_true, decide_false, Bool.not_true, Bool.not_false, reduceIte, not_true_eq_false, not_false_eq_true, Bool.true_eq_false, Int.reduceEq, Int.reduceLT, Int.reduceLE, Int.reduceAdd, Int.reduceSub, Int.reduceMul, Int.reduceNeg, Int.reducePow, Int.reduceToNat, Int.reduceNe, ofS, String.reduceEq, in_one, in_two, in_twoI, Nat.reduceLT, Nat.reduceLeDiff, or_self, or_false, false_or, true_or, or_true, and_false, false_and, and_self, pm01, kl1, w_lc1, w_lc0, wipe1, wp_cat, Bool.or_true, Bool.or_false, Bool.true_or, Bool.false_or, Bool.and_true, Bool.and_false, Bool.true_and, Bool.false_and, e3]
  refine wp_use (T_take w3 (by decide)) ?_
  rintro _ S4 ⟨t4, rfl, a4', b4, w4, l4⟩
  obtain ⟨y, hy, e4⟩ := ixP (smv l) t4 S4 a4' (by rw [List.length_map, hl]; omega)
  obtain ⟨b, mb, rfl⟩ := List.mem_map.mp hy
  have ga := hp a ma
  have gb := hp b mb
  have pa : f_put [.str a, .int 3] S4 = .ok (stp [.str a, (Vt.num 3).mv] [.str a]) S4 := L_put S4 a (.i 3) 3 rfl ga
  have pb : f_put [.str b, .int 3] S4 = .ok (stp [.str b, (Vt.num 3).mv] [.str b]) S4 := L_put S4 b (.i 3) 3 rfl gb
  have ca := L_cell S4 a ga
  have cb := L_cell S4 b gb
  have q1 := W_eqcell a b S4 ga gb
  have q2 := W_eqstep a b 3 S4
  have nm : (Vt.cell a).nms = [a] := rfl
  obtain ⟨s1, r1⟩ := R_told a (aT_good ga) true false true false S4
  obtain ⟨s2, r2⟩ := R_told a (aT_good ga) false true false true S4
  have z5 : (5 : Nat) ≤ SZ := le_SZ 5
  have z4 : (4 : Nat) ≤ SZ := le_SZ 4
  rcases Classical.propComplete (a = b) with h | h
  · simp only [wp_ok, wp_exc, wp_bad, wp_mC, nm0, nm1, nm2, nm3, nm4, nm5, nm6, nm7, nm8, nm9, nm10, nm11, nm12, nm13, nm14, nm15, wp_nil, k3, k2, w_bin, kc, ka, w_cons, kt, w_tup, kl, w_lst, klM, w_lstM, kf, w_frz, kg, w_call, kkB, kkA, w_callK, kb, w_blt, kv, w_val, kn, w_not, kan_t, kan_f, w_and, kor_t, kor_f, w_or, knn, w_mnot, kma_t, kma_f, w_mand, kmo_t, kmo_f, w_mor, kmi_t, kmi_f, w_mif, kfl, w_fld, kpr, w_prop, kis, w_isi, kng, w_neg, kiv, w_inv, kmB, kmA, w_meth, knC, knB, knA, w_methK, kq, w_eqC, w_neC, kcp, w_capI, klc, w_lc, ksq_l, ksq_t, ksq_s, w_seq, krg, w_rng, kst, w_str, kjB, kjA, w_join, ksC, ksB, ksA, w_sl, wp_oNone, kso, w_some, khC, khD_t, khD_f, khB, khA, w_ch, ws_nil, s_cons, kx, kk, ke, s_exp, s_ret, ws_sRetN, ki_t, ki_f, s_if, ks, s_set, kpB, kpA, s_par, kfo, s_for, ws_for0, kr, s_raise, s_try, kat, s_asgT, kaL, s_asgL, gTs_nil, gTs_cons, ws_nxt, ws_ret, wp_own, wp_ownR, oAdd, oSub, oLt, oLe, oGt, oGe, wp_mul, wp_div, wp_mod, wp_pow, gAbs_i, gInt_i, gInt_b, gMax_i, gMin_i, gEqS_i, gNeS_i, gEqS_s, gNeS_s, gEqS_b, gNeS_b, wp_len, len_lst, len_tup, len_scr, ix_l0, ix_t0, ix_t1, ix_t2, en0, List.map_cons, List.map_nil, List.length_cons, List.length_nil, List.cons_append, List.nil_append, List.append_nil, List.replicate_zero, List.reduceReplicate, Nat.reduceAdd, Nat.reduceSub, Nat.zero_add, List.set_cons_zero, List.set_cons_succ, MV.tup.injEq, MV.int.injEq, MV.str.injEq, MV.lst.injEq, MV.bl.injEq, exists_eq_left', exists_eq_left, Option.some.injEq, decide_eq_true_eq, Bool.not_eq_true', decide_eq_false_iff_not, if_true, if_false, Bool.false_eq_true, and_true, true_and, eq_self, decide_true, decide_false, Bool.not_true, Bool.not_false, reduceIte, not_true_eq_false, not_false_eq_true, Bool.true_eq_false, Int.reduceEq, Int.reduceLT, Int.reduceLE, Int.reduceAdd, Int.reduceSub, Int.reduceMul, Int.reduceNeg, Int.reducePow, Int.reduceToNat, Int.reduceNe, ofS, String.reduceEq, in_one, in_two, in_twoI, Nat.reduceLT, Nat.reduceLeDiff, or_self, or_false, false_or, true_or, or_true, and_false, false_and, and_self, pm01, kl1, w_lc1, w_lc0, wipe1, wp_cat, Bool.or_true, Bool.or_false, Bool.true_or, Bool.false_or, Bool.and_true, Bool.and_false, Bool.true_and, Bool.false_and, e4, pa, pb, ca, cb, q1, q2, h, gprop_v, nm, r1, z5]
    exact ⟨by omega, w4.mono (by omega), by omega⟩
  · simp only [wp_ok, wp_exc, wp_bad, wp_mC, nm0, nm1, nm2, nm3, nm4, nm5, nm6, nm7, nm8, nm9, nm10, nm11, nm12, nm13, nm14, nm15, wp_nil, k3, k2, w_bin, kc, ka, w_cons, kt, w_tup, kl, w_lst, klM, w_lstM, kf, w_frz, kg, w_call, kkB, kkA, w_callK, kb, w_blt, kv, w_val, kn, w_not, kan_t, kan_f, w_and, kor_t, kor_f, w_or, knn, w_mnot, kma_t, kma_f, w_mand, kmo_t, kmo_f, w_mor, kmi_t, kmi_f, w_mif, kfl, w_fld, kpr, w_prop, kis, w_isi, kng, w_neg, kiv, w_inv, kmB, kmA, w_meth, knC, knB, knA, w_methK, kq, w_eqC, w_neC, kcp, w_capI, klc, w_lc, ksq_l, ksq_t, ksq_s, w_seq, krg, w_rng, kst, w_str, kjB, kjA, w_join, ksC, ksB, ksA, w_sl, wp_oNone, kso, w_some, khC, khD_t, khD_f, khB, khA, w_ch, ws_nil, s_cons, kx, kk, ke, s_exp, s_ret, ws_sRetN, ki_t, ki_f, s_if, ks, s_set, kpB, kpA, s_par, kfo, s_for, ws_for0, kr, s_raise, s_try, kat, s_asgT, kaL, s_asgL, gTs_nil, gTs_cons, ws_nxt, ws_ret, wp_own, wp_ownR, oAdd, oSub, oLt, oLe, oGt, oGe, wp_mul, wp_div, wp_mod, wp_pow, gAbs_i, gInt_i, gInt_b, gMax_i, gMin_i, gEqS_i, gNeS_i, gEqS_s, gNeS_s, gEqS_b, gNeS_b, wp_len, len_lst, len_tup, len_scr, ix_l0, ix_t0, ix_t1, ix_t2, en0, List.map_cons, List.map_nil, List.length_cons, List.length_nil, List.cons_append, List.nil_append, List.append_nil, List.replicate_zero, List.reduceReplicate, Nat.reduceAdd, Nat.reduceSub, Nat.zero_add, List.set_cons_zero, List.set_cons_succ, MV.tup.injEq, MV.int.injEq, MV.str.injEq, MV.lst.injEq, MV.bl.injEq, exists_eq_left', exists_eq_left, Option.some.injEq, decide_eq_true_eq, Bool.not_eq_true', decide_eq_false_iff_not, if_true, if_false, Bool.false_eq_true, and_true, true_and, eq_self, decide_true, decide_false, Bool.not_true, Bool.not_false, reduceIte, not_true_eq_false, not_false_eq_true, Bool.true_eq_false, Int.reduceEq, Int.reduceLT, Int.reduceLE, Int.reduceAdd, Int.reduceSub, Int.reduceMul, Int.reduceNeg, Int.reducePow, Int.reduceToNat, Int.reduceNe, ofS, String.reduceEq, in_one, in_two, in_twoI, Nat.reduceLT, Nat.reduceLeDiff, or_self, or_false, false_or, true_or, or_true, and_false, false_and, and_self, pm01, kl1, w_lc1, w_lc0, wipe1, wp_cat, Bool.or_true, Bool.or_false, Bool.true_or, Bool.false_or, Bool.and_true, Bool.and_false, Bool.true_and, Bool.false_and, e4, pa, pb, ca, cb, q1, q2, h, gprop_v, nm, r2, z5]
    exact ⟨by omega, w4.mono (by omega), by omega⟩

end Q2

set_option maxHeartbeats 4000000
set_option exponentiation.threshold 5000
namespace Q2
open PySem PySem.Spec PyProof.Rows L2 Mi

theorem trim_nil (S : So) : ∃ S', trim [] (.ok (.bl true) S) = .ok (.bl true) S' := by
  by_cases h : S.length ≤ ([] : So).length
  · exact ⟨_, trim_ok h⟩
  · refine ⟨S.take 0, ?_⟩
    show (if S.length ≤ ([] : So).length then _ else if (MV.lt 0 (.bl true) && okTail 0 [] S) = true then _ else _) = _
    rw [if_neg h, if_pos]
    · rfl
    · cases S <;> rfl
theorem wp_law {n : Nat} {b : MS} {xs : List MV} (h : ws (b (en0 n xs) []) ⟨fun _ _ => False, fun x _ => x = .bl true, fun _ _ => False, fun _ _ => False, fun _ _ _ _ => False⟩) : ∃ S', runDef n b xs [] = .ok (.bl true) S' := by
  unfold runDef
  cases e : b (en0 n xs) [] <;> rw [e] at h
  · exact h.elim
  · cases h
    exact trim_nil _
  · exact h.elim
  · exact h.elim
  · exact h.elim
  · exact h.elim
abbrev lawB : MS := sBlk [(sAsg (gN 2) (mCall f__law_well [] [(mName 0), (mName 1)])), (sFor (iRng (mC (.int 2))) (gN 3) (sBlk [(sIf (tNot' (tVal (mCall f__law_fits [] [(mName 2)]))) (sBlk [(sRet (mC (.bl false)))]) (sBlk []))]))]
theorem place_ok (ns : List Int) (k : Nat) (hk : k ≤ 23) (a2 a3 : Option MV) (S : So) (D : SE) (hD : ∀ a2 a3 S', D.nx [some (.scr (imv ns)), some (.int k), a2, a3] S') : ws (lawB [some (.scr (imv ns)), some (.int k), a2, a3] S) D := by
  have hb2 : -B62 ≤ (2 : Int) ∧ (2 : Int) < B62 := by decide
  simp only [wp_ok, wp_exc, wp_bad, wp_mC, nm0, nm1, nm2, nm3, nm4, nm5, nm6, nm7, nm8, nm9, nm10, nm11, nm12, nm13, nm14, nm15, wp_nil, k3, k2, w_bin, kc, ka, w_cons, kt, w_tup, kl, w_lst, klM, w_lstM, kf, w_frz, kg, w_call, kkB, kkA, w_callK, kb, w_blt, kv, w_val, kn, w_not, kan_t, kan_f, w_and, kor_t, kor_f, w_or, knn, w_mnot, kma_t, kma_f, w_mand, kmo_t, kmo_f, w_mor, kmi_t, kmi_f, w_mif, kfl, w_fld, kpr, w_prop, kis, w_isi, kng, w_neg, kiv, w_inv, kmB, kmA, w_meth, knC, knB, knA, w_methK, kq, w_eqC, w_neC, kcp, w_capI, klc, w_lc, ksq_l, ksq_t, ksq_s, w_seq, krg, w_rng, kst, w_str, kjB, kjA, w_join, ksC, ksB, ksA, w_sl, wp_oNone, kso, w_some, khC, khD_t, khD_f, khB, khA, w_ch, ws_nil, s_cons, kx, kk, ke, s_exp, s_ret, ws_sRetN, ki_t, ki_f, s_if, ks, s_set, kpB, kpA, s_par, kfo, s_for, ws_for0, kr, s_raise, s_try, kat, s_asgT, kaL, s_asgL, gTs_nil, gTs_cons, ws_nxt, ws_ret, wp_own, wp_ownR, oAdd, oSub, oLt, oLe, oGt, oGe, wp_mul, wp_div, wp_mod, wp_pow, gAbs_i, gInt_i, gInt_b, gMax_i, gMin_i, gEqS_i, gNeS_i, gEqS_s, gNeS_s, gEqS_b, gNeS_b, wp_len, len_lst, len_tup, len_scr, ix_l0, ix_t0, ix_t1, ix_t2, en0, List.map_cons, List.map_nil, List.length_cons, List.length_nil, List.cons_append, List.nil_append, List.append_nil, List.replicate_zero, List.reduceReplicate, Nat.reduceAdd, Nat.reduceSub, Nat.zero_add, List.set_cons_zero, List.set_cons_succ, MV.tup.injEq, MV.int.injEq, MV.str.injEq, MV.lst.injEq, MV.bl.injEq, exists_eq_left', exists_eq_left, Option.some.injEq, decide_eq_true_eq, Bool.not_eq_true', decide_eq_false_iff_not, if_true, if_false, Bool.false_eq_true, and_true, true_and, eq_self, decide_true, decide_false, Bool.not_true, Bool.not_false, reduceIte, not_true_eq_false, not_false_eq_true, Bool.true_eq_false, Int.reduceEq, Int.reduceLT, Int.reduceLE, Int.reduceAdd, Int.reduceSub, Int.reduceMul, Int.reduceNeg, Int.reducePow, Int.reduceToNat, Int.reduceNe, ofS, String.reduceEq, in_one, in_two, in_twoI, Nat.reduceLT, Nat.reduceLeDiff, or_self, or_false, false_or, true_or, or_true, and_false, false_and, and_self, pm01, kl1, w_lc1, w_lc0, wipe1, wp_cat, Bool.or_true, Bool.or_false, Bool.true_or, Bool.false_or, Bool.and_true, Bool.and_false, Bool.true_and, Bool.false_and]
  refine wp_use (T_well S ns k hk) ?_
  rintro _ S1 ⟨rfl, w1, l1⟩
  simp only [wp_ok, wp_exc, wp_bad, wp_mC, nm0, nm1, nm2, nm3, nm4, nm5, nm6, nm7, nm8, nm9, nm10, nm11, nm12, nm13, nm14, nm15, wp_nil, k3, k2, w_bin, kc, ka, w_cons, kt, w_tup, kl, w_lst, klM, w_lstM, kf, w_frz, kg, w_call, kkB, kkA, w_callK, kb, w_blt, kv, w_val, kn, w_not, kan_t, kan_f, w_and, kor_t, kor_f, w_or, knn, w_mnot, kma_t, kma_f, w_mand, kmo_t, kmo_f, w_mor, kmi_t, kmi_f, w_mif, kfl, w_fld, kpr, w_prop, kis, w_isi, kng, w_neg, kiv, w_inv, kmB, kmA, w_meth, knC, knB, knA, w_methK, kq, w_eqC, w_neC, kcp, w_capI, klc, w_lc, ksq_l, ksq_t, ksq_s, w_seq, krg, w_rng, kst, w_str, kjB, kjA, w_join, ksC, ksB, ksA, w_sl, wp_oNone, kso, w_some, khC, khD_t, khD_f, khB, khA, w_ch, ws_nil, s_cons, kx, kk, ke, s_exp, s_ret, ws_sRetN, ki_t, ki_f, s_if, ks, s_set, kpB, kpA, s_par, kfo, s_for, ws_for0, kr, s_raise, s_try, kat, s_asgT, kaL, s_asgL, gTs_nil, gTs_cons, ws_nxt, ws_ret, wp_own, wp_ownR, oAdd, oSub, oLt, oLe, oGt, oGe, wp_mul, wp_div, wp_mod, wp_pow, gAbs_i, gInt_i, gInt_b, gMax_i, gMin_i, gEqS_i, gNeS_i, gEqS_s, gNeS_s, gEqS_b, gNeS_b, wp_len, len_lst, len_tup, len_scr, ix_l0, ix_t0, ix_t1, ix_t2, en0, List.map_cons, List.map_nil, List.length_cons, List.length_nil, List.cons_append, List.nil_append, List.append_nil, List.replicate_zero, List.reduceReplicate, Nat.reduceAdd, Nat.reduceSub, Nat.zero_add, List.set_cons_zero, List.set_cons_succ, MV.tup.injEq, MV.int.injEq, MV.str.injEq, MV.lst.injEq, MV.bl.injEq, exists_eq_left', exists_eq_left, Option.some.injEq, decide_eq_true_eq, Bool.not_eq_true', decide_eq_false_iff_not, if_true, if_false, Bool.false_eq_true, and_true, true_and, eq_self, decide_true, decide_false, Bool.not_true, Bool.not_false, reduceIte, not_true_eq_false, not_false_eq_true, Bool.true_eq_false, Int.reduceEq, Int.reduceLT, Int.reduceLE, Int.reduceAdd, Int.reduceSub, Int.reduceMul, Int.reduceNeg, Int.reducePow, Int.reduceToNat, Int.reduceNe, ofS, String.reduceEq, in_one, in_two, in_twoI, Nat.reduceLT, Nat.reduceLeDiff, or_self, or_false, false_or, true_or, or_true, and_false, false_and, and_self, pm01, kl1, w_lc1, w_lc0, wipe1, wp_cat, Bool.or_true, Bool.or_false, Bool.true_or, Bool.false_or, Bool.and_true, Bool.and_false, Bool.true_and, Bool.false_and, hb2]
  refine ws_for (fun xs r S' => xs.length ≤ 2 ∧ (∃ a3, r = [some (.scr (imv ns)), some (.int k), some (.ref S.length), a3]) ∧ Wl S' S.length (1000 * (2 - xs.length))) ?_ ?_ _ _ _ ⟨by simp [rngM], ⟨a3, rfl⟩, w1.mono (Nat.zero_le _)⟩
  · rintro x l r S' ⟨hx, ⟨a3, rfl⟩, w2⟩
    rw [List.length_cons] at hx w2
    refine ⟨_, rfl, ?_⟩
    simp only [wp_ok, wp_exc, wp_bad, wp_mC, nm0, nm1, nm2, nm3, nm4, nm5, nm6, nm7, nm8, nm9, nm10, nm11, nm12, nm13, nm14, nm15, wp_nil, k3, k2, w_bin, kc, ka, w_cons, kt, w_tup, kl, w_lst, klM, w_lstM, kf, w_frz, kg, w_call, kkB, kkA, w_callK, kb, w_blt, kv, w_val, kn, w_not, kan_t, kan_f, w_and, kor_t, kor_f, w_or, knn, w_mnot, kma_t, kma_f, w_mand, kmo_t, kmo_f, w_mor, kmi_t, kmi_f, w_mif, kfl, w_fld, kpr, w_prop, kis, w_isi, kng, w_neg, kiv, w_inv, kmB, kmA, w_meth, knC, knB, knA, w_methK, kq, w_eqC, w_neC, kcp, w_capI, klc, w_lc, ksq_l, ksq_t, ksq_s, w_seq, krg, w_rng, kst, w_str, kjB, kjA, w_join, ksC, ksB, ksA, w_sl, wp_oNone, kso, w_some, khC, khD_t, khD_f, khB, khA, w_ch, ws_nil, s_cons, kx, kk, ke, s_exp, s_ret, ws_sRetN, ki_t, ki_f, s_if, ks, s_set, kpB, kpA, s_par, kfo, s_for, ws_for0, kr, s_raise, s_try, kat, s_asgT, kaL, s_asgL, gTs_nil, gTs_cons, ws_nxt, ws_ret, wp_own, wp_ownR, oAdd, oSub, oLt, oLe, oGt, oGe, wp_mul, wp_div, wp_mod, wp_pow, gAbs_i, gInt_i, gInt_b, gMax_i, gMin_i, gEqS_i, gNeS_i, gEqS_s, gNeS_s, gEqS_b, gNeS_b, wp_len, len_lst, len_tup, len_scr, ix_l0, ix_t0, ix_t1, ix_t2, en0, List.map_cons, List.map_nil, List.length_cons, List.length_nil, List.cons_append, List.nil_append, List.append_nil, List.replicate_zero, List.reduceReplicate, Nat.reduceAdd, Nat.reduceSub, Nat.zero_add, List.set_cons_zero, List.set_cons_succ, MV.tup.injEq, MV.int.injEq, MV.str.injEq, MV.lst.injEq, MV.bl.injEq, exists_eq_left', exists_eq_left, Option.some.injEq, decide_eq_true_eq, Bool.not_eq_true', decide_eq_false_iff_not, if_true, if_false, Bool.false_eq_true, and_true, true_and, eq_self, decide_true, decide_false, Bool.not_true, Bool.not_false, reduceIte, not_true_eq_false, not_false_eq_true, Bool.true_eq_false, Int.reduceEq, Int.reduceLT, Int.reduceLE, Int.reduceAdd, Int.reduceSub, Int.reduceMul, Int.reduceNeg, Int.reducePow, Int.reduceToNat, Int.reduceNe, ofS, String.reduceEq, in_one, in_two, in_twoI, Nat.reduceLT, Nat.reduceLeDiff, or_self, or_false, false_or, true_or, or_true, and_false, false_and, and_self, pm01, kl1, w_lc1, w_lc0, wipe1, wp_cat, Bool.or_true, Bool.or_false, Bool.true_or, Bool.false_or, Bool.and_true, Bool.and_false, Bool.true_and, Bool.false_and]
    refine wp_use (T_fits S' S.length _ w2 (by omega)) ?_
    rintro _ S2 ⟨rfl, w3, l3⟩
    simp only [wp_ok, wp_exc, wp_bad, wp_mC, nm0, nm1, nm2, nm3, nm4, nm5, nm6, nm7, nm8, nm9, nm10, nm11, nm12, nm13, nm14, nm15, wp_nil, k3, k2, w_bin, kc, ka, w_cons, kt, w_tup, kl, w_lst, klM, w_lstM, kf, w_frz, kg, w_call, kkB, kkA, w_callK, kb, w_blt, kv, w_val, kn, w_not, kan_t, kan_f, w_and, kor_t, kor_f, w_or, knn, w_mnot, kma_t, kma_f, w_mand, kmo_t, kmo_f, w_mor, kmi_t, kmi_f, w_mif, kfl, w_fld, kpr, w_prop, kis, w_isi, kng, w_neg, kiv, w_inv, kmB, kmA, w_meth, knC, knB, knA, w_methK, kq, w_eqC, w_neC, kcp, w_capI, klc, w_lc, ksq_l, ksq_t, ksq_s, w_seq, krg, w_rng, kst, w_str, kjB, kjA, w_join, ksC, ksB, ksA, w_sl, wp_oNone, kso, w_some, khC, khD_t, khD_f, khB, khA, w_ch, ws_nil, s_cons, kx, kk, ke, s_exp, s_ret, ws_sRetN, ki_t, ki_f, s_if, ks, s_set, kpB, kpA, s_par, kfo, s_for, ws_for0, kr, s_raise, s_try, kat, s_asgT, kaL, s_asgL, gTs_nil, gTs_cons, ws_nxt, ws_ret, wp_own, wp_ownR, oAdd, oSub, oLt, oLe, oGt, oGe, wp_mul, wp_div, wp_mod, wp_pow, gAbs_i, gInt_i, gInt_b, gMax_i, gMin_i, gEqS_i, gNeS_i, gEqS_s, gNeS_s, gEqS_b, gNeS_b, wp_len, len_lst, len_tup, len_scr, ix_l0, ix_t0, ix_t1, ix_t2, en0, List.map_cons, List.map_nil, List.length_cons, List.length_nil, List.cons_append, List.nil_append, List.append_nil, List.replicate_zero, List.reduceReplicate, Nat.reduceAdd, Nat.reduceSub, Nat.zero_add, List.set_cons_zero, List.set_cons_succ, MV.tup.injEq, MV.int.injEq, MV.str.injEq, MV.lst.injEq, MV.bl.injEq, exists_eq_left', exists_eq_left, Option.some.injEq, decide_eq_true_eq, Bool.not_eq_true', decide_eq_false_iff_not, if_true, if_false, Bool.false_eq_true, and_true, true_and, eq_self, decide_true, decide_false, Bool.not_true, Bool.not_false, reduceIte, not_true_eq_false, not_false_eq_true, Bool.true_eq_false, Int.reduceEq, Int.reduceLT, Int.reduceLE, Int.reduceAdd, Int.reduceSub, Int.reduceMul, Int.reduceNeg, Int.reducePow, Int.reduceToNat, Int.reduceNe, ofS, String.reduceEq, in_one, in_two, in_twoI, Nat.reduceLT, Nat.reduceLeDiff, or_self, or_false, false_or, true_or, or_true, and_false, false_and, and_self, pm01, kl1, w_lc1, w_lc0, wipe1, wp_cat, Bool.or_true, Bool.or_false, Bool.true_or, Bool.false_or, Bool.and_true, Bool.and_false, Bool.true_and, Bool.false_and]
    exact ⟨by omega, ⟨some x, rfl⟩, w3.mono (by omega)⟩
  · rintro r S' ⟨_, ⟨a3, rfl⟩, _⟩
    exact hD _ _ _
theorem law_ok (ns : List Int) (hl : ns.length ≤ 63) (hb : ∀ z ∈ ns, Builtin.Int.intBits z ≤ 1048576) : ∃ S', f_law [.scr (ns.map MV.int)] [] = .ok (.bl true) S' := by
  refine wp_law ?_
  have hlen : (imv ns).length ≤ 63 := by rw [List.length_map]; exact hl
  obtain ⟨q, hq, e⟩ : ∃ q : Nat, q ≤ 24 ∧ (if (if ((imv ns).length : Int) < 24 then ((imv ns).length : Int) else 24) > 1 then (if ((imv ns).length : Int) < 24 then ((imv ns).length : Int) else 24) else 1) = (q : Int) := by
    refine ⟨(if (if ((imv ns).length : Int) < 24 then ((imv ns).length : Int) else 24) > 1 then (if ((imv ns).length : Int) < 24 then ((imv ns).length : Int) else 24) else 1).toNat, ?_, ?_⟩ <;> (split <;> split <;> omega)
  have hbq : -B62 ≤ (q : Int) ∧ (q : Int) < B62 := by
    have : -B62 ≤ 0 := by decide
    have : 24 < B62 := by decide
    omega
  have hqN : ((q : Nat) : Int).toNat = q := Int.toNat_natCast q
  show ws (sBlk _ [some (.scr (imv ns)), none, none, none] []) _
  simp only [wp_ok, wp_exc, wp_bad, wp_mC, nm0, nm1, nm2, nm3, nm4, nm5, nm6, nm7, nm8, nm9, nm10, nm11, nm12, nm13, nm14, nm15, wp_nil, k3, k2, w_bin, kc, ka, w_cons, kt, w_tup, kl, w_lst, klM, w_lstM, kf, w_frz, kg, w_call, kkB, kkA, w_callK, kb, w_blt, kv, w_val, kn, w_not, kan_t, kan_f, w_and, kor_t, kor_f, w_or, knn, w_mnot, kma_t, kma_f, w_mand, kmo_t, kmo_f, w_mor, kmi_t, kmi_f, w_mif, kfl, w_fld, kpr, w_prop, kis, w_isi, kng, w_neg, kiv, w_inv, kmB, kmA, w_meth, knC, knB, knA, w_methK, kq, w_eqC, w_neC, kcp, w_capI, klc, w_lc, ksq_l, ksq_t, ksq_s, w_seq, krg, w_rng, kst, w_str, kjB, kjA, w_join, ksC, ksB, ksA, w_sl, wp_oNone, kso, w_some, khC, khD_t, khD_f, khB, khA, w_ch, ws_nil, s_cons, kx, kk, ke, s_exp, s_ret, ws_sRetN, ki_t, ki_f, s_if, ks, s_set, kpB, kpA, s_par, kfo, s_for, ws_for0, kr, s_raise, s_try, kat, s_asgT, kaL, s_asgL, gTs_nil, gTs_cons, ws_nxt, ws_ret, wp_own, wp_ownR, oAdd, oSub, oLt, oLe, oGt, oGe, wp_mul, wp_div, wp_mod, wp_pow, gAbs_i, gInt_i, gInt_b, gMax_i, gMin_i, gEqS_i, gNeS_i, gEqS_s, gNeS_s, gEqS_b, gNeS_b, wp_len, len_lst, len_tup, len_scr, ix_l0, ix_t0, ix_t1, ix_t2, en0, List.map_cons, List.map_nil, List.length_cons, List.length_nil, List.cons_append, List.nil_append, List.append_nil, List.replicate_zero, List.reduceReplicate, Nat.reduceAdd, Nat.reduceSub, Nat.zero_add, List.set_cons_zero, List.set_cons_succ, MV.tup.injEq, MV.int.injEq, MV.str.injEq, MV.lst.injEq, MV.bl.injEq, exists_eq_left', exists_eq_left, Option.some.injEq, decide_eq_true_eq, Bool.not_eq_true', decide_eq_false_iff_not, if_true, if_false, Bool.false_eq_true, and_true, true_and, eq_self, decide_true, decide_false, Bool.not_true, Bool.not_false, reduceIte, not_true_eq_false, not_false_eq_true, Bool.true_eq_false, Int.reduceEq, Int.reduceLT, Int.reduceLE, Int.reduceAdd, Int.reduceSub, Int.reduceMul, Int.reduceNeg, Int.reducePow, Int.reduceToNat, Int.reduceNe, ofS, String.reduceEq, in_one, in_two, in_twoI, Nat.reduceLT, Nat.reduceLeDiff, or_self, or_false, false_or, true_or, or_true, and_false, false_and, and_self, pm01, kl1, w_lc1, w_lc0, wipe1, wp_cat, Bool.or_true, Bool.or_false, Bool.true_or, Bool.false_or, Bool.and_true, Bool.and_false, Bool.true_and, Bool.false_and, e, hbq, hqN]
  refine ws_for (fun xs r S' => (∀ x ∈ xs, ∃ k : Nat, k ≤ 23 ∧ x = .int k) ∧ ∃ a1 a2 a3, r = [some (.scr (imv ns)), a1, a2, a3]) ?_ ?_ _ _ _ ⟨fun x hx => ?_, none, none, none, rfl⟩
  · rintro x l r S' ⟨hx, a1, a2, a3, rfl⟩
    obtain ⟨k, hk, rfl⟩ := hx x List.mem_cons_self
    exact ⟨_, rfl, place_ok ns k hk a2 a3 S' _ fun a2 a3 S2 => ⟨fun x hx' => hx x (List.mem_cons_of_mem _ hx'), some (.int k), a2, a3, rfl⟩⟩
  · rintro r S' ⟨_, a1, a2, a3, rfl⟩
    simp only [wp_ok, wp_exc, wp_bad, wp_mC, nm0, nm1, nm2, nm3, nm4, nm5, nm6, nm7, nm8, nm9, nm10, nm11, nm12, nm13, nm14, nm15, wp_nil, k3, k2, w_bin, kc, ka, w_cons, kt, w_tup, kl, w_lst, klM, w_lstM, kf, w_frz, kg, w_call, kkB, kkA, w_callK, kb, w_blt, kv, w_val, kn, w_not, kan_t, kan_f, w_and, kor_t, kor_f, w_or, knn, w_mnot, kma_t, kma_f, w_mand, kmo_t, kmo_f, w_mor, kmi_t, kmi_f, w_mif, kfl, w_fld, kpr, w_prop, kis, w_isi, kng, w_neg, kiv, w_inv, kmB, kmA, w_meth, knC, knB, knA, w_methK, kq, w_eqC, w_neC, kcp, w_capI, klc, w_lc, ksq_l, ksq_t, ksq_s, w_seq, krg, w_rng, kst, w_str, kjB, kjA, w_join, ksC, ksB, ksA, w_sl, wp_oNone, kso, w_some, khC, khD_t, khD_f, khB, khA, w_ch, ws_nil, s_cons, kx, kk, ke, s_exp, s_ret, ws_sRetN, ki_t, ki_f, s_if, ks, s_set, kpB, kpA, s_par, kfo, s_for, ws_for0, kr, s_raise, s_try, kat, s_asgT, kaL, s_asgL, gTs_nil, gTs_cons, ws_nxt, ws_ret, wp_own, wp_ownR, oAdd, oSub, oLt, oLe, oGt, oGe, wp_mul, wp_div, wp_mod, wp_pow, gAbs_i, gInt_i, gInt_b, gMax_i, gMin_i, gEqS_i, gNeS_i, gEqS_s, gNeS_s, gEqS_b, gNeS_b, wp_len, len_lst, len_tup, len_scr, ix_l0, ix_t0, ix_t1, ix_t2, en0, List.map_cons, List.map_nil, List.length_cons, List.length_nil, List.cons_append, List.nil_append, List.append_nil, List.replicate_zero, List.reduceReplicate, Nat.reduceAdd, Nat.reduceSub, Nat.zero_add, List.set_cons_zero, List.set_cons_succ, MV.tup.injEq, MV.int.injEq, MV.str.injEq, MV.lst.injEq, MV.bl.injEq, exists_eq_left', exists_eq_left, Option.some.injEq, decide_eq_true_eq, Bool.not_eq_true', decide_eq_false_iff_not, if_true, if_false, Bool.false_eq_true, and_true, true_and, eq_self, decide_true, decide_false, Bool.not_true, Bool.not_false, reduceIte, not_true_eq_false, not_false_eq_true, Bool.true_eq_false, Int.reduceEq, Int.reduceLT, Int.reduceLE, Int.reduceAdd, Int.reduceSub, Int.reduceMul, Int.reduceNeg, Int.reducePow, Int.reduceToNat, Int.reduceNe, ofS, String.reduceEq, in_one, in_two, in_twoI, Nat.reduceLT, Nat.reduceLeDiff, or_self, or_false, false_or, true_or, or_true, and_false, false_and, and_self, pm01, kl1, w_lc1, w_lc0, wipe1, wp_cat, Bool.or_true, Bool.or_false, Bool.true_or, Bool.false_or, Bool.and_true, Bool.and_false, Bool.true_and, Bool.false_and]
  · obtain ⟨j, hj, rfl⟩ := List.mem_map.mp hx
    exact ⟨j, by have := List.mem_range.mp hj; omega, by rw [Int.zero_add]⟩

end Q2

set_option maxHeartbeats 0
open PySem PySem.W PySem.Calls PyProof.Rows
theorem PySem.Challenge.cw_anyworker_k02_names_of_cells_holds : PySem.Challenge.rw_anyworker_k02_names_of_cells.Holds := by
  w_on; o_law
  refine HandSHeadRun.head_any (r := OpenLaw.row PySem.Challenge.rw_anyworker_k02_names_of_cells) (q := view (OpenLaw.row PySem.Challenge.rw_anyworker_k02_names_of_cells).prog [Q2.LAWIX]) (H := Q2.hk) (ob := Q2.ob) (M := 4000) (loose := Q2.loose) (d := HandSHeadRun.topDef (OpenLaw.row PySem.Challenge.rw_anyworker_k02_names_of_cells).prog Q2.LAWIX) (kwd := []) Q2.ob_eq
    (by kernel_rfl) (fun s => by kernel_rfl) Q2.run (by kernel_rfl) (by kernel_rfl) (by kernel_rfl) (by rfl) (by first | assumption | decide +kernel) (by decide +kernel) ⟨rfl, rfl, rfl, rfl, rfl, by decide +kernel⟩ ?hw ?hc
  case hw => w_witness2
  case hc =>
    refine Mi.walkG (l := PySem.Challenge.rw_anyworker_k02_names_of_cells) (k := Q2.LAWLV) (x := "script") (lawF := Q2.f_law) rfl (by kernel_rfl) ⟨rfl, by decide, by decide⟩ Q2.law_ok ?F
    intro w mg fa h Y G hmg0
    obtain ⟨K, KX, c⟩ := Y
    have hmg : mg ("law" : PySem.Str) = some (.ref fa) := by
      have e : (HandSHeadRun.topDef (OpenLaw.row PySem.Challenge.rw_anyworker_k02_names_of_cells).prog Q2.LAWIX).name = ("law" : PySem.Str) := by kernel_rfl
      rw [← e]
      exact hmg0
    have e := hmg.symm.trans (Q2.x_glo_law c KX G)
    cases e
    obtain ⟨fd, a, b, F⟩ := (Q2.d_law (P := (PySem.Challenge.rw_anyworker_k02_names_of_cells).prog) (w := w) c KX G).ex
    have b2 := L2.FunD.bindsA (ps := ["script"]) a fun _ _ _ _ _ _ us hl => match us, hl with | [_], _ => rfl
    exact ⟨K, fd, KX, fun s v => b2 s [v] rfl, fun base _ _ => F base⟩

