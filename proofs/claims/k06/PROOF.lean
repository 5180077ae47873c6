import PyProof.Rows.All
import Wide.All
import OpenK.AllK
import Wide.FinOn
import HandS.ForMost
import HandS.ForExc
import HandS.Walk
import HandS.CallSlots
import HandS.IsInst
import HandS.Flow
import HandS.TupAny
import HandS.TupMul
import HandS.Wide
import HandS.Conv
import HandS.Style
import HandS.Zip
import HandS.Property
import HandS.Star
import HandS.More
import KE.GoesEnum
import HandS.OwnEq
import PyProof.AutoSeq1
import HandS.Head0
import HandS.Head1
import HandS.Head2
import HandS.HeadEnd
import HandS.HeadHook1
import HandS.HeadHook2
import HandS.HeadHook3
import PySem.Challenge.RW_classhouse_k06_whole_fields
import HandS.Deep
import HandS.RevRange
import HandS.Strs
import HandS.SetKeys
set_option Elab.async false
set_option linter.all false
set_option maxRecDepth 100000
/-! The small machine: values with tuples held by value, a store of the objects that change, and what a program's expressions and statements come to over these.
Each rule here says: where the small machine comes to an end, the program does so too, and alike. -/
namespace MI
open PySem PySem.Spec PyProof.Rows L2

/-- a value; a tuple is its items, an object that changes is its place in the store -/
inductive MV where
  | non | bl (b : Bool) | int (i : Int) | str (s : Str) | tup (l : List MV) | ref (n : Nat)
/-- what stands in the store: a list, a list that is only read, a dict, an instance of an own class -/
inductive MO where
  | lst (l : List MV) | rol (l : List MV) | dic (kvs : List (Key × MV)) | ins (c : Str) (fs : List (Str × MV))
abbrev Store := List MO
/-- what is fixed: what the top has written; the addresses of the own classes -/
structure Gx where
  K : PySem.W.Frag
  ct : Str → Option Addr

mutual
inductive RW (G : Gx) (ι : List Addr) (H : Hp) : MV → V → Prop
  | non : RW G ι H .non .non
  | bl (b : Bool) : RW G ι H (.bl b) (.bl b)
  | int (i : Int) : RW G ι H (.int i) (.int i)
  | str (s : Str) : RW G ι H (.str s) (.str s)
  | tup {a : Addr} {vs : List V} {l : List MV} : SqT G.K H a vs → RWs G ι H l vs → RW G ι H (.tup l) (.ref a)
  | ref {n : Nat} {a : Addr} : ι[n]? = some a → RW G ι H (.ref n) (.ref a)
inductive RWs (G : Gx) (ι : List Addr) (H : Hp) : List MV → List V → Prop
  | nil : RWs G ι H [] []
  | cons {w : MV} {v : V} {ws : List MV} {vs : List V} : RW G ι H w v → RWs G ι H ws vs → RWs G ι H (w :: ws) (v :: vs)
end

section
variable {G : Gx} {ι ι' : List Addr} {H H' : Hp}
mutual
theorem RW.mono (e : ∀ (n : Nat) (a : Addr), ι[n]? = some a → ι'[n]? = some a) (t : ∀ a xs, SqT G.K H a xs → SqT G.K H' a xs) : ∀ (w : MV) (v : V), RW G ι H w v → RW G ι' H' w v
  | .non, _, h => by cases h; exact .non
  | .bl b, _, h => by cases h; exact .bl b
  | .int i, _, h => by cases h; exact .int i
  | .str s, _, h => by cases h; exact .str s
  | .tup l, _, h => by
    cases h with
    | tup h1 h2 => exact .tup (t _ _ h1) (RWs.mono e t l _ h2)
  | .ref n, _, h => by
    cases h with
    | ref h1 => exact .ref (e _ _ h1)
theorem RWs.mono (e : ∀ (n : Nat) (a : Addr), ι[n]? = some a → ι'[n]? = some a) (t : ∀ a xs, SqT G.K H a xs → SqT G.K H' a xs) : ∀ (ws : List MV) (vs : List V), RWs G ι H ws vs → RWs G ι' H' ws vs
  | [], _, h => by cases h; exact .nil
  | w :: ws, _, h => by
    cases h with
    | cons h1 h2 => exact .cons (RW.mono e t w _ h1) (RWs.mono e t ws _ h2)
end
theorem RWs.length : ∀ {ws : List MV} {vs : List V}, RWs G ι H ws vs → ws.length = vs.length
  | [], _, h => by cases h; rfl
  | w :: ws, _, h => by
    cases h with
    | cons h1 h2 => rw [List.length_cons, List.length_cons, RWs.length h2]
theorem RWs.get : ∀ {ws : List MV} {vs : List V} {i : Nat} {w : MV}, RWs G ι H ws vs → ws[i]? = some w → ∃ v, vs[i]? = some v ∧ RW G ι H w v
  | [], _, _, _, h, e => by simp at e
  | a :: ws, _, i, w, h, e => by
    cases h with
    | cons h1 h2 =>
      cases i with
      | zero => simp at e; subst e; exact ⟨_, rfl, h1⟩
      | succ i =>
        obtain ⟨v, e1, r⟩ := RWs.get (i := i) h2 (by simpa using e)
        exact ⟨v, by simpa using e1, r⟩
theorem RWs.append : ∀ {ws us : List MV} {vs xs : List V}, RWs G ι H ws vs → RWs G ι H us xs → RWs G ι H (ws ++ us) (vs ++ xs)
  | [], _, _, _, h, k => by cases h; exact k
  | a :: ws, _, _, _, h, k => by
    cases h with
    | cons h1 h2 => exact .cons h1 (RWs.append h2 k)
theorem RWs.set {w : MV} {v : V} (r : RW G ι H w v) : ∀ {ws : List MV} {vs : List V} (i : Nat), RWs G ι H ws vs → RWs G ι H (ws.set i w) (vs.set i v)
  | [], _, _, h => by cases h; exact .nil
  | a :: ws, _, i, h => by
    cases h with
    | cons h1 h2 =>
      cases i with
      | zero => exact .cons r h2
      | succ i => exact .cons h1 (RWs.set r i h2)
theorem RWs.take : ∀ {ws : List MV} {vs : List V} (n : Nat), RWs G ι H ws vs → RWs G ι H (ws.take n) (vs.take n)
  | _, _, 0, _ => by simpa using RWs.nil
  | [], _, n + 1, h => by cases h; exact .nil
  | a :: ws, _, n + 1, h => by
    cases h with
    | cons h1 h2 => exact .cons h1 (RWs.take n h2)
theorem RWs.drop : ∀ {ws : List MV} {vs : List V} (n : Nat), RWs G ι H ws vs → RWs G ι H (ws.drop n) (vs.drop n)
  | _, _, 0, h => by simpa using h
  | [], _, n + 1, h => by cases h; exact .nil
  | a :: ws, _, n + 1, h => by
    cases h with
    | cons h1 h2 => exact RWs.drop n h2
end

/-! ### the store -/
def RO (G : Gx) (ι : List Addr) (H : Hp) (a : Addr) : MO → Prop
  | .lst l => ∃ vs, H a = some (.lst vs) ∧ RWs G ι H l vs
  | .rol l => ∃ o vs, H a = some (.frz o (.lst vs)) ∧ RWs G ι H l vs
  | .dic kvs => ∃ kv', H a = some (.dK kv') ∧ kv'.map (·.1) = kvs.map (·.1) ∧ RWs G ι H (kvs.map (·.2)) (kv'.map (·.2))
  | .ins c fs => ∃ C dx fs', G.ct c = some C ∧ H a = some (.ins C dx fs') ∧ fs'.map (·.1) = fs.map (·.1) ∧ RWs G ι H (fs.map (·.2)) (fs'.map (·.2))
/-- the store is held: one address a place, no address twice -/
structure Sim (G : Gx) (ι : List Addr) (H : Hp) (S : Store) : Prop where
  len : ι.length = S.length
  nd : ι.Nodup
  obj : ∀ (n : Nat) (o : MO) (a : Addr), S[n]? = some o → ι[n]? = some a → RO G ι H a o
/-- from one time to a later one: places stay, tuples stay -/
structure Post (G : Gx) (ι : List Addr) (H : Hp) (ι' : List Addr) (H' : Hp) (S' : Store) : Prop where
  ext : ∀ (n : Nat) (a : Addr), ι[n]? = some a → ι'[n]? = some a
  tup : ∀ a xs, SqT G.K H a xs → SqT G.K H' a xs
  sim : Sim G ι' H' S'
section
variable {G : Gx} {ι ι1 ι' : List Addr} {H H1 H' : Hp} {S S1 S' : Store}
theorem Post.refl (s : Sim G ι H S) : Post G ι H ι H S := ⟨fun _ _ e => e, fun _ _ e => e, s⟩
theorem Post.trans (p : Post G ι H ι1 H1 S1) (q : Post G ι1 H1 ι' H' S') : Post G ι H ι' H' S' := ⟨fun n a e => q.ext n a (p.ext n a e), fun a xs e => q.tup a xs (p.tup a xs e), q.sim⟩
theorem Post.rw (p : Post G ι H ι' H' S') {w : MV} {v : V} (r : RW G ι H w v) : RW G ι' H' w v := r.mono p.ext p.tup
theorem Post.rws (p : Post G ι H ι' H' S') {w : List MV} {v : List V} (r : RWs G ι H w v) : RWs G ι' H' w v := r.mono p.ext p.tup
theorem RO.here {a : Addr} {o : MO} (r : RO G ι H a o) : ∃ ho, H a = some ho := by
  cases o with
  | lst l => obtain ⟨vs, e, _⟩ := r; exact ⟨_, e⟩
  | rol l => obtain ⟨o, vs, e, _⟩ := r; exact ⟨_, e⟩
  | dic kvs => obtain ⟨kv', e, _⟩ := r; exact ⟨_, e⟩
  | ins c fs => obtain ⟨C, dx, fs', _, e, _⟩ := r; exact ⟨_, e⟩
/-- an object's description leans on its own entry, on the tuples, on the places -/
theorem RO.mono {a : Addr} {o : MO} (e : ∀ (n : Nat) (a : Addr), ι[n]? = some a → ι'[n]? = some a) (t : ∀ a xs, SqT G.K H a xs → SqT G.K H' a xs) (k : H' a = H a) (r : RO G ι H a o) : RO G ι' H' a o := by
  cases o with
  | lst l => obtain ⟨vs, h, q⟩ := r; exact ⟨vs, k.trans h, q.mono e t⟩
  | rol l => obtain ⟨o, vs, h, q⟩ := r; exact ⟨o, vs, k.trans h, q.mono e t⟩
  | dic kvs => obtain ⟨kv', h, z, q⟩ := r; exact ⟨kv', k.trans h, z, q.mono e t⟩
  | ins c fs => obtain ⟨C, dx, fs', hc, h, z, q⟩ := r; exact ⟨C, dx, fs', hc, k.trans h, z, q.mono e t⟩
theorem Sim.at (s : Sim G ι H S) {n : Nat} {o : MO} (h : S[n]? = some o) : ∃ a, ι[n]? = some a ∧ RO G ι H a o := by
  have hn : n < ι.length := by rw [s.len]; exact (List.getElem?_eq_some_iff.mp h).1
  exact ⟨ι[n], by simp [hn], s.obj n o _ h (by simp [hn])⟩
theorem Sim.there (s : Sim G ι H S) {n : Nat} {a : Addr} (h : ι[n]? = some a) : ∃ ho, H a = some ho := by
  have hn : n < S.length := by rw [← s.len]; exact (List.getElem?_eq_some_iff.mp h).1
  exact (s.obj n S[n] a (by simp [hn]) h).here
/-- a place that no tuple stands at may change -/
theorem sqT_upd {K : PySem.W.Frag} {p : Addr} {ho : HO} (h : ∀ xs, ¬ Rd H p (.tup xs)) (a : Addr) (xs : List V) (q : SqT K H a xs) : SqT K (upd H p ho) a xs := by
  rcases q with q | q
  · have ne : a ≠ p := fun e => h xs (e ▸ q)
    left
    rcases q with q | ⟨o, q⟩
    · exact .inl (by rw [upd_ne ne]; exact q)
    · exact .inr ⟨o, by rw [upd_ne ne]; exact q⟩
  · exact .inr q
theorem noTup_none {p : Addr} (h : H p = none) (xs : List V) : ¬ Rd H p (.tup xs) := fun q => by
  rcases q with q | ⟨o, q⟩ <;> (rw [h] at q; cases q)
theorem noTup_of {p : Addr} {ho : HO} (h : H p = some ho) (n1 : ∀ ys, ho ≠ .tup ys) (n2 : ∀ o ys, ho ≠ .frz o (.tup ys)) (xs : List V) : ¬ Rd H p (.tup xs) := fun q => by
  rcases q with q | ⟨o, q⟩ <;> (rw [h] at q; cases q)
  · exact n1 _ rfl
  · exact n2 _ _ rfl
/-- a new tuple (or whatever is not noted) is laid -/
theorem Sim.lay (s : Sim G ι H S) {p : Addr} (h : H p = none) (ho : HO) : Post G ι H ι (upd H p ho) S := by
  have t := sqT_upd (K := G.K) (ho := ho) (noTup_none h)
  refine ⟨fun _ _ e => e, t, s.len, s.nd, fun n o a hn ha => ?_⟩
  have r := s.obj n o a hn ha
  obtain ⟨hb, e⟩ := r.here
  exact r.mono (fun _ _ e => e) t (upd_ne (ne_of_none e h))
/-- a new object is laid and noted -/
theorem Sim.new (s : Sim G ι H S) {p : Addr} (h : H p = none) {ho : HO} {mo : MO} (r : RO G (ι ++ [p]) (upd H p ho) p mo) : Post G ι H (ι ++ [p]) (upd H p ho) (S ++ [mo]) := by
  have t := sqT_upd (K := G.K) (ho := ho) (noTup_none h)
  have ext : ∀ (n : Nat) (a : Addr), ι[n]? = some a → (ι ++ [p])[n]? = some a := fun n a e => by
    have hn := (List.getElem?_eq_some_iff.mp e).1
    rw [List.getElem?_append_left hn]; exact e
  refine ⟨ext, t, by simp [s.len], ?_, fun n o a hn ha => ?_⟩
  · refine List.nodup_append.mpr ⟨s.nd, by simp, fun a ha b hb e => ?_⟩
    have hb' : b = p := by simpa using hb
    subst hb'
    subst e
    obtain ⟨n, hn⟩ := List.getElem?_of_mem ha
    obtain ⟨ho', e⟩ := s.there hn
    rw [h] at e; cases e
  · by_cases hl : n < S.length
    · rw [List.getElem?_append_left hl] at hn
      rw [List.getElem?_append_left (by rw [s.len]; exact hl)] at ha
      have q := s.obj n o a hn ha
      obtain ⟨hb, e⟩ := q.here
      exact q.mono ext t (upd_ne (ne_of_none e h))
    · have hn' : n = S.length := by
        have := (List.getElem?_eq_some_iff.mp hn).1
        simp at this; omega
      subst hn'
      rw [List.getElem?_append_right (Nat.le_refl _)] at hn
      rw [List.getElem?_append_right (by rw [s.len]; exact Nat.le_refl _)] at ha
      simp [s.len] at hn ha
      subst hn
      subst ha
      exact r
/-- an object changes -/
theorem Sim.write (s : Sim G ι H S) {n : Nat} {p : Addr} {ho ho' : HO} {mo : MO} (hi : ι[n]? = some p) (h : H p = some ho) (n1 : ∀ ys, ho ≠ .tup ys) (n2 : ∀ o ys, ho ≠ .frz o (.tup ys))
    (r : RO G ι (upd H p ho') p mo) : Post G ι H ι (upd H p ho') (S.set n mo) := by
  have t := sqT_upd (K := G.K) (ho := ho') (noTup_of h n1 n2)
  refine ⟨fun _ _ e => e, t, by simp [s.len], s.nd, fun m o a hm ha => ?_⟩
  by_cases e : n = m
  · subst e
    have hl : n < S.length := by
      have := (List.getElem?_eq_some_iff.mp hm).1
      simpa using this
    rw [List.getElem?_set_self hl] at hm
    cases hm
    rw [hi] at ha
    cases ha
    exact r
  · rw [List.getElem?_set_ne e] at hm
    have q := s.obj m o a hm ha
    refine q.mono (fun _ _ e => e) t (upd_ne fun z => e ?_)
    subst z
    obtain ⟨h1, e1⟩ := List.getElem?_eq_some_iff.mp hi
    obtain ⟨h2, e2⟩ := List.getElem?_eq_some_iff.mp ha
    exact (List.getElem_inj s.nd).mp (e1.trans e2.symm)
end

/-! ### a frame's names -/
abbrev Env' := List (Option MV)
structure RE (G : Gx) (ι : List Addr) (H : Hp) (ρ : Env') (σ : L2.St) : Prop where
  len : ρ.length = σ.length
  get : ∀ (i : Nat) (w : MV), ρ[i]? = some (some w) → ∃ v, σ[i]? = some (some v) ∧ RW G ι H w v
section
variable {G : Gx} {ι ι1 ι' : List Addr} {H H1 H' : Hp} {S S1 S' : Store} {ρ : Env'} {σ : L2.St}
theorem Post.re (p : Post G ι H ι' H' S') (r : RE G ι H ρ σ) : RE G ι' H' ρ σ := ⟨r.len, fun i w e => let ⟨v, h, q⟩ := r.get i w e; ⟨v, h, p.rw q⟩⟩
theorem RE.set (r : RE G ι H ρ σ) {w : MV} {v : V} (q : RW G ι H w v) (i : Nat) : RE G ι H (ρ.set i (some w)) (σ.set i (some v)) := by
  refine ⟨by simp [r.len], fun j u e => ?_⟩
  by_cases z : i = j
  · subst z
    have hl : i < ρ.length := by
      have := (List.getElem?_eq_some_iff.mp e).1
      simpa using this
    rw [List.getElem?_set_self hl] at e
    cases e
    exact ⟨v, by rw [List.getElem?_set_self (by rw [← r.len]; exact hl)], q⟩
  · rw [List.getElem?_set_ne z] at e
    obtain ⟨v', h, q'⟩ := r.get j u e
    exact ⟨v', by rw [List.getElem?_set_ne z]; exact h, q'⟩
end

/-! ### what comes out -/
inductive Res (α : Type) where
  | ok (a : α) (S : Store)
  | err (c : Str) (fs : List (Str × MV)) (S : Store)
  | stuck
def Res.bind {α β : Type} (r : Res α) (f : α → Store → Res β) : Res β :=
  match r with
  | .ok a S => f a S
  | .err c fs S => .err c fs S
  | .stuck => .stuck
abbrev Den := Env' → Store → Res MV
abbrev DenL := Env' → Store → Res (List MV)
/-- an exception in flight: its class, its own fields -/
def RX (G : Gx) (ι : List Addr) (H : Hp) (c : Str) (fs : List (Str × MV)) (cls : Value) (d : Option Addr) : Prop :=
  ∃ C, G.ct c = some C ∧ cls = .ref C ∧ ((fs = [] ∧ d = none) ∨ ∃ a fs', d = some a ∧ H a = some (.xd fs') ∧ fs'.map (·.1) = fs.map (·.1) ∧ RWs G ι H (fs.map (·.2)) (fs'.map (·.2)))
/-- what an end of the small machine wants: E of what is raised, P of what comes -/
def fin {α : Type} (G : Gx) (ι : List Addr) (H : Hp) (E : Value → Option Addr → Hp → Prop) (P : α → List Addr → Hp → Prop) : Res α → Prop
  | .ok a S' => ∀ ι' H', Post G ι H ι' H' S' → P a ι' H'
  | .err c fs S' => ∀ ι' H' cls d, Post G ι H ι' H' S' → RX G ι' H' c fs cls d → E cls d H'
  | .stuck => False
section
variable {α β : Type} {G : Gx} {ι ι1 ι' : List Addr} {H H1 H' : Hp} {S S1 S' : Store} {E : Value → Option Addr → Hp → Prop} {P P' : α → List Addr → Hp → Prop}
theorem fin.mono {r : Res α} (h : fin G ι H E P r) (k : ∀ a ι' H' S', Post G ι H ι' H' S' → r = .ok a S' → P a ι' H' → P' a ι' H') : fin G ι H E P' r := by
  cases r with
  | ok a S' => exact fun ι' H' p => k a ι' H' S' p rfl (h ι' H' p)
  | err c fs S' => exact h
  | stuck => exact h
theorem fin.later {r : Res α} (p : Post G ι H ι1 H1 S1) (h : fin G ι H E P r) : fin G ι1 H1 E P r := by
  cases r with
  | ok a S' => exact fun ι' H' q => h ι' H' (p.trans q)
  | err c fs S' => exact fun ι' H' cls d q => h ι' H' cls d (p.trans q)
  | stuck => exact h
theorem fin.bind {P : β → List Addr → Hp → Prop} {r : Res α} {f : α → Store → Res β} (h : fin G ι H E P (r.bind f)) : fin G ι H E (fun a ι1 H1 => ∃ S1, Sim G ι1 H1 S1 ∧ (∀ w v, RW G ι H w v → RW G ι1 H1 w v) ∧ (∀ ρ σ, RE G ι H ρ σ → RE G ι1 H1 ρ σ) ∧ r = .ok a S1 ∧ fin G ι1 H1 E P (f a S1)) r := by
  cases r with
  | ok a S' => exact fun ι' H' p => ⟨S', p.sim, fun w v q => p.rw q, fun ρ σ q => p.re q, rfl, fin.later p h⟩
  | err c fs S' => exact h
  | stuck => exact h
end

/-! ### readings made of it -/
/-- a value that stands for w is handed on -/
abbrev PV (G : Gx) (Q : VK) : MV → List Addr → Hp → Prop := fun w ι' H' => ∀ v, RW G ι' H' w v → Q v H'
abbrev PVs (G : Gx) (Q : List V → Hp → Prop) : List MV → List Addr → Hp → Prop := fun ws ι' H' => ∀ vs, RWs G ι' H' ws vs → Q vs H'
def tD (G : Gx) (W : WX) (d : Den) : TE := fun σ H Q => ∃ ι S ρ, Sim G ι H S ∧ RE G ι H ρ σ ∧ fin G ι H (fun c x H' => W c x σ H') (PV G Q) (d ρ S)
def tDs (G : Gx) (W : WX) (d : DenL) : TA := fun σ H Q => ∃ ι S ρ, Sim G ι H S ∧ RE G ι H ρ σ ∧ fin G ι H (fun c x H' => W c x σ H') (PVs G Q) (d ρ S)
theorem PE.imp {X : Cx} {e : Expr} {t t' : TE} (h : PE X e t) (k : ∀ σ H Q, t' σ H Q → t σ H Q) : PE X e t' := ⟨fun pins s σ H Q I q => h.run pins s σ H Q I (k σ H Q q)⟩
theorem PT.imp {X : Cx} {e : Expr} {t t' : TT} (h : PT X e t) (k : ∀ σ H Q, t' σ H Q → t σ H Q) : PT X e t' := ⟨fun pins s σ H Q I q => h.run pins s σ H Q I (k σ H Q q)⟩
theorem PA.imp {X : Cx} {e : List Expr} {t t' : TA} (h : PA X e t) (k : ∀ σ H Q, t' σ H Q → t σ H Q) : PA X e t' := ⟨fun pos pins s σ H Q I q => h.run pos pins s σ H Q I (k σ H Q q)⟩
theorem PS.imp {X : Cx} {e : Stmt} {t t' : TS} (h : PS X e t) (k : ∀ D σ H, t' D σ H → t D σ H) : PS X e t' := ⟨fun pins s σ H D I q => h.run pins s σ H D I (k D σ H q)⟩
theorem PSs.imp {X : Cx} {e : List Stmt} {t t' : TS} (h : PSs X e t) (k : ∀ D σ H, t' D σ H → t D σ H) : PSs X e t' := ⟨fun pins s σ H D I q => h.run pins s σ H D I (k D σ H q)⟩
/-- the judgements: where one stands (X over G), what is wished of what is raised -/
structure DE (X : Cx) (G : Gx) (W : WX) (e : Expr) (d : Den) : Prop where
  run : PE X e (tD G W d)
structure DA (X : Cx) (G : Gx) (W : WX) (es : List Expr) (d : DenL) : Prop where
  run : PA X es (tDs G W d)
end MI

set_option Elab.async false
set_option linter.all false
set_option maxRecDepth 100000
namespace MI
open PySem PySem.Spec PyProof.Rows L2
theorem big_ok {n : Nat} (h : n ≤ 100000) : n ≤ sizeLine := Nat.le_trans h (by rw [sizeLine_eq]; decide)
section
variable {X : Cx} {G : Gx} {W : WX} {e a b c : Expr} {pos : Pos} {d da db dc : Den}

/-! ### names, constants -/
def dVar (i : Nat) : Den := fun ρ S => match ρ[i]? with
  | some (some w) => .ok w S
  | _ => .stuck
theorem de_var (i : Nat) {x : Str} (hN : X.N[i]? = some x := by rfl) (hv : Vis X.env.scope x := by first | exact Or.inl rfl | exact Or.inr (Or.inl rfl) | exact Or.inr (Or.inr rfl)) (hd : (x == ("__debug__" : Str)) = false := by decide)
    (hcd : (x == ("__classdict__" : Str)) = false := by decide) : DE X G W (.Name x pos) (dVar i) := by
  refine ⟨PE.imp (pe_var hN hv hd hcd) fun σ H Q h => ?_⟩
  obtain ⟨ι, S, ρ, s, re, h⟩ := h
  unfold dVar at h
  split at h
  · rename_i w e1
    obtain ⟨v, e2, r⟩ := re.get i w e1
    exact ⟨v, e2, h ι H (.refl s) v r⟩
  · exact h.elim
def dC (w : MV) : Den := fun _ S => .ok w S
/-- a value that is the same at all times -/
def KC (G : Gx) (w : MV) (v : V) : Prop := ∀ ι H, RW G ι H w v
theorem de_const {w : MV} {v : V} (h : PE X e (tC v)) (k : KC G w v) : DE X G W e (dC w) := by
  refine ⟨PE.imp h fun σ H Q h => ?_⟩
  obtain ⟨ι, S, ρ, s, re, h⟩ := h
  exact h ι H (.refl s) v (k ι H)
theorem de_int {i : Int} {j} : DE X G W (.Constant (.int i) j pos) (dC (.int i)) := de_const pe_int fun _ _ => .int i
theorem de_bl {i : Bool} {j} : DE X G W (.Constant (.bool i) j pos) (dC (.bl i)) := de_const pe_bl fun _ _ => .bl i
theorem de_non {j} : DE X G W (.Constant .none j pos) (dC .non) := de_const pe_non fun _ _ => .non
theorem de_str {i : Str} {j} : DE X G W (.Constant (.str i) j pos) (dC (.str i)) := de_const pe_str fun _ _ => .str i
theorem de_glob {x : Str} {w : MV} {v : V} {u : Value} (hg : Gl X x) (hm : X.mg x = some u) (r : RelV v u) (k : KC G w v) (hd : (x == ("__debug__" : Str)) = false := by decide) : DE X G W (.Name x pos) (dC w) := de_const (pe_glob hg hm r hd) k

/-! ### operators of two and of one -/
def dBin (f : MV → MV → Store → Res MV) (a b : Den) : Den := fun ρ S => (a ρ S).bind fun x S1 => (b ρ S1).bind fun y S2 => f x y S2
def dUn (f : MV → Store → Res MV) (a : Den) : Den := fun ρ S => (a ρ S).bind fun x S1 => f x S1
/-- the small machine's operator and the reading's -/
def OpW (G : Gx) (f : MV → MV → Store → Res MV) (r : R2) : Prop := ∀ (ι : List Addr) (H : Hp) (S : Store) (E : Value → Option Addr → Hp → Prop) (Q : VK) (w1 w2 : MV) (v1 v2 : V), Sim G ι H S → RW G ι H w1 v1 → RW G ι H w2 v2 → fin G ι H E (PV G Q) (f w1 w2 S) → r v1 v2 H Q
def UnW (G : Gx) (f : MV → Store → Res MV) (r : V → Hp → VK → Prop) : Prop := ∀ (ι : List Addr) (H : Hp) (S : Store) (E : Value → Option Addr → Hp → Prop) (Q : VK) (w1 : MV) (v1 : V), Sim G ι H S → RW G ι H w1 v1 → fin G ι H E (PV G Q) (f w1 S) → r v1 H Q
theorem bin_imp {f : MV → MV → Store → Res MV} {r : R2} (ho : OpW G f r) {σ : L2.St} {H : Hp} {Q : VK} (h : tD G W (dBin f da db) σ H Q) : tOp r (tD G W da) (tD G W db) σ H Q := by
  obtain ⟨ι, S, ρ, s, re, h⟩ := h
  refine ⟨ι, S, ρ, s, re, (fin.bind h).mono fun w1 ι1 H1 S1 p _ h1 v1 r1 => ?_⟩
  obtain ⟨S1, s1, m1, n1, _, h1⟩ := h1
  refine ⟨ι1, S1, ρ, s1, n1 _ _ re, (fin.bind h1).mono fun w2 ι2 H2 S2 p2 _ h2 v2 r2 => ?_⟩
  obtain ⟨S2, s2, m2, _, _, h2⟩ := h2
  exact ho ι2 H2 S2 _ Q w1 w2 v1 v2 s2 (m2 _ _ r1) r2 h2
theorem un_imp {f : MV → Store → Res MV} {r : V → Hp → VK → Prop} (ho : UnW G f r) {σ : L2.St} {H : Hp} {Q : VK} (h : tD G W (dUn f da) σ H Q) : tUn r (tD G W da) σ H Q := by
  obtain ⟨ι, S, ρ, s, re, h⟩ := h
  refine ⟨ι, S, ρ, s, re, (fin.bind h).mono fun w1 ι1 H1 S1 p _ h1 v1 r1 => ?_⟩
  obtain ⟨S1, s1, m1, n1, _, h1⟩ := h1
  exact ho ι1 H1 S1 _ Q w1 v1 s1 r1 h1
theorem de_op {op : Operator} {f : MV → MV → Store → Res MV} {r : R2} (ho : OpR X (binaryOp op) r) (hw : OpW G f r) (ha : DE X G W a da) (hb : DE X G W b db) : DE X G W (.BinOp a op b pos) (dBin f da db) :=
  ⟨PE.imp (pe_op ho ha.run hb.run) fun _ _ _ h => bin_imp hw h⟩
theorem de_cmp {op : CmpOp} {f : MV → MV → Store → Res MV} {r : R2} (ho : OpR X (compareOp op) r) (hw : OpW G f r) (ha : DE X G W a da) (hb : DE X G W b db) (hm : behindInMarks op b = false) : DE X G W (.Compare a [op] [b] pos) (dBin f da db) :=
  ⟨PE.imp (pe_cmpR ho ha.run hb.run hm) fun _ _ _ h => bin_imp hw h⟩
theorem de_un {op : UnaryOp} {f : MV → Store → Res MV} {r : V → Hp → VK → Prop} (ho : UnR X (unaryOp op) r) (hw : UnW G f r) (ha : DE X G W a da) : DE X G W (.UnaryOp op a pos) (dUn f da) :=
  ⟨PE.imp (pe_un ho ha.run) fun _ _ _ h => un_imp hw h⟩
theorem OpW.or {f : MV → MV → Store → Res MV} {r r' : R2} (h : OpW G f (fun x y H Q => r x y H Q ∨ r' x y H Q)) : OpW G f (fun x y H Q => r x y H Q ∨ r' x y H Q) := h

/-! ### allocation, as what comes out -/
theorem new_tup {ι : List Addr} {H : Hp} {S : Store} {l : List MV} {vs : List V} {Q : VK} {E : Value → Option Addr → Hp → Prop} (s : Sim G ι H S) (r : RWs G ι H l vs) (h : fin G ι H E (PV G Q) (.ok (.tup l) S)) : ∀ p, H p = none → Q (.ref p) (upd H p (.tup vs)) := fun p hp => by
  have q := s.lay hp (.tup vs)
  exact h ι _ q (.ref p) (.tup (.of upd_same) (q.rws r))
theorem new_lst {ι : List Addr} {H : Hp} {S : Store} {l : List MV} {vs : List V} {Q : VK} {E : Value → Option Addr → Hp → Prop} (s : Sim G ι H S) (r : RWs G ι H l vs) (h : fin G ι H E (PV G Q) (.ok (.ref S.length) (S ++ [.lst l]))) : ∀ p, H p = none → Q (.ref p) (upd H p (.lst vs)) := fun p hp => by
  have q0 := s.lay hp (.lst vs)
  have ext : ∀ (n : Nat) (a : Addr), ι[n]? = some a → (ι ++ [p])[n]? = some a := fun n a e => by
    rw [List.getElem?_append_left (List.getElem?_eq_some_iff.mp e).1]; exact e
  have q := s.new hp (ho := .lst vs) (mo := .lst l) ⟨vs, upd_same, r.mono ext q0.tup⟩
  exact h _ _ q (.ref p) (.ref (by rw [← s.len]; simp))

/-! ### + -/
def fAdd (w1 w2 : MV) (S : Store) : Res MV := match w1, w2 with
  | .int i, .int j => .ok (.int (i + j)) S
  | .str x, .str y => if x.length + y.length ≤ 100000 then .ok (.str (x ++ y)) S else .stuck
  | .tup x, .tup y => if x.length + y.length ≤ 100000 then .ok (.tup (x ++ y)) S else .stuck
  | .ref n, .ref m => match S[n]?, S[m]? with
    | some (.lst x), some (.lst y) => if x.length + y.length ≤ 100000 then .ok (.ref S.length) (S ++ [.lst (x ++ y)]) else .stuck
    | _, _ => .stuck
  | _, _ => .stuck
abbrev rAddS : R2 := fun x y H Q => ∃ i j, x = .str i ∧ y = .str j ∧ i.length + j.length ≤ sizeLine ∧ Q (.str (i ++ j)) H
abbrev rAddAll (K : PySem.W.Frag) : R2 := fun x y H Q => (rI0 (fun i j => V.int (i + j)) x y H Q) ∨ (rAddS x y H Q ∨ (rCatA K x y H Q ∨ rCat x y H Q))
theorem op_addAll : OpR X (binaryOp .Add) (rAddAll X.K) := op_add.or (op_add_str.or (op_catA.or op_cat))
theorem w_add : OpW G fAdd (rAddAll G.K) := fun ι H S E Q w1 w2 v1 v2 s r1 r2 h => by
  unfold fAdd at h
  split at h
  · cases r1; cases r2
    exact .inl ⟨_, _, rfl, rfl, h ι H (.refl s) _ (.int _)⟩
  · cases r1; cases r2
    split at h
    · rename_i hz
      exact .inr (.inl ⟨_, _, rfl, rfl, big_ok hz, h ι H (.refl s) _ (.str _)⟩)
    · exact h.elim
  · cases r1 with
    | tup t1 q1 => cases r2 with
      | tup t2 q2 =>
        split at h
        · rename_i hz
          refine .inr (.inr (.inl ⟨_, _, _, _, rfl, rfl, t1, t2, ?_, fun e => ?_, fun e e2 => ?_, fun _ _ => ?_⟩))
          · rw [← q1.length, ← q2.length]; exact big_ok hz
          · subst e
            cases q1
            exact h ι H (.refl s) _ (.tup t2 (by simpa using q2))
          · subst e2
            cases q2
            exact h ι H (.refl s) _ (.tup t1 (by simpa using q1))
          · exact new_tup s (q1.append q2) h
        · exact h.elim
  · cases r1 with
    | ref t1 => cases r2 with
      | ref t2 =>
        split at h
        · rename_i e1 e2
          split at h
          · rename_i hz
            obtain ⟨vs1, g1, q1⟩ := s.obj _ _ _ e1 t1
            obtain ⟨vs2, g2, q2⟩ := s.obj _ _ _ e2 t2
            exact .inr (.inr (.inr ⟨_, _, _, _, rfl, rfl, g1, g2, by rw [← q1.length, ← q2.length]; exact big_ok hz, new_lst s (q1.append q2) h⟩))
          · exact h.elim
        · exact h.elim
  · exact h.elim
theorem de_add (hK : X.K = G.K) (ha : DE X G W a da) (hb : DE X G W b db) : DE X G W (.BinOp a .Add b pos) (dBin fAdd da db) := de_op (by rw [← hK]; exact op_addAll) w_add ha hb

/-! ### the other operators of ints -/
def fInt (C : Int → Int → Bool) (g : Int → Int → MV) (w1 w2 : MV) (S : Store) : Res MV := match w1, w2 with
  | .int i, .int j => if C i j then .ok (g i j) S else .stuck
  | _, _ => .stuck
theorem w_int {C : Int → Int → Bool} {P : Int → Int → Prop} {g : Int → Int → MV} {gv : Int → Int → V} (hC : ∀ i j, C i j = true → P i j) (hg : ∀ i j, KC G (g i j) (gv i j)) : OpW G (fInt C g) (rI P gv) := fun ι H S E Q w1 w2 v1 v2 s r1 r2 h => by
  unfold fInt at h
  split at h
  · split at h
    · rename_i c
      cases r1; cases r2
      exact ⟨_, _, rfl, rfl, hC _ _ c, h ι H (.refl s) _ (hg _ _ ι H)⟩
    · exact h.elim
  · exact h.elim
theorem w_int0 {g : Int → Int → MV} {gv : Int → Int → V} (hg : ∀ i j, KC G (g i j) (gv i j)) : OpW G (fInt (fun _ _ => true) g) (rI0 gv) := fun ι H S E Q w1 w2 v1 v2 s r1 r2 h => by
  unfold fInt at h
  split at h
  · cases r1; cases r2
    exact ⟨_, _, rfl, rfl, h ι H (.refl s) _ (hg _ _ ι H)⟩
  · exact h.elim
theorem kc_int (g : Int → Int → Int) : ∀ i j, KC G (.int (g i j)) (.int (g i j)) := fun _ _ _ _ => .int _
theorem kc_bl (g : Int → Int → Bool) : ∀ i j, KC G (.bl (g i j)) (.bl (g i j)) := fun _ _ _ _ => .bl _
abbrev fSub := fInt (fun _ _ => true) (fun i j => .int (i - j))
theorem de_sub (ha : DE X G W a da) (hb : DE X G W b db) : DE X G W (.BinOp a .Sub b pos) (dBin fSub da db) := de_op op_sub (w_int0 (kc_int fun i j => i - j)) ha hb
abbrev fMod := fInt (fun _ j => decide (0 < j)) (fun i j => .int (i % j))
theorem de_mod (ha : DE X G W a da) (hb : DE X G W b db) : DE X G W (.BinOp a .Mod b pos) (dBin fMod da db) := de_op op_mod (w_int (fun _ _ h => of_decide_eq_true h) (kc_int fun i j => i % j)) ha hb
abbrev fDiv := fInt (fun _ j => decide (0 < j) && decide (j < 1073741824)) (fun i j => .int (i / j))
theorem de_div (ha : DE X G W a da) (hb : DE X G W b db) : DE X G W (.BinOp a .FloorDiv b pos) (dBin fDiv da db) := de_op op_fdiv (w_int (fun i j h => by
  rw [Bool.and_eq_true] at h
  exact ⟨of_decide_eq_true h.1, of_decide_eq_true h.2⟩) (kc_int fun i j => i / j)) ha hb
abbrev fPow := fInt (fun i j => decide (0 ≤ j) && (decide (j ≤ 1000) && decide (i.natAbs < 2 ^ 64))) (fun i j => .int (i ^ j.toNat))
theorem de_pow (ha : DE X G W a da) (hb : DE X G W b db) : DE X G W (.BinOp a .Pow b pos) (dBin fPow da db) := de_op op_pow (w_int (fun i j h => by
  rw [Bool.and_eq_true, Bool.and_eq_true] at h
  have h2 := of_decide_eq_true h.2.1
  exact ⟨of_decide_eq_true h.1, by omega, of_decide_eq_true h.2.2⟩) (kc_int fun i j => i ^ j.toNat)) ha hb
/-- a * b: ints, one of them small; a tuple many times -/
def fMul (w1 w2 : MV) (S : Store) : Res MV := match w1, w2 with
  | .int i, .int j => if (decide (-(2 ^ 64) < i) && decide (i < 2 ^ 64)) || (decide (-(2 ^ 64) < j) && decide (j < 2 ^ 64)) then .ok (.int (i * j)) S else .stuck
  | .tup x, .int k => if decide (x ≠ []) && (decide (2 ≤ k) && (decide (k ≤ 1000) && decide (x.length ≤ 1000))) then .ok (.tup (List.replicate k.toNat x).flatten) S else .stuck
  | .ref n, .int k => match S[n]? with
    | some (.lst x) => if decide (0 ≤ k) && (decide (k ≤ 100) && decide (x.length ≤ 1000)) then .ok (.ref S.length) (S ++ [.lst (List.replicate k.toNat x).flatten]) else .stuck
    | _ => .stuck
  | _, _ => .stuck
end
end MI

set_option Elab.async false
set_option linter.all false
set_option maxRecDepth 100000
namespace MI
open PySem PySem.Spec PyProof.Rows L2

/-! ### values as data -/
mutual
def toPyW (f : Nat → Option PyData) : MV → Option PyData
  | .non => some .none
  | .bl b => some (.bool b)
  | .int i => some (.int i)
  | .str s => some (.str s)
  | .tup l => (toPyWs f l).map .tuple
  | .ref n => f n
def toPyWs (f : Nat → Option PyData) : List MV → Option (List PyData)
  | [] => some []
  | w :: ws => (toPyW f w).bind fun d => (toPyWs f ws).map (d :: ·)
end
/-- lists within lists, so deep -/
def toPyR (S : Store) : Nat → Nat → Option PyData
  | 0, _ => none
  | k + 1, n => match S[n]? with
    | some (.lst l) => (toPyWs (toPyR S k) l).map .list
    | some (.rol l) => (toPyWs (toPyR S k) l).map .list
    | _ => none
abbrev toPy (S : Store) (w : MV) : Option PyData := toPyW (toPyR S 6) w
section
variable {G : Gx} {ι : List Addr} {H : Hp} {S : Store}
mutual
theorem dp_w {f : Nat → Option PyData} (hf : ∀ (n : Nat) (d : PyData) (a : Addr), f n = some d → ι[n]? = some a → Dp G.K H (.ref a) d) : ∀ (w : MV) (v : V) (d : PyData), RW G ι H w v → toPyW f w = some d → Dp G.K H v d
  | .non, _, _, r, e => by cases r; simp [toPyW] at e; subst e; exact .non
  | .bl b, _, _, r, e => by cases r; simp [toPyW] at e; subst e; exact .bl b
  | .int i, _, _, r, e => by cases r; simp [toPyW] at e; subst e; exact .int i
  | .str s, _, _, r, e => by cases r; simp [toPyW] at e; subst e; exact .str s
  | .tup l, _, d, r, e => by
    cases r with
    | tup t q =>
      unfold toPyW at e
      cases e2 : toPyWs f l with
      | none => rw [e2] at e; cases e
      | some ds =>
        rw [e2] at e
        cases e
        exact .tup t (dp_ws hf l _ ds q e2)
  | .ref n, _, d, r, e => by
    cases r with
    | ref i =>
      unfold toPyW at e
      exact hf n d _ e i
theorem dp_ws {f : Nat → Option PyData} (hf : ∀ (n : Nat) (d : PyData) (a : Addr), f n = some d → ι[n]? = some a → Dp G.K H (.ref a) d) : ∀ (ws : List MV) (vs : List V) (ds : List PyData), RWs G ι H ws vs → toPyWs f ws = some ds → DpAll G.K H vs ds
  | [], _, _, r, e => by cases r; simp [toPyWs] at e; subst e; exact .nil
  | w :: ws, _, ds, r, e => by
    cases r with
    | cons r1 r2 =>
      unfold toPyWs at e
      cases e1 : toPyW f w with
      | none => rw [e1] at e; cases e
      | some d =>
        rw [e1] at e
        cases e2 : toPyWs f ws with
        | none => rw [e2] at e; cases e
        | some ds2 =>
          rw [e2] at e
          cases e
          exact .cons (dp_w hf w _ d r1 e1) (dp_ws hf ws _ ds2 r2 e2)
end
theorem dp_r (s : Sim G ι H S) : ∀ (k n : Nat) (d : PyData) (a : Addr), toPyR S k n = some d → ι[n]? = some a → Dp G.K H (.ref a) d
  | 0, n, d, a, e, i => by cases e
  | k + 1, n, d, a, e, i => by
    unfold toPyR at e
    split at e
    · rename_i l h
      obtain ⟨vs, g, q⟩ := s.obj _ _ _ h i
      cases e2 : toPyWs (toPyR S k) l with
      | none => rw [e2] at e; cases e
      | some ds =>
        rw [e2] at e
        cases e
        exact .lst (.of g) (dp_ws (dp_r s k) l vs ds q e2)
    · rename_i l h
      obtain ⟨o, vs, g, q⟩ := s.obj _ _ _ h i
      cases e2 : toPyWs (toPyR S k) l with
      | none => rw [e2] at e; cases e
      | some ds =>
        rw [e2] at e
        cases e
        exact .lst (.inl (.inr ⟨o, g⟩)) (dp_ws (dp_r s k) l vs ds q e2)
    · cases e
theorem dp_of (s : Sim G ι H S) {w : MV} {v : V} {d : PyData} (r : RW G ι H w v) (e : toPy S w = some d) : Dp G.K H v d := dp_w (dp_r s 6) w v d r e
end

section
variable {X : Cx} {G : Gx} {W : WX} {e a b c : Expr} {pos : Pos} {d da db dc : Den}
/-! ### == and != -/
/-- the scalars' answers -/
def scalM : MV → MV → Option Bool
  | .non, .non => some true
  | .int i, .int j => some (decide (i = j))
  | .bl i, .bl j => some (decide (i = j))
  | .str i, .str j => some (decide (i = j))
  | .non, .int _ => some false | .int _, .non => some false | .non, .bl _ => some false | .bl _, .non => some false | .non, .str _ => some false | .str _, .non => some false
  | .int _, .str _ => some false | .str _, .int _ => some false | .bl _, .str _ => some false | .str _, .bl _ => some false
  | _, _ => none
def eqM (w1 w2 : MV) (S : Store) : Option Bool := match scalM w1 w2 with
  | some k => some k
  | none => match toPy S w1, toPy S w2 with
    | some d, some e => if SeqAt.shaped d && SeqAt.shaped e then some (PyData.eqv d e) else none
    | _, _ => none
def fEq (w1 w2 : MV) (S : Store) : Res MV := match eqM w1 w2 S with
  | some k => .ok (.bl k) S
  | none => .stuck
def fNe (w1 w2 : MV) (S : Store) : Res MV := match eqM w1 w2 S with
  | some k => .ok (.bl (!k)) S
  | none => .stuck
theorem scal_ok {ι : List Addr} {H : Hp} {w1 w2 : MV} {v1 v2 : V} {k : Bool} (r1 : RW G ι H w1 v1) (r2 : RW G ι H w2 v2) (e : scalM w1 w2 = some k) : scal v1 v2 = true ∧ decide (v1 = v2) = k := by
  cases r1 <;> cases r2 <;> first
    | (cases e; simp [scal]; done)
    | (simp [scalM] at e; done)
    | (simp [scalM] at e; subst e; simp [scal])
theorem eqM_ok {ι : List Addr} {H : Hp} {S : Store} {w1 w2 : MV} {v1 v2 : V} {k : Bool} (s : Sim G ι H S) (r1 : RW G ι H w1 v1) (r2 : RW G ι H w2 v2) (h : eqM w1 w2 S = some k) :
    (scal v1 v2 = true ∧ decide (v1 = v2) = k) ∨ ∃ d e, Dp G.K H v1 d ∧ Dp G.K H v2 e ∧ SeqAt.shaped d = true ∧ SeqAt.shaped e = true ∧ PyData.eqv d e = k := by
  unfold eqM at h
  split at h
  · rename_i k' e
    cases h
    exact .inl (scal_ok r1 r2 e)
  · split at h
    · rename_i d e e1 e2
      split at h
      · rename_i hz
        rw [Bool.and_eq_true] at hz
        cases h
        exact .inr ⟨d, e, dp_of s r1 e1, dp_of s r2 e2, hz.1, hz.2, rfl⟩
      · cases h
    · cases h
theorem w_eq : OpW G fEq (fun x y H Q => rEq x y H Q ∨ rEqD G.K x y H Q) := fun ι H S E Q w1 w2 v1 v2 s r1 r2 h => by
  unfold fEq at h
  split at h
  · rename_i k e
    have q := h ι H (.refl s) _ (.bl k)
    rcases eqM_ok s r1 r2 e with ⟨h1, h2⟩ | ⟨d, e, h1, h2, h3, h4, h5⟩
    · exact .inl ⟨h1, by rw [h2]; exact q⟩
    · exact .inr ⟨d, e, h1, h2, h3, h4, by rw [h5]; exact q⟩
  · exact h.elim
theorem w_ne : OpW G fNe (fun x y H Q => rNe x y H Q ∨ rNeD G.K x y H Q) := fun ι H S E Q w1 w2 v1 v2 s r1 r2 h => by
  unfold fNe at h
  split at h
  · rename_i k e
    have q := h ι H (.refl s) _ (.bl (!k))
    rcases eqM_ok s r1 r2 e with ⟨h1, h2⟩ | ⟨d, e, h1, h2, h3, h4, h5⟩
    · exact .inl ⟨h1, by rw [h2]; exact q⟩
    · exact .inr ⟨d, e, h1, h2, h3, h4, by rw [h5]; exact q⟩
  · exact h.elim
/-! ### in, not in -/
def flatM : MV → Bool
  | .non => true | .bl _ => true | .int _ => true | .str _ => true | _ => false
/-- y == x, flat ones -/
def eqF : MV → MV → Bool
  | .non, .non => true
  | .bl a, .bl b => a == b
  | .bl a, .int b => (if a then 1 else 0) == b
  | .int a, .bl b => a == (if b then 1 else 0)
  | .int a, .int b => a == b
  | .str a, .str b => a == b
  | _, _ => false
def itemsOf (w : MV) (S : Store) : Option (List MV) := match w with
  | .tup l => some l
  | .ref n => match S[n]? with
    | some (.lst l) => some l
    | some (.rol l) => some l
    | _ => none
  | _ => none
theorem items_ok {ι : List Addr} {H : Hp} {S : Store} {w : MV} {v : V} {l : List MV} (s : Sim G ι H S) (r : RW G ι H w v) (e : itemsOf w S = some l) : ∃ a vs, v = .ref a ∧ (SqL G.K H a vs ∨ SqT G.K H a vs) ∧ RWs G ι H l vs := by
  unfold itemsOf at e
  split at e
  · cases e
    cases r with
    | tup t q => exact ⟨_, _, rfl, .inr t, q⟩
  · cases r with
    | ref i =>
      split at e
      · rename_i h
        cases e
        obtain ⟨vs, g, q⟩ := s.obj _ _ _ h i
        exact ⟨_, vs, rfl, .inl (.of g), q⟩
      · rename_i h
        cases e
        obtain ⟨o, vs, g, q⟩ := s.obj _ _ _ h i
        exact ⟨_, vs, rfl, .inl (.inl (.inr ⟨o, g⟩)), q⟩
      · cases e
  · cases e
theorem flat_ok {ι : List Addr} {H : Hp} {w : MV} {v : V} (r : RW G ι H w v) (e : flatM w = true) : flatV v = true := by
  cases r <;> first | rfl | cases e
theorem flats_ok {ι : List Addr} {H : Hp} : ∀ {ws : List MV} {vs : List V}, RWs G ι H ws vs → ws.all flatM = true → vs.all flatV = true
  | [], _, r, _ => by cases r; rfl
  | w :: ws, _, r, e => by
    cases r with
    | cons r1 r2 =>
      rw [List.all_cons, Bool.and_eq_true] at e
      rw [List.all_cons, Bool.and_eq_true]
      exact ⟨flat_ok r1 e.1, flats_ok r2 e.2⟩
theorem eqF_ok {ι : List Addr} {H : Hp} {w1 w2 : MV} {v1 v2 : V} (r1 : RW G ι H w1 v1) (r2 : RW G ι H w2 v2) : eqF w1 w2 = eqV v1 v2 := by
  cases r1 <;> cases r2 <;> rfl
theorem inF_ok {ι : List Addr} {H : Hp} {w : MV} {v : V} (r : RW G ι H w v) : ∀ {ws : List MV} {vs : List V}, RWs G ι H ws vs → (ws.any fun y => eqF y w) = inV v vs
  | [], _, q => by cases q; rfl
  | y :: ws, _, q => by
    cases q with
    | cons q1 q2 =>
      have ih := inF_ok r q2
      unfold inV at ih ⊢
      rw [List.any_cons, List.any_cons, eqF_ok q1 r, ih]
/-- x in xs: flat ones; one sign in a text -/
def inM (w1 w2 : MV) (S : Store) : Option Bool := match w1, w2 with
  | .str x, .str z => match x.cps with
    | ⟨[c]⟩ => some (decide (c ∈ z.cps.toList))
    | _ => none
  | w1, w2 => match itemsOf w2 S with
    | some l => if flatM w1 && l.all flatM then some (l.any fun y => eqF y w1) else none
    | none => none
def fIn (w1 w2 : MV) (S : Store) : Res MV := match inM w1 w2 S with
  | some k => .ok (.bl k) S
  | none => .stuck
def fNotIn (w1 w2 : MV) (S : Store) : Res MV := match inM w1 w2 S with
  | some k => .ok (.bl (!k)) S
  | none => .stuck
abbrev rInS : R2 := fun x y H Q => ∃ (c : Nat) (z : Str), x = .str ⟨#[c]⟩ ∧ y = .str z ∧ Q (.bl (decide (c ∈ z.cps.toList))) H
abbrev rNotInS : R2 := fun x y H Q => ∃ (c : Nat) (z : Str), x = .str ⟨#[c]⟩ ∧ y = .str z ∧ Q (.bl (!decide (c ∈ z.cps.toList))) H
theorem inM_ok {ι : List Addr} {H : Hp} {S : Store} {w1 w2 : MV} {v1 v2 : V} {k : Bool} (s : Sim G ι H S) (r1 : RW G ι H w1 v1) (r2 : RW G ι H w2 v2) (h : inM w1 w2 S = some k) :
    (∃ (c : Nat) (z : Str), v1 = .str ⟨#[c]⟩ ∧ v2 = .str z ∧ decide (c ∈ z.cps.toList) = k) ∨ ∃ p xs, v2 = .ref p ∧ (SqL G.K H p xs ∨ SqT G.K H p xs) ∧ flatV v1 = true ∧ xs.all flatV = true ∧ inV v1 xs = k := by
  unfold inM at h
  split at h
  · rename_i x z
    cases r1; cases r2
    split at h
    · rename_i c e
      cases h
      obtain ⟨cs⟩ := x
      have e' : cs = #[c] := e
      subst e'
      exact .inl ⟨c, z, rfl, rfl, rfl⟩
    · cases h
  · split at h
    · rename_i l e
      split at h
      · rename_i hz
        rw [Bool.and_eq_true] at hz
        cases h
        obtain ⟨a, vs, rfl, t, q⟩ := items_ok s r2 e
        exact .inr ⟨a, vs, rfl, t, flat_ok r1 hz.1, flats_ok q hz.2, (inF_ok r1 q).symm⟩
      · cases h
    · cases h
theorem w_in : OpW G fIn (fun x y H Q => rInS x y H Q ∨ rIn G.K false x y H Q) := fun ι H S E Q w1 w2 v1 v2 s r1 r2 h => by
  unfold fIn at h
  split at h
  · rename_i k e
    have q := h ι H (.refl s) _ (.bl k)
    rcases inM_ok s r1 r2 e with ⟨c, z, h1, h2, h3⟩ | ⟨p, xs, h1, h2, h3, h4, h5⟩
    · exact .inl ⟨c, z, h1, h2, by rw [h3]; exact q⟩
    · exact .inr ⟨p, xs, h1, h2, h3, h4, by rw [h5]; exact q⟩
  · exact h.elim
theorem w_notIn : OpW G fNotIn (fun x y H Q => rNotInS x y H Q ∨ rIn G.K true x y H Q) := fun ι H S E Q w1 w2 v1 v2 s r1 r2 h => by
  unfold fNotIn at h
  split at h
  · rename_i k e
    have q := h ι H (.refl s) _ (.bl (!k))
    rcases inM_ok s r1 r2 e with ⟨c, z, h1, h2, h3⟩ | ⟨p, xs, h1, h2, h3, h4, h5⟩
    · exact .inl ⟨c, z, h1, h2, by rw [h3]; exact q⟩
    · exact .inr ⟨p, xs, h1, h2, h3, h4, by rw [h5]; exact q⟩
  · exact h.elim
/-! ### is None, is not None -/
def isNonM : MV → Bool
  | .non => true
  | _ => false
theorem isNon_ok {ι : List Addr} {H : Hp} {w : MV} {v : V} (r : RW G ι H w v) : decide (v = .non) = isNonM w := by
  cases r <;> simp [isNonM]
def fIs (w1 w2 : MV) (S : Store) : Res MV := match w2 with
  | .non => .ok (.bl (isNonM w1)) S
  | _ => .stuck
def fIsNot (w1 w2 : MV) (S : Store) : Res MV := match w2 with
  | .non => .ok (.bl (!isNonM w1)) S
  | _ => .stuck
theorem w_is : OpW G fIs (fun x y H Q => y = .non ∧ Q (.bl (decide (x = .non))) H) := fun ι H S E Q w1 w2 v1 v2 s r1 r2 h => by
  unfold fIs at h
  split at h
  · cases r2
    exact ⟨rfl, by rw [isNon_ok r1]; exact h ι H (.refl s) _ (.bl _)⟩
  · exact h.elim
theorem w_isNot : OpW G fIsNot (fun x y H Q => y = .non ∧ Q (.bl (!decide (x = .non))) H) := fun ι H S E Q w1 w2 v1 v2 s r1 r2 h => by
  unfold fIsNot at h
  split at h
  · cases r2
    exact ⟨rfl, by rw [isNon_ok r1]; exact h ι H (.refl s) _ (.bl _)⟩
  · exact h.elim
/-! ### the comparisons, each as a rule of its operator: the reading's and the small machine's -/
structure CmpOk (X : Cx) (G : Gx) (op : CmpOp) (f : MV → MV → Store → Res MV) : Prop where
  ex : ∃ r, OpR X (compareOp op) r ∧ OpW G f r
theorem cmp_eq (hK : X.K = G.K) (hu : X.A.units + 64 < cLine) : CmpOk X G .Eq fEq := ⟨_, op_eq.or (op_eqD hu), by rw [hK]; exact w_eq⟩
theorem cmp_ne (hK : X.K = G.K) (hu : X.A.units + 64 < cLine) : CmpOk X G .NotEq fNe := ⟨_, op_ne.or (op_neD hu), by rw [hK]; exact w_ne⟩
theorem cmp_in (hK : X.K = G.K) : CmpOk X G .In fIn := ⟨_, op_in_sign.or op_in_seq, by rw [hK]; exact w_in⟩
theorem cmp_notIn (hK : X.K = G.K) : CmpOk X G .NotIn fNotIn := ⟨_, op_notIn_sign.or op_notIn_seq, by rw [hK]; exact w_notIn⟩
theorem cmp_is : CmpOk X G .Is fIs := ⟨_, op_isN, w_is⟩
theorem cmp_isNot : CmpOk X G .IsNot fIsNot := ⟨_, op_notN, w_isNot⟩
abbrev fLt := fInt (fun _ _ => true) (fun i j => .bl (decide (i < j)))
abbrev fLe := fInt (fun _ _ => true) (fun i j => .bl (decide (i ≤ j)))
abbrev fGt := fInt (fun _ _ => true) (fun i j => .bl (decide (j < i)))
abbrev fGe := fInt (fun _ _ => true) (fun i j => .bl (decide (j ≤ i)))
theorem cmp_lt : CmpOk X G .Lt fLt := ⟨_, op_lt, w_int0 (kc_bl fun i j => decide (i < j))⟩
theorem cmp_le : CmpOk X G .LtE fLe := ⟨_, op_le, w_int0 (kc_bl fun i j => decide (i ≤ j))⟩
theorem cmp_gt : CmpOk X G .Gt fGt := ⟨_, op_gt, w_int0 (kc_bl fun i j => decide (j < i))⟩
theorem cmp_ge : CmpOk X G .GtE fGe := ⟨_, op_ge, w_int0 (kc_bl fun i j => decide (j ≤ i))⟩
theorem de_cmp' {op : CmpOp} {f : MV → MV → Store → Res MV} (k : CmpOk X G op f) (ha : DE X G W a da) (hb : DE X G W b db) (hm : behindInMarks op b = false) : DE X G W (.Compare a [op] [b] pos) (dBin f da db) := by
  obtain ⟨r, h1, h2⟩ := k.ex
  exact de_cmp h1 h2 ha hb hm

/-! ### tests -/
abbrev DenB := Env' → Store → Res Bool
def tT (G : Gx) (W : WX) (d : DenB) : TT := fun σ H Q => ∃ ι S ρ, Sim G ι H S ∧ RE G ι H ρ σ ∧ fin G ι H (fun c x H' => W c x σ H') (fun k _ H' => Q k H') (d ρ S)
structure DT (X : Cx) (G : Gx) (W : WX) (e : Expr) (d : DenB) : Prop where
  run : PT X e (tT G W d)
structure DW (X : Cx) (G : Gx) (W : WX) (e : Expr) (d : DenB) : Prop where
  run : PW X e (tT G W d)
theorem PW.imp {X : Cx} {e : Expr} {t t' : TT} (h : PW X e t) (k : ∀ σ H Q, t' σ H Q → t σ H Q) : PW X e t' := ⟨fun wh pins s σ H Q I q => h.run wh pins s σ H Q I (k σ H Q q)⟩
def boolOf (w : MV) (S : Store) : Res Bool := match w with
  | .bl k => .ok k S
  | _ => .stuck
def bCmp (f : MV → MV → Store → Res MV) (a b : Den) : DenB := fun ρ S => (dBin f a b ρ S).bind boolOf
theorem test_imp {d : Den} {σ : L2.St} {H : Hp} {Q : Bool → Hp → Prop} (h : tT G W (fun ρ S => (d ρ S).bind boolOf) σ H Q) : tD G W d σ H (fun x H' => ∃ k, x = .bl k ∧ Q k H') := by
  obtain ⟨ι, S, ρ, s, re, h⟩ := h
  refine ⟨ι, S, ρ, s, re, (fin.bind h).mono fun w ι1 H1 S1 p _ h1 v r => ?_⟩
  obtain ⟨S2, s2, _, _, _, h2⟩ := h1
  unfold boolOf at h2
  split at h2
  · cases r
    exact ⟨_, rfl, h2 ι1 H1 (.refl s2)⟩
  · exact h2.elim
theorem dt_cmp {op : CmpOp} {f : MV → MV → Store → Res MV} (k : CmpOk X G op f) (ha : DE X G W a da) (hb : DE X G W b db) (hm : behindInMarks op b = false) : DT X G W (.Compare a [op] [b] pos) (bCmp f da db) := by
  obtain ⟨r, h1, h2⟩ := k.ex
  exact ⟨PT.imp (pt_cmpR h1 ha.run hb.run hm) fun σ H Q h => bin_imp h2 (test_imp h)⟩
/-- truth of any value -/
def truM (w : MV) (S : Store) : Option Bool := match w with
  | .non => some false
  | .bl b => some b
  | .int i => some (i != 0)
  | .str x => if x.length ≤ 100000 then some ((x.length : Int) != 0) else none
  | .tup l => some (!l.isEmpty)
  | .ref n => match S[n]? with
    | some (.lst l) => some (!l.isEmpty)
    | some (.rol l) => some (!l.isEmpty)
    | some (.dic l) => some (!l.isEmpty)
    | _ => none
def truB (w : MV) (S : Store) : Res Bool := match truM w S with
  | some k => .ok k S
  | none => .stuck
theorem isEmpty_rws {ι : List Addr} {H : Hp} {l : List MV} {vs : List V} (r : RWs G ι H l vs) : vs.isEmpty = l.isEmpty := by cases r <;> rfl
theorem tru_w {ι : List Addr} {H : Hp} {S : Store} {w : MV} {v : V} {k : Bool} (s : Sim G ι H S) (r : RW G ι H w v) (e : truM w S = some k) : TruV G.K v H k := by
  unfold truM at e
  split at e
  · cases r; cases e; exact rfl
  · cases r; cases e; exact rfl
  · cases r; cases e; exact rfl
  · cases r
    split at e
    · rename_i hz
      cases e
      exact ⟨big_ok hz, rfl⟩
    · cases e
  · cases r with
    | tup t q => cases e; exact .inr (.inl ⟨_, t, by rw [isEmpty_rws q]⟩)
  · cases r with
    | ref i =>
      split at e
      · rename_i h
        obtain ⟨vs, g, q⟩ := s.obj _ _ _ h i
        cases e
        exact .inl ⟨vs, .of g, by rw [isEmpty_rws q]⟩
      · rename_i h
        obtain ⟨o, vs, g, q⟩ := s.obj _ _ _ h i
        cases e
        exact .inl ⟨vs, .inl (.inr ⟨o, g⟩), by rw [isEmpty_rws q]⟩
      · rename_i l h
        obtain ⟨kv, g, q1, q2⟩ := s.obj _ _ _ h i
        cases e
        refine .inr (.inr ⟨kv, g, ?_⟩)
        have hl : kv.length = l.length := by
          have := congrArg List.length q1
          simpa using this
        cases kv <;> cases l <;> first | rfl | (simp at hl)
      · cases e
def bTru (d : Den) : DenB := fun ρ S => (d ρ S).bind truB
theorem dt_truth (hK : X.K = G.K) (ha : DE X G W a da) (he : ∀ whole, isTrue a X.env whole = (do let v ← whole; standAt a.pos; holding [v] (truthy v)) := by intro _; rfl) : DT X G W a (bTru da) := by
  refine ⟨PT.imp (pt_truth ha.run he) fun σ H Q h => ?_⟩
  obtain ⟨ι, S, ρ, s, re, h⟩ := h
  refine ⟨ι, S, ρ, s, re, (fin.bind h).mono fun w ι1 H1 S1 p _ h1 v r => ?_⟩
  obtain ⟨S2, s2, _, _, _, h2⟩ := h1
  unfold truB at h2
  split at h2
  · rename_i k e
    exact ⟨k, by rw [hK]; exact tru_w s2 r e, h2 ι1 H1 (.refl s2)⟩
  · exact h2.elim
def bNot (d : DenB) : DenB := fun ρ S => (d ρ S).bind fun k S1 => .ok (!k) S1
def bAnd (d f : DenB) : DenB := fun ρ S => (d ρ S).bind fun k S1 => if k = true then f ρ S1 else .ok false S1
def bOr (d f : DenB) : DenB := fun ρ S => (d ρ S).bind fun k S1 => if k = true then .ok true S1 else f ρ S1
variable {dA dB : DenB} {rest : List Expr}
theorem dt_not (ha : DT X G W a dA) : DT X G W (.UnaryOp .Not a pos) (bNot dA) := by
  refine ⟨PT.imp (pt_not ha.run) fun σ H Q h => ?_⟩
  obtain ⟨ι, S, ρ, s, re, h⟩ := h
  refine ⟨ι, S, ρ, s, re, (fin.bind h).mono fun k ι1 H1 S1 p _ h1 => ?_⟩
  obtain ⟨S2, s2, _, _, _, h2⟩ := h1
  exact h2 ι1 H1 (.refl s2)
theorem dw_dt (h : DW X G W e dA) : DT X G W e dA := ⟨h.run.pt⟩
theorem dw_and1 (ha : DT X G W a dA) : DW X G W (.BoolOp .And [a] pos) dA := ⟨pw_and1 ha.run⟩
theorem dw_or1 (ha : DT X G W a dA) : DW X G W (.BoolOp .Or [a] pos) dA := ⟨pw_or1 ha.run⟩
theorem dw_and (ha : DT X G W a dA) (hb : DW X G W (.BoolOp .And (b :: rest) pos) dB) : DW X G W (.BoolOp .And (a :: b :: rest) pos) (bAnd dA dB) := by
  refine ⟨PW.imp (pw_and ha.run hb.run) fun σ H Q h => ?_⟩
  obtain ⟨ι, S, ρ, s, re, h⟩ := h
  refine ⟨ι, S, ρ, s, re, (fin.bind h).mono fun k ι1 H1 S1 p _ h1 => ?_⟩
  obtain ⟨S2, s2, _, re2, _, h2⟩ := h1
  cases k with
  | true => exact ⟨ι1, S2, ρ, s2, re2 _ _ re, h2⟩
  | false => exact h2 ι1 H1 (.refl s2)
theorem dw_or (ha : DT X G W a dA) (hb : DW X G W (.BoolOp .Or (b :: rest) pos) dB) : DW X G W (.BoolOp .Or (a :: b :: rest) pos) (bOr dA dB) := by
  refine ⟨PW.imp (pw_or ha.run hb.run) fun σ H Q h => ?_⟩
  obtain ⟨ι, S, ρ, s, re, h⟩ := h
  refine ⟨ι, S, ρ, s, re, (fin.bind h).mono fun k ι1 H1 S1 p _ h1 => ?_⟩
  obtain ⟨S2, s2, _, re2, _, h2⟩ := h1
  cases k with
  | false => exact ⟨ι1, S2, ρ, s2, re2 _ _ re, h2⟩
  | true => exact h2 ι1 H1 (.refl s2)
/-! ### and, or, not as values, of True and False -/
def dAnd (d f : Den) : Den := fun ρ S => (d ρ S).bind fun w S1 => match w with
  | .bl true => f ρ S1
  | .bl false => .ok (.bl false) S1
  | _ => .stuck
def dOr (d f : Den) : Den := fun ρ S => (d ρ S).bind fun w S1 => match w with
  | .bl true => .ok (.bl true) S1
  | .bl false => f ρ S1
  | _ => .stuck
def dNot (d : Den) : Den := fun ρ S => (d ρ S).bind fun w S1 => match w with
  | .bl k => .ok (.bl (!k)) S1
  | _ => .stuck
theorem de_one {op} (h : DE X G W a da) : DE X G W (.BoolOp op [a] pos) da := ⟨pe_one h.run⟩
theorem de_and (ha : DE X G W a da) (hb : DE X G W (.BoolOp .And (b :: rest) pos) db) : DE X G W (.BoolOp .And (a :: b :: rest) pos) (dAnd da db) := by
  refine ⟨PE.imp (pe_and ha.run hb.run) fun σ H Q h => ?_⟩
  obtain ⟨ι, S, ρ, s, re, h⟩ := h
  refine ⟨ι, S, ρ, s, re, (fin.bind h).mono fun w ι1 H1 S1 p _ h1 v r => ?_⟩
  obtain ⟨S2, s2, _, re2, _, h2⟩ := h1
  split at h2
  · cases r
    exact ⟨true, rfl, ι1, S2, ρ, s2, re2 _ _ re, h2⟩
  · cases r
    exact ⟨false, rfl, h2 ι1 H1 (.refl s2) _ (.bl _)⟩
  · exact h2.elim
theorem de_or (ha : DE X G W a da) (hb : DE X G W (.BoolOp .Or (b :: rest) pos) db) : DE X G W (.BoolOp .Or (a :: b :: rest) pos) (dOr da db) := by
  refine ⟨PE.imp (pe_or ha.run hb.run) fun σ H Q h => ?_⟩
  obtain ⟨ι, S, ρ, s, re, h⟩ := h
  refine ⟨ι, S, ρ, s, re, (fin.bind h).mono fun w ι1 H1 S1 p _ h1 v r => ?_⟩
  obtain ⟨S2, s2, _, re2, _, h2⟩ := h1
  split at h2
  · cases r
    exact ⟨true, rfl, h2 ι1 H1 (.refl s2) _ (.bl _)⟩
  · cases r
    exact ⟨false, rfl, ι1, S2, ρ, s2, re2 _ _ re, h2⟩
  · exact h2.elim
theorem de_not (ha : DE X G W a da) : DE X G W (.UnaryOp .Not a pos) (dNot da) := by
  refine ⟨PE.imp (pe_not ha.run) fun σ H Q h => ?_⟩
  obtain ⟨ι, S, ρ, s, re, h⟩ := h
  refine ⟨ι, S, ρ, s, re, (fin.bind h).mono fun w ι1 H1 S1 p _ h1 v r => ?_⟩
  obtain ⟨S2, s2, _, re2, _, h2⟩ := h1
  split at h2
  · cases r
    exact ⟨_, rfl, h2 ι1 H1 (.refl s2) _ (.bl _)⟩
  · exact h2.elim
def dIf (t : DenB) (d f : Den) : Den := fun ρ S => (t ρ S).bind fun k S1 => if k = true then d ρ S1 else f ρ S1
theorem de_if (hc : DT X G W c dA) (ha : DE X G W a da) (hb : DE X G W b db) : DE X G W (.IfExp c a b pos) (dIf dA da db) := by
  refine ⟨PE.imp (pe_ifExp hc.run ha.run hb.run) fun σ H Q h => ?_⟩
  obtain ⟨ι, S, ρ, s, re, h⟩ := h
  refine ⟨ι, S, ρ, s, re, (fin.bind h).mono fun k ι1 H1 S1 p _ h1 => ?_⟩
  obtain ⟨S2, s2, _, re2, _, h2⟩ := h1
  cases k with
  | true => exact ⟨ι1, S2, ρ, s2, re2 _ _ re, h2⟩
  | false => exact ⟨ι1, S2, ρ, s2, re2 _ _ re, h2⟩
/-- a < b < c -/
def dChain (f g : MV → MV → Store → Res MV) (a b c : Den) : Den := fun ρ S => (a ρ S).bind fun x S1 => (b ρ S1).bind fun y S2 => (f x y S2).bind fun k S3 => match k with
  | .bl true => (c ρ S3).bind fun z S4 => g y z S4
  | .bl false => .ok (.bl false) S3
  | _ => .stuck
end
end MI

set_option Elab.async false
set_option linter.all false
set_option maxRecDepth 100000
namespace MI
open PySem PySem.Spec PyProof.Rows L2
section
variable {X : Cx} {G : Gx} {W : WX} {e a b c : Expr} {pos : Pos} {d da db dc : Den}
/-! ### a dict's keys -/
def keyM : MV → Option Key
  | .int i => some (.inl i)
  | .str s => some (.inr s)
  | _ => none
theorem key_ok {ι : List Addr} {H : Hp} {w : MV} {v : V} {k : Key} (r : RW G ι H w v) (e : keyM w = some k) : v = kV k := by
  unfold keyM at e
  split at e <;> (first | (cases r; cases e; rfl) | cases e)
def valM (kvs : List (Key × MV)) (k : Key) : Option MV := (kvs.find? fun kv => decide (kv.1 = k)).map (·.2)
def putM (kvs : List (Key × MV)) (k : Key) (w : MV) : List (Key × MV) :=
  if (kvs.any fun kv => decide (kv.1 = k)) = true then kvs.map (fun kv => if kv.1 = k then (kv.1, w) else kv) else kvs ++ [(k, w)]
theorem kvs_val {ι : List Addr} {H : Hp} {k : Key} : ∀ {kvs : List (Key × MV)} {kv : List (Key × V)}, kv.map (·.1) = kvs.map (·.1) → RWs G ι H (kvs.map (·.2)) (kv.map (·.2)) →
    (∃ w v, valM kvs k = some w ∧ valV kv k = some v ∧ RW G ι H w v) ∨ (valM kvs k = none ∧ valV kv k = none)
  | [], [], _, _ => .inr ⟨rfl, rfl⟩
  | [], p :: kv, e, _ => by simp at e
  | p :: kvs, [], e, _ => by simp at e
  | p :: kvs, q :: kv, e, r => by
    simp only [List.map_cons, List.cons.injEq] at e
    simp only [List.map_cons] at r
    cases r with
    | cons r1 r2 =>
      by_cases h : p.1 = k
      · refine .inl ⟨p.2, q.2, by simp [valM, List.find?_cons, h], ?_, r1⟩
        exact valV_pos (by rw [e.1]; exact h)
      · have ih := kvs_val (k := k) e.2 r2
        have e1 : valM (p :: kvs) k = valM kvs k := by simp [valM, List.find?_cons, h]
        have e2 : valV (q :: kv) k = valV kv k := valV_neg (by rw [e.1]; exact h)
        rw [e1, e2]
        exact ih
theorem kvs_put {ι : List Addr} {H : Hp} {k : Key} {w : MV} {v : V} (rw' : RW G ι H w v) {kvs : List (Key × MV)} {kv : List (Key × V)} (e : kv.map (·.1) = kvs.map (·.1)) (r : RWs G ι H (kvs.map (·.2)) (kv.map (·.2))) :
    (putK kv k v).map (·.1) = (putM kvs k w).map (·.1) ∧ RWs G ι H ((putM kvs k w).map (·.2)) ((putK kv k v).map (·.2)) := by
  have ha : ∀ {kvs : List (Key × MV)} {kv : List (Key × V)}, kv.map (·.1) = kvs.map (·.1) → (kvs.any fun x => decide (x.1 = k)) = (kv.any fun x => decide (x.1 = k)) := by
    intro kvs
    induction kvs with
    | nil => intro kv e; cases kv with
      | nil => rfl
      | cons p r => simp at e
    | cons p r ih => intro kv e; cases kv with
      | nil => simp at e
      | cons q t =>
        simp only [List.map_cons, List.cons.injEq] at e
        rw [List.any_cons, List.any_cons, ih e.2, e.1]
  have hm : ∀ {kvs : List (Key × MV)} {kv : List (Key × V)}, kv.map (·.1) = kvs.map (·.1) → RWs G ι H (kvs.map (·.2)) (kv.map (·.2)) →
      (kv.map fun x => if x.1 = k then (x.1, v) else x).map (·.1) = (kvs.map fun x => if x.1 = k then (x.1, w) else x).map (·.1) ∧ RWs G ι H ((kvs.map fun x => if x.1 = k then (x.1, w) else x).map (·.2)) ((kv.map fun x => if x.1 = k then (x.1, v) else x).map (·.2)) := by
    intro kvs
    induction kvs with
    | nil => intro kv e r; cases kv with
      | nil => exact ⟨rfl, .nil⟩
      | cons p r => simp at e
    | cons p l ih => intro kv e r; cases kv with
      | nil => simp at e
      | cons q t =>
        simp only [List.map_cons, List.cons.injEq] at e
        simp only [List.map_cons] at r
        cases r with
        | cons r1 r2 =>
          obtain ⟨i1, i2⟩ := ih e.2 r2
          simp only [List.map_cons]
          by_cases h : p.1 = k
          · have h' : q.1 = k := by rw [e.1]; exact h
            rw [if_pos h, if_pos h']
            exact ⟨by rw [i1, e.1], .cons rw' i2⟩
          · have h' : ¬ q.1 = k := by rw [e.1]; exact h
            rw [if_neg h, if_neg h']
            exact ⟨by rw [i1, e.1], .cons r1 i2⟩
  unfold putK putM
  rw [← ha e]
  by_cases h : (kvs.any fun kv => decide (kv.1 = k)) = true
  · rw [if_pos h, if_pos h]
    exact hm e r
  · rw [if_neg h, if_neg h]
    refine ⟨by simp [e], ?_⟩
    rw [List.map_append, List.map_append]
    exact r.append (.cons rw' .nil)
/-! ### a[b] -/
def fIx (w1 w2 : MV) (S : Store) : Res MV := match w1, w2 with
  | .tup l, .int i => match atI l i with
    | some w => .ok w S
    | none => .stuck
  | .str z, .int i => if z.length ≤ 100000 then match atI z.cps.toList i with
    | some c => .ok (.str ⟨#[c]⟩) S
    | none => .stuck
    else .stuck
  | .ref n, k => match S[n]? with
    | some (.dic kvs) => match keyM k with
      | some k => match valM kvs k with
        | some w => .ok w S
        | none => .stuck
      | none => .stuck
    | some (.lst l) => match k with
      | .int i => match atI l i with
        | some w => .ok w S
        | none => .stuck
      | _ => .stuck
    | some (.rol l) => match k with
      | .int i => match atI l i with
        | some w => .ok w S
        | none => .stuck
      | _ => .stuck
    | _ => .stuck
  | _, _ => .stuck
def rIxDic : R2 := fun x y H Q => ∃ a v, x = .ref a ∧ DGet H a y (some v) ∧ Q v H
theorem ix_dic (hu : X.A.units + 1 < cLine) : IxR X rIxDic := by
  intro value slice pins s σ H x y v u Q I rx ry h hs
  obtain ⟨a, z, rfl, g, q⟩ := h
  cases rx
  exact tail_any (dict_typeIs I g) PySem.F.slot_dict_getitem.lookup (d_getItem hu I g ry fun w' s' I' r => ⟨z, H, I', r, q⟩) hs
theorem atI_rws {ι : List Addr} {H : Hp} {l : List MV} {vs : List V} {i : Int} {w : MV} (r : RWs G ι H l vs) (e : atI l i = some w) : ∃ v, atI vs i = some v ∧ RW G ι H w v := by
  unfold atI at e ⊢
  rw [← r.length]
  cases h : ixN l.length i with
  | none => rw [h] at e; cases e
  | some j =>
    rw [h] at e
    exact r.get e
theorem w_ix : OpW G fIx (fun x y H Q => rIx G.K x y H Q ∨ rIxDic x y H Q) := fun ι H S E Q w1 w2 v1 v2 s r1 r2 h => by
  unfold fIx at h
  split at h
  · cases r1 with
    | tup t q =>
      cases r2
      split at h
      · rename_i w e
        obtain ⟨v, e2, r⟩ := atI_rws q e
        exact .inl (.inr (.inl ⟨_, _, _, _, rfl, rfl, t, e2, h ι H (.refl s) v r⟩))
      · exact h.elim
  · cases r1
    cases r2
    split at h
    · rename_i hz
      split at h
      · rename_i c e
        exact .inl (.inr (.inr ⟨_, _, _, rfl, rfl, big_ok hz, e, h ι H (.refl s) _ (.str _)⟩))
      · exact h.elim
    · exact h.elim
  · cases r1 with
    | ref i =>
      split at h
      · rename_i kvs hS
        obtain ⟨kv, g, q1, q2⟩ := s.obj _ _ _ hS i
        split at h
        · rename_i k ek
          have ev := key_ok r2 ek
          subst ev
          split at h
          · rename_i w ew
            rcases kvs_val (k := k) q1 q2 with ⟨w', v, h1, h2, h3⟩ | ⟨h1, _⟩
            · rw [ew] at h1
              cases h1
              refine .inr ⟨_, v, rfl, ?_, h ι H (.refl s) v h3⟩
              rw [← h2]
              exact .k g
            · rw [ew] at h1; cases h1
          · exact h.elim
        · exact h.elim
      · rename_i l hS
        obtain ⟨vs, g, q⟩ := s.obj _ _ _ hS i
        split at h
        · cases r2
          split at h
          · rename_i w e
            obtain ⟨v, e2, r⟩ := atI_rws q e
            exact .inl (.inl ⟨_, _, _, _, rfl, rfl, .of g, e2, h ι H (.refl s) v r⟩)
          · exact h.elim
        · exact h.elim
      · rename_i l hS
        obtain ⟨o, vs, g, q⟩ := s.obj _ _ _ hS i
        split at h
        · cases r2
          split at h
          · rename_i w e
            obtain ⟨v, e2, r⟩ := atI_rws q e
            exact .inl (.inl ⟨_, _, _, _, rfl, rfl, .inl (.inr ⟨o, g⟩), e2, h ι H (.refl s) v r⟩)
          · exact h.elim
        · exact h.elim
      · exact h.elim
  · exact h.elim
theorem de_ix (hK : X.K = G.K) (hu : X.A.units + 64 < cLine) (ha : DE X G W a da) (hb : DE X G W b db) (hs : PlainIx b := by exact fun _ _ => rfl) : DE X G W (.Subscript a b pos) (dBin fIx da db) :=
  ⟨PE.imp (pe_ix (IxR.or ix_seq (ix_dic (by omega))) ha.run hb.run hs) fun _ _ _ h => by rw [hK]; exact bin_imp w_ix h⟩
/-! ### a[i:j] -/
abbrev DenO := Env' → Store → Res (Option Int)
def tO (G : Gx) (W : WX) (d : DenO) : TO := fun σ H Q => ∃ ι S ρ, Sim G ι H S ∧ RE G ι H ρ σ ∧ fin G ι H (fun c x H' => W c x σ H') (fun k _ H' => Q k H') (d ρ S)
structure DO (X : Cx) (G : Gx) (W : WX) (e : Option Expr) (d : DenO) : Prop where
  run : PO X e (tO G W d)
theorem PO.imp {X : Cx} {e : Option Expr} {t t' : TO} (h : PO X e t) (k : ∀ σ H Q, t' σ H Q → t σ H Q) : PO X e t' := ⟨fun pins s σ H Q I q => h.run pins s σ H Q I (k σ H Q q)⟩
def oNone : DenO := fun _ S => .ok none S
def oSome (d : Den) : DenO := fun ρ S => (d ρ S).bind fun w S1 => match w with
  | .int i => .ok (some i) S1
  | _ => .stuck
theorem do_none : DO X G W none oNone := ⟨PO.imp po_none fun σ H Q h => by
  obtain ⟨ι, S, ρ, s, re, h⟩ := h
  exact h ι H (.refl s)⟩
theorem do_some (h : DE X G W a da) : DO X G W (some a) (oSome da) := ⟨PO.imp (po_some h.run) fun σ H Q h => by
  obtain ⟨ι, S, ρ, s, re, h⟩ := h
  refine ⟨ι, S, ρ, s, re, (fin.bind h).mono fun w ι1 H1 S1 p _ h1 v r => ?_⟩
  obtain ⟨S2, s2, _, _, _, h2⟩ := h1
  split at h2
  · cases r
    exact ⟨_, rfl, h2 ι1 H1 (.refl s2)⟩
  · exact h2.elim⟩
def cutM (xs : List MV) (lo hi : Option Int) : List MV := (xs.drop (HT.sIx xs.length 0 lo)).take (HT.sIx xs.length xs.length hi - HT.sIx xs.length 0 lo)
theorem cut_rws {ι : List Addr} {H : Hp} {l : List MV} {vs : List V} (r : RWs G ι H l vs) (lo hi : Option Int) : RWs G ι H (cutM l lo hi) (cutV vs lo hi) := by
  unfold cutM cutV
  rw [r.length]
  exact (r.drop _).take _
def fSl (w : MV) (lo hi : Option Int) (S : Store) : Res MV := match w with
  | .tup l => .ok (.tup (cutM l lo hi)) S
  | .str z => if z.length ≤ 100000 then .ok (.str (cutS z lo hi)) S else .stuck
  | .ref n => match S[n]? with
    | some (.lst l) => .ok (.ref S.length) (S ++ [.lst (cutM l lo hi)])
    | some (.rol l) => .ok (.ref S.length) (S ++ [.lst (cutM l lo hi)])
    | _ => .stuck
  | _ => .stuck
def dSl (d : Den) (l u : DenO) : Den := fun ρ S => (d ρ S).bind fun w S1 => (l ρ S1).bind fun i S2 => (u ρ S2).bind fun j S3 => fSl w i j S3
theorem cut_whole (xs : List MV) {lo hi : Option Int} (h1 : HT.sIx xs.length 0 lo = 0) (h2 : HT.sIx xs.length xs.length hi = xs.length) : cutM xs lo hi = xs := by
  unfold cutM
  rw [h1, h2]
  simp
theorem de_sl {lo hi : Option Expr} {dl du : DenO} {p2 : Pos} (hK : X.K = G.K) (ha : DE X G W a da) (hl : DO X G W lo dl) (hh : DO X G W hi du) : DE X G W (.Subscript a (.Slice lo hi none p2) pos) (dSl da dl du) := by
  refine ⟨PE.imp (pe_slice (SlR.or sl_list (SlR.or sl_tupA sl_str)) ha.run hl.run hh.run) fun σ H Q h => ?_⟩
  obtain ⟨ι, S, ρ, s, re, h⟩ := h
  refine ⟨ι, S, ρ, s, re, (fin.bind h).mono fun w ι1 H1 S1 p _ h1 v r => ?_⟩
  obtain ⟨S1, s1, _, re1, _, h1⟩ := h1
  have re1 := re1 _ _ re
  refine ⟨ι1, S1, ρ, s1, re1, (fin.bind h1).mono fun i ι2 H2 S2 p2 _ h2 => ?_⟩
  obtain ⟨S2, s2, m2, re2, _, h2⟩ := h2
  refine ⟨ι2, S2, ρ, s2, re2 _ _ re1, (fin.bind h2).mono fun j ι3 H3 S3 p3 _ h3 => ?_⟩
  obtain ⟨S3, s3, m3, re3, _, h3⟩ := h3
  have r := m3 _ _ (m2 _ _ r)
  rw [hK]
  unfold fSl at h3
  split at h3
  · cases r with
    | tup t q =>
      refine .inr (.inl ⟨_, _, rfl, t, fun c => ?_, fun c => ?_⟩)
      · rw [← q.length] at c
        rw [cut_whole _ c.1 c.2] at h3
        exact h3 ι3 H3 (.refl s3) _ (.tup t q)
      · exact new_tup s3 (cut_rws q i j) h3
  · cases r
    split at h3
    · rename_i hz
      exact .inr (.inr ⟨_, rfl, big_ok hz, h3 ι3 H3 (.refl s3) _ (.str _)⟩)
    · exact h3.elim
  · cases r with
    | ref k =>
      split at h3
      · rename_i l hS
        obtain ⟨vs, g, q⟩ := s3.obj _ _ _ hS k
        exact .inl ⟨_, _, rfl, .of g, new_lst s3 (cut_rws q i j) h3⟩
      · rename_i l hS
        obtain ⟨o, vs, g, q⟩ := s3.obj _ _ _ hS k
        exact .inl ⟨_, _, rfl, .inl (.inr ⟨o, g⟩), new_lst s3 (cut_rws q i j) h3⟩
      · exact h3.elim
  · exact h3.elim
/-- xs[::-1] of a list -/
def fRev (w : MV) (S : Store) : Res MV := match w with
  | .ref n => match S[n]? with
    | some (.lst l) => .ok (.ref S.length) (S ++ [.lst l.reverse])
    | some (.rol l) => .ok (.ref S.length) (S ++ [.lst l.reverse])
    | _ => .stuck
  | _ => .stuck
theorem rws_rev {ι : List Addr} {H : Hp} : ∀ {l : List MV} {vs : List V}, RWs G ι H l vs → RWs G ι H l.reverse vs.reverse
  | [], _, r => by cases r; exact .nil
  | w :: l, _, r => by
    cases r with
    | cons r1 r2 =>
      rw [List.reverse_cons, List.reverse_cons]
      exact (rws_rev r2).append (.cons r1 .nil)
theorem de_revL {k : Nat} {p1 p2 p3 : Pos} (hK : X.K = G.K) (ha : DE X G W a da) : DE X G W (.Subscript a (.Slice none none (some (.UnaryOp .USub (.Constant (.int 1) k p1) p2)) p3) pos) (dUn fRev da) := by
  refine ⟨PE.imp (pe_revL ha.run) fun σ H Q h => ?_⟩
  obtain ⟨ι, S, ρ, s, re, h⟩ := h
  refine ⟨ι, S, ρ, s, re, (fin.bind h).mono fun w ι1 H1 S1 p _ h1 v r => ?_⟩
  obtain ⟨S1, s1, _, re1, _, h1⟩ := h1
  rw [hK]
  unfold fRev at h1
  split at h1
  · cases r with
    | ref k =>
      split at h1
      · rename_i l hS
        obtain ⟨vs, g, q⟩ := s1.obj _ _ _ hS k
        exact ⟨_, _, rfl, .of g, new_lst s1 (rws_rev q) h1⟩
      · rename_i l hS
        obtain ⟨o, vs, g, q⟩ := s1.obj _ _ _ hS k
        exact ⟨_, _, rfl, .inl (.inr ⟨o, g⟩), new_lst s1 (rws_rev q) h1⟩
      · exact h1.elim
  · exact h1.elim
/-! ### argument lists, displays -/
def aNil : DenL := fun _ S => .ok [] S
def aCons (d : Den) (r : DenL) : DenL := fun ρ S => (d ρ S).bind fun w S1 => (r ρ S1).bind fun ws S2 => .ok (w :: ws) S2
variable {es : List Expr} {dr : DenL}
theorem da_nil : DA X G W [] aNil := ⟨PA.imp pa_nil fun σ H Q h => by
  obtain ⟨ι, S, ρ, s, re, h⟩ := h
  exact h ι H (.refl s) _ .nil⟩
theorem da_cons (ha : DE X G W a da) (hr : DA X G W es dr) (hs : starEach (a :: es) X.env = (false, eval a X.env) :: starEach es X.env := by rfl) : DA X G W (a :: es) (aCons da dr) := ⟨PA.imp (pa_cons ha.run hr.run hs) fun σ H Q h => by
  obtain ⟨ι, S, ρ, s, re, h⟩ := h
  refine ⟨ι, S, ρ, s, re, (fin.bind h).mono fun w ι1 H1 S1 p _ h1 v r => ?_⟩
  obtain ⟨S1, s1, m1, re1, _, h1⟩ := h1
  refine ⟨ι1, S1, ρ, s1, re1 _ _ re, (fin.bind h1).mono fun ws ι2 H2 S2 p2 _ h2 vs rs => ?_⟩
  obtain ⟨S2, s2, m2, _, _, h2⟩ := h2
  exact h2 ι2 H2 (.refl s2) _ (.cons (m2 _ _ r) rs)⟩
def dTup (r : DenL) : Den := fun ρ S => (r ρ S).bind fun ws S1 => if ws.length ≤ 100000 then .ok (.tup ws) S1 else .stuck
def dLst (r : DenL) : Den := fun ρ S => (r ρ S).bind fun ws S1 => if ws.length ≤ 100000 then .ok (.ref S1.length) (S1 ++ [.lst ws]) else .stuck
theorem de_tup {k} (h : DA X G W es dr) : DE X G W (.Tuple es k pos) (dTup dr) := ⟨PE.imp (pe_tup h.run) fun σ H Q h => by
  obtain ⟨ι, S, ρ, s, re, h⟩ := h
  refine ⟨ι, S, ρ, s, re, (fin.bind h).mono fun ws ι1 H1 S1 p _ h1 vs r => ?_⟩
  obtain ⟨S1, s1, _, _, _, h1⟩ := h1
  split at h1
  · rename_i hz
    exact ⟨by rw [← r.length]; exact big_ok hz, new_tup s1 r h1⟩
  · exact h1.elim⟩
theorem de_lst (h : DA X G W es dr) : DE X G W (.List es pos) (dLst dr) := ⟨PE.imp (pe_lst h.run) fun σ H Q h => by
  obtain ⟨ι, S, ρ, s, re, h⟩ := h
  refine ⟨ι, S, ρ, s, re, (fin.bind h).mono fun ws ι1 H1 S1 p _ h1 vs r => ?_⟩
  obtain ⟨S1, s1, _, _, _, h1⟩ := h1
  split at h1
  · rename_i hz
    exact ⟨by rw [← r.length]; exact big_ok hz, new_lst s1 r h1⟩
  · exact h1.elim⟩
/-- {} -/
def dDic0 : Den := fun _ S => .ok (.ref S.length) (S ++ [.dic []])
theorem de_dic0 : DE X G W (.Dict [] [] pos) dDic0 := ⟨PE.imp pe_dnewK fun σ H Q h => by
  obtain ⟨ι, S, ρ, s, re, h⟩ := h
  intro p hp
  have q := s.new hp (ho := .dK []) (mo := .dic []) ⟨[], upd_same, rfl, .nil⟩
  exact h _ _ q (.ref p) (.ref (by rw [← s.len]; simp))⟩
/-! ### built-ins called by their names -/
abbrev FnM := List MV → Store → Res MV
def dCall (f : FnM) (r : DenL) : Den := fun ρ S => (r ρ S).bind fun ws S1 => f ws S1
def ClW (G : Gx) (f : FnM) (r : List V → Hp → VK → Prop) : Prop := ∀ (ι : List Addr) (H : Hp) (S : Store) (E : Value → Option Addr → Hp → Prop) (Q : VK) (ws : List MV) (vs : List V), Sim G ι H S → RWs G ι H ws vs → fin G ι H E (PV G Q) (f ws S) → r vs H Q
theorem call_imp {f : FnM} {r : List V → Hp → VK → Prop} (hw : ClW G f r) {σ : L2.St} {H : Hp} {Q : VK} (h : tD G W (dCall f dr) σ H Q) : tCB r (tDs G W dr) σ H Q := by
  obtain ⟨ι, S, ρ, s, re, h⟩ := h
  refine ⟨ι, S, ρ, s, re, (fin.bind h).mono fun ws ι1 H1 S1 p _ h1 vs r => ?_⟩
  obtain ⟨S1, s1, _, _, _, h1⟩ := h1
  exact hw ι1 H1 S1 _ Q ws vs s1 r h1
theorem de_callB {id : String} {x : Str} {p : Pos} {f : FnM} {r : List V → Hp → VK → Prop} (hc : CallR X (.builtin id) r) (hw : ClW G f r) (hg : Gl X x) (hm : X.mg x = none) (hv : bootBuiltins x = some (.builtin id)) (ha : DA X G W (a :: es) dr) (hn : x ≠ "__name__" := by decide) (hdb : (x == ("__debug__" : Str)) = false := by decide)
    (he : starEach (a :: es) X.env = (false, eval a X.env) :: starEach es X.env := by rfl) (hpl : (backTo pos (starEach es X.env)).any (·.1) = false := by rfl) : DE X G W (.Call (.Name x p) (a :: es) [] pos) (dCall f dr) :=
  ⟨PE.imp (pe_callB hc hg hm hv ha.run hn hdb he hpl) fun _ _ _ h => call_imp hw h⟩
theorem de_callTy {T : String} {x : Str} {p : Pos} {f : FnM} {r : List V → Hp → VK → Prop} (hc : CallR X (.type T) r) (hw : ClW G f r) (hg : Gl X x) (hm : X.mg x = none) (hv : bootBuiltins x = some (.type T)) (ha : DA X G W (a :: es) dr) (hn : x ≠ "__name__" := by decide) (hdb : (x == ("__debug__" : Str)) = false := by decide)
    (he : starEach (a :: es) X.env = (false, eval a X.env) :: starEach es X.env := by rfl) (hpl : (backTo pos (starEach es X.env)).any (·.1) = false := by rfl) : DE X G W (.Call (.Name x p) (a :: es) [] pos) (dCall f dr) :=
  ⟨PE.imp (pe_callTy hc hg hm hv ha.run hn hdb he hpl) fun _ _ _ h => call_imp hw h⟩
theorem rws1 {ι : List Addr} {H : Hp} {w : MV} {vs : List V} (r : RWs G ι H [w] vs) : ∃ v, vs = [v] ∧ RW G ι H w v := by
  cases r with
  | cons r1 r2 => cases r2; exact ⟨_, rfl, r1⟩
theorem rws2 {ι : List Addr} {H : Hp} {w u : MV} {vs : List V} (r : RWs G ι H [w, u] vs) : ∃ v v2, vs = [v, v2] ∧ RW G ι H w v ∧ RW G ι H u v2 := by
  cases r with
  | cons r1 r2 =>
    obtain ⟨v, e, q⟩ := rws1 r2
    subst e
    exact ⟨_, _, rfl, r1, q⟩
def lenM (w : MV) (S : Store) : Option Nat := match w with
  | .str z => if z.length ≤ 100000 then some z.length else none
  | w => (itemsOf w S).map List.length
def fLen : FnM := fun ws S => match ws with
  | [w] => match lenM w S with
    | some n => .ok (.int n) S
    | none => .stuck
  | _ => .stuck
theorem w_len : ClW G fLen (fun xs H Q => ∃ x n, xs = [x] ∧ LenV G.K x H n ∧ Q (.int n) H) := fun ι H S E Q ws vs s r h => by
  unfold fLen at h
  split at h
  · rename_i w
    obtain ⟨v, rfl, r1⟩ := rws1 r
    split at h
    · rename_i n e
      refine ⟨v, n, rfl, ?_, h ι H (.refl s) _ (.int _)⟩
      unfold lenM at e
      split at e
      · cases r1
        split at e
        · rename_i hz
          cases e
          exact ⟨big_ok hz, rfl⟩
        · cases e
      · cases e2 : itemsOf w S with
        | none => rw [e2] at e; cases e
        | some l =>
          rw [e2] at e
          cases e
          obtain ⟨p, us, rfl, t, q⟩ := items_ok s r1 e2
          rcases t with t | t
          · exact .inl ⟨us, t, q.length⟩
          · exact .inr ⟨us, t, q.length⟩
    · exact h.elim
  · exact h.elim
def fIntOf : FnM := fun ws S => match ws with
  | [.int i] => .ok (.int i) S
  | [.bl k] => .ok (.int (if k then 1 else 0)) S
  | _ => .stuck
theorem w_intOf : ClW G fIntOf (fun xs H Q => (∃ i, xs = [.int i] ∧ Q (.int i) H) ∨ ∃ k, xs = [.bl k] ∧ Q (.int (if k then 1 else 0)) H) := fun ι H S E Q ws vs s r h => by
  unfold fIntOf at h
  split at h
  · obtain ⟨v, rfl, r1⟩ := rws1 r
    cases r1
    exact .inl ⟨_, rfl, h ι H (.refl s) _ (.int _)⟩
  · obtain ⟨v, rfl, r1⟩ := rws1 r
    cases r1
    exact .inr ⟨_, rfl, h ι H (.refl s) _ (.int _)⟩
  · exact h.elim
def fTupOf (w : MV) (S : Store) : Res MV := match itemsOf w S with
  | some l => .ok (.tup l) S
  | none => .stuck
def fLstOf : FnM := fun ws S => match ws with
  | [w] => match itemsOf w S with
    | some l => .ok (.ref S.length) (S ++ [.lst l])
    | none => .stuck
  | _ => .stuck
theorem w_lstOf : ClW G fLstOf (fun xs H Q => ∃ p ys, xs = [.ref p] ∧ (SqL G.K H p ys ∨ SqT G.K H p ys) ∧ ∀ l, H l = none → Q (.ref l) (upd H l (.lst ys))) := fun ι H S E Q ws vs s r h => by
  unfold fLstOf at h
  split at h
  · obtain ⟨v, rfl, r1⟩ := rws1 r
    split at h
    · rename_i l e
      obtain ⟨p, us, rfl, t, q⟩ := items_ok s r1 e
      exact ⟨p, us, rfl, t, new_lst s q h⟩
    · exact h.elim
  · exact h.elim
theorem de_tupOf {p : Pos} (hK : X.K = G.K) (hg : Gl X "tuple") (hm : X.mg "tuple" = none) (ha : DE X G W a da) (na : starEach [a] X.env = (false, eval a X.env) :: starEach [] X.env := by rfl) : DE X G W (.Call (.Name "tuple" p) [a] [] pos) (dUn fTupOf da) := by
  refine ⟨PE.imp (pe_tupleOf hg hm ha.run na) fun σ H Q h => ?_⟩
  obtain ⟨ι, S, ρ, s, re, h⟩ := h
  refine ⟨ι, S, ρ, s, re, (fin.bind h).mono fun w ι1 H1 S1 p _ h1 v r => ?_⟩
  obtain ⟨S1, s1, _, re1, _, h1⟩ := h1
  unfold fTupOf at h1
  split at h1
  · rename_i l e
    obtain ⟨a, us, rfl, t, q⟩ := items_ok s1 r e
    rw [hK]
    rcases t with t | t
    · exact .inl ⟨a, us, rfl, t, new_tup s1 q h1⟩
    · exact .inr ⟨a, us, rfl, t, h1 ι1 H1 (.refl s1) _ (.tup t q)⟩
  · exact h1.elim
theorem de_len {p : Pos} (hK : X.K = G.K) (hg : Gl X "len") (hm : X.mg "len" = none) (ha : DA X G W (a :: es) dr)
    (he : starEach (a :: es) X.env = (false, eval a X.env) :: starEach es X.env := by rfl) (hpl : (backTo pos (starEach es X.env)).any (·.1) = false := by rfl) : DE X G W (.Call (.Name "len" p) (a :: es) [] pos) (dCall fLen dr) :=
  de_callB call_len (by rw [hK]; exact w_len) hg hm PySem.boot_len ha (by decide) (by decide) he hpl
theorem de_intOf {p : Pos} (hg : Gl X "int") (hm : X.mg "int" = none) (ha : DA X G W (a :: es) dr)
    (he : starEach (a :: es) X.env = (false, eval a X.env) :: starEach es X.env := by rfl) (hpl : (backTo pos (starEach es X.env)).any (·.1) = false := by rfl) : DE X G W (.Call (.Name "int" p) (a :: es) [] pos) (dCall fIntOf dr) :=
  de_callTy call_int1 w_intOf hg hm (by decide +kernel) ha (by decide) (by decide) he hpl
theorem de_lstOf {p : Pos} (hK : X.K = G.K) (hg : Gl X "list") (hm : X.mg "list" = none) (ha : DA X G W (a :: es) dr)
    (he : starEach (a :: es) X.env = (false, eval a X.env) :: starEach es X.env := by rfl) (hpl : (backTo pos (starEach es X.env)).any (·.1) = false := by rfl) : DE X G W (.Call (.Name "list" p) (a :: es) [] pos) (dCall fLstOf dr) :=
  de_callTy call_list_of (by rw [hK]; exact w_lstOf) hg hm (by decide +kernel) ha (by decide) (by decide) he hpl
end
end MI

set_option Elab.async false
set_option linter.all false
set_option maxRecDepth 100000
namespace MI
open PySem PySem.Spec PyProof.Rows L2
/-! ### flows -/
inductive Fl where
  | next (ρ : Env') | ret (w : MV) | brk (ρ : Env') | cont (ρ : Env') | exc (c : Str) (fs : List (Str × MV)) (ρ : Env')
abbrev DenS := Env' → Store → Res Fl
def Res.bindS {α : Type} (r : Res α) (ρ : Env') (f : α → Store → Res Fl) : Res Fl :=
  match r with
  | .ok a S => f a S
  | .err c fs S => .ok (.exc c fs ρ) S
  | .stuck => .stuck
abbrev NoE : Value → Option Addr → Hp → Prop := fun _ _ _ => False
def want (G : Gx) (W : WX) (D : Ends) : Fl → List Addr → Hp → Prop
  | .next ρ, ι, H => ∀ σ, RE G ι H ρ σ → D.nx σ H
  | .ret w, ι, H => ∀ v, RW G ι H w v → D.rt v H
  | .brk ρ, ι, H => ∀ σ, RE G ι H ρ σ → D.bk σ H
  | .cont ρ, ι, H => ∀ σ, RE G ι H ρ σ → D.ct σ H
  | .exc c fs ρ, ι, H => ∀ σ cls d, RE G ι H ρ σ → RX G ι H c fs cls d → W cls d σ H
def tS (G : Gx) (W : WX) (d : DenS) : TS := fun D σ H => ∃ ι S ρ, Sim G ι H S ∧ RE G ι H ρ σ ∧ fin G ι H NoE (want G W D) (d ρ S)
structure DS (X : Cx) (G : Gx) (W : WX) (st : Stmt) (d : DenS) : Prop where
  run : PS X st (tS G W d)
structure DSs (X : Cx) (G : Gx) (W : WX) (st : List Stmt) (d : DenS) : Prop where
  run : PSs X st (tS G W d)
section
variable {α : Type} {G : Gx} {W : WX} {ι : List Addr} {H : Hp} {S : Store} {ρ : Env'} {σ : L2.St} {D : Ends}
/-- an expression within a statement -/
theorem fin.bindS {r : Res α} {k : α → Store → Res Fl} (re : RE G ι H ρ σ) (h : fin G ι H NoE (want G W D) (r.bindS ρ k)) :
    fin G ι H (fun c x H' => W c x σ H') (fun a ι1 H1 => ∃ S1, Sim G ι1 H1 S1 ∧ RE G ι1 H1 ρ σ ∧ (∀ w v, RW G ι H w v → RW G ι1 H1 w v) ∧ fin G ι1 H1 NoE (want G W D) (k a S1)) r := by
  cases r with
  | ok a S' => exact fun ι' H' p => ⟨S', p.sim, p.re re, fun w v q => p.rw q, fin.later p h⟩
  | err c fs S' => exact fun ι' H' cls d p q => h ι' H' p σ cls d (p.re re) q
  | stuck => exact h
end
section
variable {X : Cx} {G : Gx} {W : WX} {e a b c : Expr} {pos : Pos} {d da db : Den} {st : Stmt} {rest : List Stmt} {s1 s2 : DenS}
def sSeq (x y : DenS) : DenS := fun ρ S => match x ρ S with
  | .ok (.next ρ1) S1 => y ρ1 S1
  | r => r
def sNil : DenS := fun ρ S => .ok (.next ρ) S
theorem dss_nil : DSs X G W [] sNil := ⟨PSs.imp pss_nil fun D σ H h => by
  obtain ⟨ι, S, ρ, s, re, h⟩ := h
  exact h ι H (.refl s) σ re⟩
theorem dss_one (h : DS X G W st s1) : DSs X G W [st] s1 := ⟨pss_one h.run⟩
theorem dss_cons (h1 : DS X G W st s1) (h2 : DSs X G W rest s2) : DSs X G W (st :: rest) (sSeq s1 s2) := ⟨PSs.imp (pss_cons h1.run h2.run) fun D σ H h => by
  obtain ⟨ι, S, ρ, s, re, h⟩ := h
  refine ⟨ι, S, ρ, s, re, ?_⟩
  unfold sSeq at h
  cases r : s1 ρ S with
  | ok fl S' =>
    rw [r] at h
    cases fl with
    | next ρ1 => exact fun ι1 H1 p σ1 re1 => ⟨ι1, S', ρ1, p.sim, re1, fin.later p h⟩
    | ret w => exact fun ι1 H1 p => h ι1 H1 p
    | brk ρ1 => exact fun ι1 H1 p => h ι1 H1 p
    | cont ρ1 => exact fun ι1 H1 p => h ι1 H1 p
    | exc c fs ρ1 => exact fun ι1 H1 p => h ι1 H1 p
  | err c fs S' => rw [r] at h; exact h
  | stuck => rw [r] at h; exact h⟩
/-! ### small statements -/
def sPass : DenS := fun ρ S => .ok (.next ρ) S
def sBrk : DenS := fun ρ S => .ok (.brk ρ) S
def sCont : DenS := fun ρ S => .ok (.cont ρ) S
def sNever : DenS := fun _ _ => .stuck
theorem ds_pass : DS X G W (.Pass pos) sPass := ⟨PS.imp ps_pass fun D σ H h => by
  obtain ⟨ι, S, ρ, s, re, h⟩ := h
  exact h ι H (.refl s) σ re⟩
theorem ds_brk : DS X G W (.Break pos) sBrk := ⟨PS.imp ps_break fun D σ H h => by
  obtain ⟨ι, S, ρ, s, re, h⟩ := h
  exact h ι H (.refl s) σ re⟩
theorem ds_cont : DS X G W (.Continue pos) sCont := ⟨PS.imp ps_continue fun D σ H h => by
  obtain ⟨ι, S, ρ, s, re, h⟩ := h
  exact h ι H (.refl s) σ re⟩
/-- code that is never come to -/
theorem ds_never : DS X G W st sNever := ⟨PS.imp ps_never fun D σ H h => by
  obtain ⟨ι, S, ρ, s, re, h⟩ := h
  exact h.elim⟩
def sExpr (d : Den) : DenS := fun ρ S => (d ρ S).bindS ρ fun _ S1 => .ok (.next ρ) S1
theorem ds_expr (ha : DE X G W a da) (hs : swapsWith a none pos.line X.env = pure false := by rfl) : DS X G W (.Expr a pos) (sExpr da) := ⟨PS.imp (ps_expr ha.run hs) fun D σ H h => by
  obtain ⟨ι, S, ρ, s, re, h⟩ := h
  refine ⟨ι, S, ρ, s, re, (fin.bindS re h).mono fun w ι1 H1 S1 p _ h1 v r => ?_⟩
  obtain ⟨S1, s1, re1, _, h1⟩ := h1
  exact h1 ι1 H1 (.refl s1) σ re1⟩
def sRet (d : Den) : DenS := fun ρ S => (d ρ S).bindS ρ fun w S1 => .ok (.ret w) S1
theorem ds_ret (ha : DE X G W a da) : DS X G W (.Return (some a) pos) (sRet da) := ⟨PS.imp (ps_ret ha.run) fun D σ H h => by
  obtain ⟨ι, S, ρ, s, re, h⟩ := h
  refine ⟨ι, S, ρ, s, re, (fin.bindS re h).mono fun w ι1 H1 S1 p _ h1 v r => ?_⟩
  obtain ⟨S1, s1, re1, _, h1⟩ := h1
  exact h1 ι1 H1 (.refl s1) v r⟩
def sRetN : DenS := fun _ S => .ok (.ret .non) S
theorem ds_retN : DS X G W (.Return none pos) sRetN := ⟨PS.imp ps_retN fun D σ H h => by
  obtain ⟨ι, S, ρ, s, re, h⟩ := h
  exact h ι H (.refl s) _ .non⟩
def sIf (t : DenB) (x y : DenS) : DenS := fun ρ S => (t ρ S).bindS ρ fun k S1 => if k = true then x ρ S1 else y ρ S1
variable {p q : List Stmt} {dt : DenB}
theorem ds_if (hc : DT X G W c dt) (ha : DSs X G W p s1) (hb : DSs X G W q s2) : DS X G W (.If c p q pos) (sIf dt s1 s2) := ⟨PS.imp (ps_if hc.run ha.run hb.run) fun D σ H h => by
  obtain ⟨ι, S, ρ, s, re, h⟩ := h
  refine ⟨ι, S, ρ, s, re, (fin.bindS re h).mono fun k ι1 H1 S1 p _ h1 => ?_⟩
  obtain ⟨S1, s1, re1, _, h1⟩ := h1
  cases k with
  | true => exact ⟨ι1, S1, ρ, s1, re1, h1⟩
  | false => exact ⟨ι1, S1, ρ, s1, re1, h1⟩⟩
/-! ### targets: vs are the slots that it stores -/
abbrev DenG := MV → Env' → Store → Res Env'
def tG (G : Gx) (vs : List Nat) (g : DenG) : TG := fun v σ H Q => ∃ ι S ρ w, Sim G ι H S ∧ RE G ι H ρ σ ∧ RW G ι H w v ∧
  fin G ι H NoE (fun ρ' ι' H' => ∀ σ', RE G ι' H' ρ' σ' → (∀ j, j ∉ vs → σ'[j]? = σ[j]?) → σ'.length = σ.length → Q σ' H') (g w ρ S)
structure DG (X : Cx) (G : Gx) (e : Expr) (vs : List Nat) (g : DenG) : Prop where
  run : PG X e (tG G vs g)
theorem PG.imp {X : Cx} {e : Expr} {t t' : TG} (h : PG X e t) (k : ∀ v σ H Q, t' v σ H Q → t v σ H Q) : PG X e t' := ⟨fun pins s σ H v u Q I r q => h.run pins s σ H v u Q I r (k v σ H Q q)⟩
def gN (i : Nat) : DenG := fun w ρ S => .ok (ρ.set i (some w)) S
theorem dg_name (i : Nat) {x : Str} (hN : X.N.Nodup) (hi : X.N[i]? = some x := by rfl) (hx : Loc X.env.scope x := by first | exact Or.inl rfl | exact Or.inr rfl) (hf : X.fn x = true ∨ X.env.scope.names.lookup x = some .local := by first | exact .inl rfl | exact .inr rfl) : DG X G (.Name x pos) [i] (gN i) := by
  refine ⟨PG.imp (pg_name (i := i) hN hi hx hf) fun v σ H Q h => ?_⟩
  obtain ⟨ι, S, ρ, w, s, re, r, h⟩ := h
  refine h ι H (.refl s) _ (re.set r i) (fun j hj => ?_) (by simp)
  rw [List.getElem?_set_ne (by intro z; exact hj (by simp [z]))]
/-- several targets -/
abbrev DenGs := List MV → Env' → Store → Res Env'
def tGs (G : Gx) (vs : List Nat) (g : DenGs) : TGs := fun v σ H Q => ∃ ι S ρ w, Sim G ι H S ∧ RE G ι H ρ σ ∧ RWs G ι H w v ∧
  fin G ι H NoE (fun ρ' ι' H' => ∀ σ', RE G ι' H' ρ' σ' → (∀ j, j ∉ vs → σ'[j]? = σ[j]?) → σ'.length = σ.length → Q σ' H') (g w ρ S)
structure DGs (X : Cx) (G : Gx) (es : List Expr) (vs : List Nat) (g : DenGs) : Prop where
  run : PGs X es (tGs G vs g)
theorem PGs.imp {X : Cx} {e : List Expr} {t t' : TGs} (h : PGs X e t) (k : ∀ v σ H Q, t' v σ H Q → t v σ H Q) : PGs X e t' := ⟨fun pins s σ H v u Q I r q => h.run pins s σ H v u Q I r (k v σ H Q q)⟩
def gsNil : DenGs := fun ws ρ S => match ws with
  | [] => .ok ρ S
  | _ => .stuck
def gsCons (g : DenG) (r : DenGs) : DenGs := fun ws ρ S => match ws with
  | w :: ws => match g w ρ S with
    | .ok ρ1 S1 => r ws ρ1 S1
    | _ => .stuck
  | [] => .stuck
theorem dgs_nil : DGs X G [] [] gsNil := ⟨PGs.imp pgs_nil fun v σ H Q h => by
  obtain ⟨ι, S, ρ, w, s, re, r, h⟩ := h
  unfold gsNil at h
  split at h
  · cases r
    exact ⟨rfl, h ι H (.refl s) σ re (fun _ _ => rfl) rfl⟩
  · exact h.elim⟩
theorem RWs.later {ι ι' : List Addr} {H H' : Hp} {S' : Store} {ws : List MV} {vs : List V} (p : Post G ι H ι' H' S') (r : RWs G ι H ws vs) : RWs G ι' H' ws vs := p.rws r
theorem dgs_cons {es : List Expr} {vs us : List Nat} {g : DenG} {r : DenGs} (h1 : DG X G e vs g) (h2 : DGs X G es us r) (hs : (assignEach (e :: es) X.env).map (·.2) = assign e X.env :: (assignEach es X.env).map (·.2) := by rfl) : DGs X G (e :: es) (vs ++ us) (gsCons g r) := ⟨PGs.imp (pgs_cons h1.run h2.run hs) fun v σ H Q h => by
  obtain ⟨ι, S, ρ, w, s, re, rw', h⟩ := h
  unfold gsCons at h
  split at h
  · rename_i w ws
    cases rw' with
    | cons r1 r2 =>
      refine ⟨_, _, rfl, ι, S, ρ, w, s, re, r1, ?_⟩
      cases e2 : g w ρ S with
      | ok ρ1 S1 =>
        rw [e2] at h
        refine fun ι1 H1 p σ1 re1 hv hl => ⟨ι1, S1, ρ1, ws, p.sim, re1, p.rws r2, (fin.later p h).mono fun ρ2 ι2 H2 S2 p2 _ h2 σ2 re2 hv2 hl2 => ?_⟩
        refine h2 σ2 re2 (fun j hj => ?_) (hl2.trans hl)
        rw [List.mem_append, not_or] at hj
        exact (hv2 j hj.2).trans (hv j hj.1)
      | err c fs S1 => rw [e2] at h; exact h.elim
      | stuck => rw [e2] at h; exact h.elim
  · exact h.elim⟩
def gT (r : DenGs) : DenG := fun w ρ S => match w with
  | .tup l => r l ρ S
  | _ => .stuck
theorem dg_tup {es : List Expr} {k : Nat} {vs : List Nat} {r : DenGs} {n : Nat} (hK : X.K = G.K) (hc : X.calm = true) (h : DGs X G es vs r) (hl : ∀ l ρ S, r l ρ S ≠ .stuck → l.length = n)
    (hn : (assignEach es X.env).length = n := by rfl) (hst : (assignEach es X.env).findIdx? (·.1) = none := by rfl) : DG X G (.Tuple es k pos) vs (gT r) := by
  refine ⟨PG.imp (pg_tup hc h.run hn hst) fun v σ H Q h => ?_⟩
  obtain ⟨ι, S, ρ, w, s, re, rw', h⟩ := h
  unfold gT at h
  split at h
  · rename_i l
    cases rw' with
    | tup t q =>
      refine ⟨_, _, rfl, by rw [hK]; exact t, ?_, ι, S, ρ, l, s, re, q, h⟩
      rw [← q.length]
      exact hl l ρ S fun z => by rw [z] at h; exact h
  · exact h.elim
theorem gs_len0 : ∀ l ρ S, gsNil l ρ S ≠ .stuck → l.length = 0 := fun l ρ S h => by
  cases l with
  | nil => rfl
  | cons a l => exact absurd rfl h
theorem gs_len {g : DenG} {r : DenGs} {n : Nat} (hr : ∀ l ρ S, r l ρ S ≠ .stuck → l.length = n) : ∀ l ρ S, gsCons g r l ρ S ≠ .stuck → l.length = n + 1 := fun l ρ S h => by
  cases l with
  | nil => exact absurd rfl h
  | cons w l =>
    unfold gsCons at h
    dsimp only at h
    cases e : g w ρ S with
    | ok ρ1 S1 =>
      rw [e] at h
      rw [List.length_cons, hr l ρ1 S1 h]
    | err c fs S1 => rw [e] at h; exact absurd rfl h
    | stuck => rw [e] at h; exact absurd rfl h
/-- o[i] = .. -/
def fSet (o i w : MV) (S : Store) : Option Store := match o with
  | .ref n => match S[n]?, i with
    | some (.lst l), .int k => match ixN l.length k with
      | some j => some (S.set n (.lst (l.set j w)))
      | none => none
    | some (.dic kvs), i => match keyM i with
      | some k => if kvs.length ≤ 100000 then some (S.set n (.dic (putM kvs k w))) else none
      | none => none
    | _, _ => none
  | _ => none
def gS (o i : Den) : DenG := fun w ρ S => match o ρ S with
  | .ok ov S1 => match i ρ S1 with
    | .ok iv S2 => match fSet ov iv w S2 with
      | some S3 => .ok ρ S3
      | none => .stuck
    | _ => .stuck
  | _ => .stuck
theorem PSet.or {t t' : TSet} (h : PSet X t) (h' : PSet X t') : PSet X (fun o i v H Q => t o i v H Q ∨ t' o i v H Q) := fun pins s σ H o i v ov iv u Q I ro ri rv q => by
  rcases q with q | q
  · exact h pins s σ H o i v ov iv u Q I ro ri rv q
  · exact h' pins s σ H o i v ov iv u Q I ro ri rv q
theorem set_dic (hu : X.A.units + 1 < cLine) : PSet X (fun o i v H Q => ∃ a H4, o = .ref a ∧ DPut H a i v H4 ∧ Q H4) := fun pins s σ H o i v ov iv u Q I ro ri rv q => by
  obtain ⟨a, H4, rfl, g, q⟩ := q
  cases ro
  exact d_setItem hu I g ri rv fun s4 I4 => ⟨H4, I4, q⟩
theorem set_w {ι : List Addr} {H : Hp} {S S3 : Store} {w1 w2 w3 : MV} {v1 v2 v3 : V} {Q : Hp → Prop} (s : Sim G ι H S) (r1 : RW G ι H w1 v1) (r2 : RW G ι H w2 v2) (r3 : RW G ι H w3 v3) (e : fSet w1 w2 w3 S = some S3) (h : ∀ H', Post G ι H ι H' S3 → Q H') :
    rSetL v1 v2 v3 H Q ∨ ∃ a H4, v1 = .ref a ∧ DPut H a v2 v3 H4 ∧ Q H4 := by
  unfold fSet at e
  split at e
  · cases r1 with
    | ref i =>
      split at e
      · rename_i l k hS
        obtain ⟨vs, g, q⟩ := s.obj _ _ _ hS i
        cases r2
        split at e
        · rename_i j hj
          cases e
          refine .inl ⟨_, _, _, _, rfl, rfl, g, by rw [← q.length]; exact hj, h _ (s.write i g (fun _ z => by cases z) (fun _ _ z => by cases z) ?_)⟩
          have t := sqT_upd (K := G.K) (ho := .lst (vs.set j v3)) (noTup_of g (fun _ z => by cases z) (fun _ _ z => by cases z))
          exact ⟨_, upd_same, (RWs.set r3 j q).mono (fun _ _ e => e) t⟩
        · cases e
      · rename_i kvs hS
        obtain ⟨kv, g, q1, q2⟩ := s.obj _ _ _ hS i
        split at e
        · rename_i k hk
          split at e
          · rename_i hz
            cases e
            have ev := key_ok r2 hk
            subst ev
            have hl : kv.length = kvs.length := by
              have := congrArg List.length q1
              simpa using this
            refine .inr ⟨_, _, rfl, .k g (by rw [hl]; exact Nat.lt_of_le_of_lt hz (by rw [sizeLine_eq]; decide)), h _ (s.write i g (fun _ z => by cases z) (fun _ _ z => by cases z) ?_)⟩
            have t := sqT_upd (K := G.K) (ho := .dK (putK kv k v3)) (noTup_of g (fun _ z => by cases z) (fun _ _ z => by cases z))
            obtain ⟨p1, p2⟩ := kvs_put (k := k) r3 q1 q2
            exact ⟨_, upd_same, p1, p2.mono (fun _ _ e => e) t⟩
          · cases e
        · cases e
      · cases e
  · cases e
theorem dg_sub {o i : Expr} {dO dI : Den} (hu : X.A.units + 64 < cLine) (ho : DE X G W o dO) (hi : DE X G W i dI)
    (ha : ∀ v, assign (.Subscript o i pos) X.env v = (do
      let ov ← holding [v] (eval o X.env)
      let iv ← holding [v, ov] (eval i X.env)
      standAt pos
      holding [v, ov, iv] (setItem ov iv v)
      release [v, ov, iv] []) := by intro _; rfl) : DG X G (.Subscript o i pos) [] (gS dO dI) := by
  refine ⟨PG.imp (pg_sub ho.run hi.run (PSet.or set_list (set_dic (by omega))) ha) fun v σ H Q h => ?_⟩
  obtain ⟨ι, S, ρ, w, s, re, r, h⟩ := h
  refine ⟨ι, S, ρ, s, re, ?_⟩
  unfold gS at h
  cases e1 : dO ρ S with
  | ok ov S1 =>
    rw [e1] at h
    dsimp only at h
    refine fun ι1 H1 p1 v1 r1 => ⟨ι1, S1, ρ, p1.sim, p1.re re, ?_⟩
    cases e2 : dI ρ S1 with
    | ok iv S2 =>
      rw [e2] at h
      dsimp only at h
      refine fun ι2 H2 p2 v2 r2 => ?_
      cases e3 : fSet ov iv w S2 with
      | some S3 =>
        rw [e3] at h
        refine set_w p2.sim (p2.rw r1) r2 (p2.rw (p1.rw r)) e3 fun H' p3 => ?_
        have pp := (p1.trans p2).trans p3
        exact h ι2 H' pp σ (pp.re re) (fun _ _ => rfl) rfl
      | none => rw [e3] at h; exact h.elim
    | err c fs S2 => rw [e2] at h; exact h.elim
    | stuck => rw [e2] at h; exact h.elim
  | err c fs S1 => rw [e1] at h; exact h.elim
  | stuck => rw [e1] at h; exact h.elim
/-- target = value -/
def sAsg (d : Den) (g : DenG) : DenS := fun ρ S => (d ρ S).bindS ρ fun w S1 => match g w ρ S1 with
  | .ok ρ1 S2 => .ok (.next ρ1) S2
  | _ => .stuck
theorem asg_imp {tg : Expr} {vs : List Nat} {g : DenG} {D : Ends} {σ : L2.St} {H : Hp} (h : tS G W (sAsg da g) D σ H) : tAsg (tD G W da) (tG G vs g) D σ H := by
  obtain ⟨ι, S, ρ, s, re, h⟩ := h
  refine ⟨ι, S, ρ, s, re, (fin.bindS re h).mono fun w ι1 H1 S1 p _ h1 v r => ?_⟩
  obtain ⟨S1, s1, re1, _, h1⟩ := h1
  refine ⟨ι1, S1, ρ, w, s1, re1, r, ?_⟩
  cases e : g w ρ S1 with
  | ok ρ1 S2 =>
    rw [e] at h1
    exact fun ι2 H2 p2 σ2 re2 _ _ => h1 ι2 H2 p2 σ2 re2
  | err c fs S2 => rw [e] at h1; exact h1.elim
  | stuck => rw [e] at h1; exact h1.elim
theorem ds_asg {tg : Expr} {vs : List Nat} {g : DenG} (ha : DE X G W a da) (hg : DG X G tg vs g) (hs : swapsWithSole [tg] a pos.line X.env = pure false := by rfl) (hw : swappedStores [tg] a X.env = pure none := by rfl)
    (h1 : (assignEach [tg] X.env).map (·.2) = [assign tg X.env] := by rfl) : DS X G W (.Assign [tg] a pos) (sAsg da g) := ⟨PS.imp (ps_asg ha.run hg.run hs hw h1) fun D σ H h => asg_imp (tg := tg) h⟩
theorem ds_set (i : Nat) {x : Str} {pos' : Pos} (hN : X.N.Nodup) (ha : DE X G W a da) (hi : X.N[i]? = some x := by rfl) (hx : Loc X.env.scope x := by first | exact Or.inl rfl | exact Or.inr rfl) (hs : swapsWith a (some (.Name x pos')) pos.line X.env = pure false := by rfl)
    (hf : X.fn x = true ∨ X.env.scope.names.lookup x = some .local := by first | exact .inl rfl | exact .inr rfl) : DS X G W (.Assign [.Name x pos'] a pos) (sAsg da (gN i)) := ⟨PS.imp (ps_set (i := i) hN hi hx ha.run hs hf) fun D σ H h => by
  obtain ⟨ι, S, ρ, s, re, h⟩ := h
  refine ⟨ι, S, ρ, s, re, (fin.bindS re h).mono fun w ι1 H1 S1 p _ h1 v r => ?_⟩
  obtain ⟨S1, s1, re1, _, h1⟩ := h1
  exact h1 ι1 H1 (.refl s1) _ (re1.set r i)⟩
/-- a, b = x, y -/
def sPar (i j : Nat) (da : DenL) : DenS := fun ρ S => (da ρ S).bindS ρ fun ws S1 => match ws with
  | [x, y] => .ok (.next ((ρ.set i (some x)).set j (some y))) S1
  | _ => .stuck
--PAR
end
end MI

set_option Elab.async false
set_option linter.all false
set_option maxRecDepth 100000
namespace MI
open PySem PySem.Spec PyProof.Rows L2
section
variable {X : Cx} {G : Gx} {W : WX} {e a b c : Expr} {pos : Pos} {d da db : Den} {dr : DenL}
theorem ds_par {i j : Nat} {x y : Str} {px py pt : Pos} {kt k2 pt2} (hc : X.calm = true) (hN : X.N.Nodup) (hi : X.N[i]? = some x) (hj : X.N[j]? = some y) (hij : i ≠ j) (hx : X.env.scope.names.lookup x = some .local) (hy : X.env.scope.names.lookup y = some .local)
    (ha : DA X G W [a, b] dr) (hw : swappedStores [.Tuple [.Name x px, .Name y py] kt pt] (.Tuple [a, b] k2 pt2) X.env = pure (some [x, y]))
    (hs : swapsWithSole [.Tuple [.Name x px, .Name y py] kt pt] (.Tuple [a, b] k2 pt2) pos.line X.env = pure false := by rfl) : DS X G W (.Assign [.Tuple [.Name x px, .Name y py] kt pt] (.Tuple [a, b] k2 pt2) pos) (sPar i j dr) := ⟨PS.imp (ps_par hc hN hi hj hij hx hy ha.run hw hs) fun D σ H h => by
  obtain ⟨ι, S, ρ, s, re, h⟩ := h
  refine ⟨ι, S, ρ, s, re, (fin.bindS re h).mono fun ws ι1 H1 S1 p _ h1 vs r => ?_⟩
  obtain ⟨S1, s1, re1, _, h1⟩ := h1
  split at h1
  · obtain ⟨v1, v2, rfl, r1, r2⟩ := rws2 r
    exact ⟨v1, v2, rfl, h1 ι1 H1 (.refl s1) _ ((re1.set r1 i).set r2 j)⟩
  · exact h1.elim⟩
def sPar3 (i j l : Nat) (da : DenL) : DenS := fun ρ S => (da ρ S).bindS ρ fun ws S1 => match ws with
  | [x, y, z] => .ok (.next (((ρ.set i (some x)).set j (some y)).set l (some z))) S1
  | _ => .stuck
theorem ds_par3 {i j l : Nat} {x y z : Str} {px py pz pt : Pos} {kt k2 pt2} (hc : X.calm = true) (hN : X.N.Nodup) (hi : X.N[i]? = some x) (hj : X.N[j]? = some y) (hl : X.N[l]? = some z) (hij : i ≠ j) (hil : i ≠ l) (hjl : j ≠ l)
    (hx : X.env.scope.names.lookup x = some .local) (hy : X.env.scope.names.lookup y = some .local) (hz : X.env.scope.names.lookup z = some .local)
    (ha : DA X G W [a, b, c] dr) (hw : swappedStores [.Tuple [.Name x px, .Name y py, .Name z pz] kt pt] (.Tuple [a, b, c] k2 pt2) X.env = pure (some [x, y, z]))
    (hs : swapsWithSole [.Tuple [.Name x px, .Name y py, .Name z pz] kt pt] (.Tuple [a, b, c] k2 pt2) pos.line X.env = pure false := by rfl) : DS X G W (.Assign [.Tuple [.Name x px, .Name y py, .Name z pz] kt pt] (.Tuple [a, b, c] k2 pt2) pos) (sPar3 i j l dr) := ⟨PS.imp (ps_par3 hc hN hi hj hl hij hil hjl hx hy hz ha.run hw hs) fun D σ H h => by
  obtain ⟨ι, S, ρ, s, re, h⟩ := h
  refine ⟨ι, S, ρ, s, re, (fin.bindS re h).mono fun ws ι1 H1 S1 p _ h1 vs r => ?_⟩
  obtain ⟨S1, s1, re1, _, h1⟩ := h1
  split at h1
  · cases r with
    | cons r1 r2 =>
      obtain ⟨v1, v2, rfl, r2, r3⟩ := rws2 r2
      exact ⟨_, v1, v2, rfl, h1 ι1 H1 (.refl s1) _ (((re1.set r1 i).set r2 j).set r3 l)⟩
  · exact h1.elim⟩
/-! ### what a loop walks -/
inductive Nx where
  | yield (w : MV) | stop | stuck
abbrev Src := Nat → Store → Nx
/-- the turns of J are those of nx, at all times behind (ι, H) -/
def ItOk (G : Gx) (ι : List Addr) (H : Hp) (J : It) (nx : Src) : Prop := ∀ (i : Nat) (ι1 : List Addr) (H1 : Hp) (S1 : Store), Post G ι H ι1 H1 S1 → match nx i S1 with
  | .yield w => J.go i H1 ∧ ∀ x H', J.yld i H1 x H' → Post G ι1 H1 ι1 H' S1 ∧ RW G ι1 H' w x
  | .stop => J.stop i H1
  | .stuck => True
theorem ItOk.later {ι ι1 : List Addr} {H H1 : Hp} {S1 : Store} {J : It} {nx : Src} (k : ItOk G ι H J nx) (p : Post G ι H ι1 H1 S1) : ItOk G ι1 H1 J nx := fun i ι2 H2 S2 p2 => k i ι2 H2 S2 (p.trans p2)
abbrev DenI := Env' → Store → Res Src
def tI (G : Gx) (W : WX) (d : DenI) : TI := fun σ H R => ∃ ι S ρ, Sim G ι H S ∧ RE G ι H ρ σ ∧ fin G ι H (fun c x H' => W c x σ H') (fun nx ι' H' => ∀ J, ItOk G ι' H' J nx → R J H') (d ρ S)
structure DI (X : Cx) (G : Gx) (W : WX) (tg : Expr) (e : Expr) (d : DenI) : Prop where
  run : PI X tg e (tI G W d)
theorem PI.imp {X : Cx} {tg e : Expr} {t t' : TI} (h : PI X tg e t) (k : ∀ σ H Q, t' σ H Q → t σ H Q) : PI X tg e t' := ⟨fun pins s σ H Q I q => h.run pins s σ H Q I (k σ H Q q)⟩
def srcL (l : List MV) : Src := fun i _ => match l[i]? with
  | some w => .yield w
  | none => .stop
def srcRef (n : Nat) : Src := fun i S => match S[n]? with
  | some (.lst l) => (match l[i]? with
    | some w => .yield w
    | none => .stop)
  | some (.rol l) => (match l[i]? with
    | some w => .yield w
    | none => .stop)
  | _ => .stuck
def srcStr (z : Str) : Src := fun i _ => match z.cps[i]? with
  | some c => .yield (.str ⟨#[c]⟩)
  | none => .stop
def srcRng (lo hi : Int) : Src := fun i _ => if i < (hi - lo).toNat then .yield (.int (lo + i)) else .stop
/-- a list, a tuple or a text -/
def iAny (K : PySem.W.Frag) (tl : TE) : TI := fun σ H R => tl σ H fun x H1 => (∃ a xs, x = .ref a ∧ SqL K H1 a xs ∧ R (Itl K a) H1) ∨ (∃ a xs, x = .ref a ∧ SqT K H1 a xs ∧ R (Itt K a) H1) ∨ ∃ z, x = .str z ∧ R (Its z) H1
theorem pi_any {tg l : Expr} {tl : TE} (hl : PE X l tl) : PI X tg l (iAny X.K tl) := by
  constructor
  intro pins s σ H R I h
  refine thn (hl.run pins s σ H _ I h) fun v s1 q1 => ?_
  obtain ⟨x, H1, I1, r1, q1⟩ := q1
  rcases q1 with ⟨a, xs, rfl, hq, q⟩ | ⟨a, xs, rfl, hq, q⟩ | ⟨z, rfl, q⟩
  · cases r1
    obtain ⟨its, _, pl, _⟩ := I1.list hq
    refine wpAny_pyIter_list pl.isList ?_
    refine ⟨_, [s1.heap.objs.size], _, _, H1, rfl, I1.kept (t' := s1.toks) (fun b o e => Heap.get?_push_of_some _ e), turn_list a _, ⟨_, Heap.get?_push_size _ rfl, rfl, rfl⟩, ?_, q⟩
    intro b hb
    rw [List.mem_singleton] at hb
    rw [hb]
    exact I1.fpOk (Nat.le_refl _) (I1.hok.fresh (Nat.le_refl _))
  · cases r1
    obtain ⟨its, _, pl, _⟩ := I1.tuple hq
    refine wpAny_pyIter_tuple (show s1.heap.IsTuple a its.toArray from pl) ?_
    refine ⟨_, [s1.heap.objs.size], _, _, H1, rfl, I1.kept (t' := s1.toks) (fun b o e => Heap.get?_push_of_some _ e), turn_tuple a _, ⟨_, Heap.get?_push_size _ rfl, rfl, rfl⟩, ?_, q⟩
    intro b hb
    rw [List.mem_singleton] at hb
    rw [hb]
    exact I1.fpOk (Nat.le_refl _) (I1.hok.fresh (Nat.le_refl _))
  · obtain ⟨t, rfl⟩ := r1
    by_cases ha : z.cps.all (· < 128) = true
    · exact wpAny_pyIter_ascii ha (pi_one (tk := s1.toks) I1 _ (turn_str _ z t "str_ascii_iterator" (.inl rfl)) ⟨_, Heap.get?_push_size _ rfl, rfl, rfl⟩ q)
    · have ha' : z.cps.all (· < 128) = false := by simpa using ha
      exact wpAny_pyIter_wide ha' (pi_one (tk := s1.toks) I1 _ (turn_str _ z t "str_iterator" (.inr rfl)) ⟨_, Heap.get?_push_size _ rfl, rfl, rfl⟩ q)
def srcOf (w : MV) (S : Store) : Res Src := match w with
  | .tup l => .ok (srcL l) S
  | .str z => .ok (srcStr z) S
  | .ref n => match S[n]? with
    | some (.lst _) => .ok (srcRef n) S
    | some (.rol _) => .ok (srcRef n) S
    | _ => .stuck
  | _ => .stuck
def iAnyD (d : Den) : DenI := fun ρ S => (d ρ S).bind srcOf
theorem it_tup {K : PySem.W.Frag} (hK : K = G.K) {ι : List Addr} {H : Hp} {a : Addr} {vs : List V} {l : List MV} (t : SqT K H a vs) (q : RWs G ι H l vs) : ItOk G ι H (Itt K a) (srcL l) := fun i ι1 H1 S1 p => by
  subst hK
  have t1 := p.tup _ _ t
  have q1 := p.rws q
  unfold srcL
  cases e : l[i]? with
  | some w =>
    obtain ⟨v, e2, r⟩ := q1.get e
    refine ⟨⟨vs, v, t1, e2⟩, fun x H' y => ?_⟩
    obtain ⟨rfl, y⟩ := y
    have := y vs t1
    rw [e2] at this
    cases this
    exact ⟨.refl p.sim, r⟩
  | none =>
    refine ⟨vs, t1, ?_⟩
    rw [← q1.length]
    exact List.getElem?_eq_none_iff.mp e
theorem it_lst {K : PySem.W.Frag} (hK : K = G.K) {ι : List Addr} {H : Hp} {a : Addr} {n : Nat} (t : ι[n]? = some a) : ItOk G ι H (Itl K a) (srcRef n) := fun i ι1 H1 S1 p => by
  subst hK
  have t1 := p.ext _ _ t
  have main : ∀ (l : List MV) (vs : List V), SqL G.K H1 a vs → RWs G ι1 H1 l vs → (match (match l[i]? with
    | some w => Nx.yield w
    | none => .stop) with
    | .yield w => (Itl G.K a).go i H1 ∧ ∀ x H', (Itl G.K a).yld i H1 x H' → Post G ι1 H1 ι1 H' S1 ∧ RW G ι1 H' w x
    | .stop => (Itl G.K a).stop i H1
    | .stuck => True) := fun l vs hs q1 => by
    cases e : l[i]? with
    | some w =>
      obtain ⟨v, e2, r⟩ := q1.get e
      refine ⟨⟨vs, v, hs, e2⟩, fun x H' y => ?_⟩
      obtain ⟨rfl, y⟩ := y
      have := y vs hs
      rw [e2] at this
      cases this
      exact ⟨.refl p.sim, r⟩
    | none =>
      refine ⟨vs, hs, ?_⟩
      rw [← q1.length]
      exact List.getElem?_eq_none_iff.mp e
  unfold srcRef
  cases hS : S1[n]? with
  | none => trivial
  | some o =>
    cases o with
    | lst l =>
      obtain ⟨vs, g, q1⟩ := p.sim.obj _ _ _ hS t1
      exact main l vs (.of g) q1
    | rol l =>
      obtain ⟨o, vs, g, q1⟩ := p.sim.obj _ _ _ hS t1
      exact main l vs (.inl (.inr ⟨o, g⟩)) q1
    | dic kvs => trivial
    | ins c fs => trivial
theorem di_any {tg : Expr} (hK : X.K = G.K) (ha : DE X G W a da) : DI X G W tg a (iAnyD da) := ⟨PI.imp (pi_any ha.run) fun σ H R h => by
  obtain ⟨ι, S, ρ, s, re, h⟩ := h
  refine ⟨ι, S, ρ, s, re, (fin.bind h).mono fun w ι1 H1 S1 p _ h1 v r => ?_⟩
  obtain ⟨S1, s1, _, _, _, h1⟩ := h1
  unfold srcOf at h1
  split at h1
  · cases r with
    | tup t q => exact .inr (.inl ⟨_, _, rfl, by rw [hK]; exact t, h1 ι1 H1 (.refl s1) _ (it_tup hK (by rw [hK]; exact t) q)⟩)
  · cases r
    refine .inr (.inr ⟨_, rfl, h1 ι1 H1 (.refl s1) _ fun i ι2 H2 S2 p2 => ?_⟩)
    rename_i z _ _
    unfold srcStr
    cases e : z.cps[i]? with
    | some c =>
      refine ⟨(Array.getElem?_eq_some_iff.mp e).1, fun x H' y => ?_⟩
      obtain ⟨rfl, c', e', rfl⟩ := y
      rw [e] at e'
      cases e'
      exact ⟨.refl p2.sim, .str _⟩
    | none => exact Array.getElem?_eq_none_iff.mp e
  · cases r with
    | ref i =>
      split at h1
      · rename_i l hS
        obtain ⟨vs, g, q⟩ := s1.obj _ _ _ hS i
        exact .inl ⟨_, vs, rfl, .of g, h1 ι1 H1 (.refl s1) _ (it_lst hK i)⟩
      · rename_i l hS
        obtain ⟨o, vs, g, q⟩ := s1.obj _ _ _ hS i
        exact .inl ⟨_, vs, rfl, .inl (.inr ⟨o, g⟩), h1 ι1 H1 (.refl s1) _ (it_lst hK i)⟩
      · exact h1.elim
  · exact h1.elim⟩
def rng1 (ws : List MV) (S : Store) : Res Src := match ws with
  | [.int j] => if decide (-100000 ≤ j) && decide (j ≤ 100000) then .ok (srcRng 0 j) S else .stuck
  | _ => .stuck
def rng2 (ws : List MV) (S : Store) : Res Src := match ws with
  | [.int i, .int j] => if (decide (-100000 ≤ i) && decide (i ≤ 100000)) && (decide (-100000 ≤ j) && decide (j ≤ 100000)) then .ok (srcRng i j) S else .stuck
  | _ => .stuck
def iRng (f : List MV → Store → Res Src) (d : DenL) : DenI := fun ρ S => (d ρ S).bind f
theorem it_rng {ι : List Addr} {H : Hp} (lo hi : Int) : ItOk G ι H (Itr lo (hi - lo).toNat) (srcRng lo hi) := fun i ι1 H1 S1 p => by
  unfold srcRng
  by_cases hl : i < (hi - lo).toNat
  · rw [if_pos hl]
    refine ⟨hl, fun x H' y => ?_⟩
    obtain ⟨rfl, rfl⟩ := y
    exact ⟨.refl p.sim, .int _⟩
  · rw [if_neg hl]
    exact Nat.le_of_not_lt hl
theorem di_rng1 {tg : Expr} {p : Pos} (hg : Gl X "range") (hm : X.mg "range" = none) (ha : DA X G W [a] dr) (hs : starEach [a] X.env = [(false, eval a X.env)] := by rfl) : DI X G W tg (.Call (.Name "range" p) [a] [] pos) (iRng rng1 dr) := ⟨PI.imp (pi_range1 hg hm ha.run hs) fun σ H R h => by
  obtain ⟨ι, S, ρ, s, re, h⟩ := h
  refine ⟨ι, S, ρ, s, re, (fin.bind h).mono fun ws ι1 H1 S1 p _ h1 vs r => ?_⟩
  obtain ⟨S1, s1, _, _, _, h1⟩ := h1
  unfold rng1 at h1
  split at h1
  · split at h1
    · rename_i j _ _ hz
      rw [Bool.and_eq_true] at hz
      have z1 := of_decide_eq_true hz.1
      have z2 := of_decide_eq_true hz.2
      obtain ⟨v, rfl, r1⟩ := rws1 r
      cases r1
      refine ⟨j, rfl, by omega, by omega, h1 ι1 H1 (.refl s1) _ ?_⟩
      have := it_rng (G := G) (ι := ι1) (H := H1) 0 j
      rw [Int.sub_zero] at this
      exact this
    · exact h1.elim
  · exact h1.elim⟩
theorem di_rng2 {tg : Expr} {p : Pos} (hg : Gl X "range") (hm : X.mg "range" = none) (ha : DA X G W [a, b] dr) (hs : starEach [a, b] X.env = [(false, eval a X.env), (false, eval b X.env)] := by rfl) (hs2 : starEach [b] X.env = [(false, eval b X.env)] := by rfl) : DI X G W tg (.Call (.Name "range" p) [a, b] [] pos) (iRng rng2 dr) := ⟨PI.imp (pi_range2 hg hm ha.run hs hs2) fun σ H R h => by
  obtain ⟨ι, S, ρ, s, re, h⟩ := h
  refine ⟨ι, S, ρ, s, re, (fin.bind h).mono fun ws ι1 H1 S1 p _ h1 vs r => ?_⟩
  obtain ⟨S1, s1, _, _, _, h1⟩ := h1
  unfold rng2 at h1
  split at h1
  · split at h1
    · rename_i i j _ _ hz
      simp only [Bool.and_eq_true, decide_eq_true_eq] at hz
      obtain ⟨v, v2, rfl, r1, r2⟩ := rws2 r
      cases r1
      cases r2
      exact ⟨i, j, rfl, by omega, h1 ι1 H1 (.refl s1) _ (it_rng i j)⟩
    · exact h1.elim
  · exact h1.elim⟩
/-! ### for -/
def forM (nx : Src) (g : DenG) (body : DenS) : Nat → Nat → DenS
  | 0, _ => fun _ _ => .stuck
  | f + 1, i => fun ρ S => match nx i S with
    | .stop => .ok (.next ρ) S
    | .stuck => .stuck
    | .yield w => match g w ρ S with
      | .ok ρ1 S1 => match body ρ1 S1 with
        | .ok (.next ρ2) S2 => forM nx g body f (i + 1) ρ2 S2
        | .ok (.cont ρ2) S2 => forM nx g body f (i + 1) ρ2 S2
        | .ok (.brk ρ2) S2 => .ok (.next ρ2) S2
        | r => r
      | _ => .stuck
def sFor (f : Nat) (it : DenI) (g : DenG) (body : DenS) : DenS := fun ρ S => (it ρ S).bindS ρ fun nx S1 => forM nx g body f 0 ρ S1
theorem ds_for {f : Nat} {tg iter : Expr} {body : List Stmt} {it : DenI} {vs : List Nat} {g : DenG} {sb : DenS} (hp : PassesOwn (model X.prog X.w) X.A X.env X.xe) (hc : X.calm = true) (hi : DI X G W tg iter it) (hg : DG X G tg vs g) (hb : DSs X G W body sb)
    (hs : ∀ x, foldedSetIterable iter X.env x = pure x := by intro _; rfl) : DS X G W (.For tg iter body [] pos) (sFor f it g sb) := ⟨PS.imp (ps_for hp hc hi.run hg.run hb.run hs) fun D σ H h => by
  obtain ⟨ι, S, ρ, s, re, h⟩ := h
  refine ⟨ι, S, ρ, s, re, (fin.bindS re h).mono fun nx ι1 H1 S1 p _ h1 J hJ => ?_⟩
  obtain ⟨S1, s1, re1, _, h1⟩ := h1
  refine ⟨fun i m σ2 H2 => ∃ ι2 S2 ρ2, Post G ι1 H1 ι2 H2 S2 ∧ RE G ι2 H2 ρ2 σ2 ∧ fin G ι2 H2 NoE (want G W D) (forM nx g sb m i ρ2 S2), ⟨f, ι1, S1, ρ, .refl s1, re1, h1⟩, ?_⟩
  rintro i m σ2 H2 ⟨ι2, S2, ρ2, p2, re2, h2⟩
  have kJ := hJ i ι2 H2 S2 p2
  cases m with
  | zero => exact h2.elim
  | succ m =>
    unfold forM at h2
    cases e : nx i S2 with
    | stop =>
      rw [e] at h2 kJ
      exact .inl ⟨kJ, h2 ι2 H2 (.refl p2.sim) σ2 re2⟩
    | stuck => rw [e] at h2; exact h2.elim
    | yield w =>
      rw [e] at h2 kJ
      dsimp only at h2 kJ
      refine .inr ⟨kJ.1, fun σ3 H3 => ∃ ι3 S3 ρ3, Post G ι1 H1 ι3 H3 S3 ∧ RE G ι3 H3 ρ3 σ3 ∧ fin G ι3 H3 NoE (want G W D) (forM nx g sb m (i + 1) ρ3 S3), fun σ3 H3 n => ⟨m, Nat.lt_succ_self _, n⟩, fun x H3 y => ?_⟩
      obtain ⟨p3, r3⟩ := kJ.2 x H3 y
      refine ⟨ι2, S2, ρ2, w, p3.sim, p3.re re2, r3, ?_⟩
      have p23 := p2.trans p3
      cases e1 : g w ρ2 S2 with
      | err c fs S' => rw [e1] at h2; exact h2.elim
      | stuck => rw [e1] at h2; exact h2.elim
      | ok ρ4 S4 =>
        rw [e1] at h2
        dsimp only at h2
        refine fun ι4 H4 p4 σ4 re4 _ _ => ⟨ι4, S4, ρ4, p4.sim, re4, ?_⟩
        have p34 := p3.trans p4
        cases e2 : sb ρ4 S4 with
        | err c fs S' => rw [e2] at h2; exact fin.later p34 h2
        | stuck => rw [e2] at h2; exact h2.elim
        | ok fl S5 =>
          rw [e2] at h2
          cases fl with
          | next ρ5 => exact fun ι5 H5 p5 σ5 re5 => ⟨ι5, S5, ρ5, (p23.trans p4).trans p5, re5, fin.later (p34.trans p5) h2⟩
          | cont ρ5 => exact fun ι5 H5 p5 σ5 re5 => ⟨ι5, S5, ρ5, (p23.trans p4).trans p5, re5, fin.later (p34.trans p5) h2⟩
          | brk ρ5 => exact fun ι5 H5 p5 σ5 re5 => h2 ι5 H5 (p34.trans p5) σ5 re5
          | ret w' => exact fun ι5 H5 p5 => h2 ι5 H5 (p34.trans p5)
          | exc c fs ρ5 => exact fun ι5 H5 p5 => h2 ι5 H5 (p34.trans p5)⟩
/-! ### while -/
def whM (t : DenB) (body : DenS) : Nat → DenS
  | 0 => fun _ _ => .stuck
  | f + 1 => fun ρ S => (t ρ S).bindS ρ fun k S1 => if k = true then (match body ρ S1 with
      | .ok (.next ρ2) S2 => whM t body f ρ2 S2
      | .ok (.cont ρ2) S2 => whM t body f ρ2 S2
      | .ok (.brk ρ2) S2 => .ok (.next ρ2) S2
      | r => r) else .ok (.next ρ) S1
theorem ds_while {f : Nat} {body : List Stmt} {dt : DenB} {sb : DenS} (hp : PassesOwn (model X.prog X.w) X.A X.env X.xe) (hc : DT X G W c dt) (hb : DSs X G W body sb) : DS X G W (.While c body [] pos) (whM dt sb f) := ⟨PS.imp (ps_while hp hc.run hb.run) fun D σ H h => by
  obtain ⟨ι, S, ρ, s, re, h⟩ := h
  refine ⟨fun m σ2 H2 => ∃ ι2 S2 ρ2, Sim G ι2 H2 S2 ∧ RE G ι2 H2 ρ2 σ2 ∧ fin G ι2 H2 NoE (want G W D) (whM dt sb m ρ2 S2), ⟨f, ι, S, ρ, s, re, h⟩, ?_⟩
  rintro m σ2 H2 ⟨ι2, S2, ρ2, s2, re2, h2⟩
  cases m with
  | zero => exact ⟨ι2, S2, ρ2, s2, re2, by
      have z : False := h2
      exact z.elim⟩
  | succ m =>
    unfold whM at h2
    refine ⟨ι2, S2, ρ2, s2, re2, (fin.bindS re2 h2).mono fun k ι3 H3 S3 p3 _ h3 => ?_⟩
    obtain ⟨S3, s3, re3, _, h3⟩ := h3
    cases k with
    | false => exact h3 ι3 H3 (.refl s3) σ2 re3
    | true =>
      rw [if_pos rfl] at h3 ⊢
      refine ⟨fun σ4 H4 => ∃ ι4 S4 ρ4, Sim G ι4 H4 S4 ∧ RE G ι4 H4 ρ4 σ4 ∧ fin G ι4 H4 NoE (want G W D) (whM dt sb m ρ4 S4), fun σ4 H4 n => ⟨m, Nat.lt_succ_self _, n⟩, ι3, S3, ρ2, s3, re3, ?_⟩
      cases e2 : sb ρ2 S3 with
      | err c fs S' => rw [e2] at h3; exact h3
      | stuck => rw [e2] at h3; exact h3.elim
      | ok fl S5 =>
        rw [e2] at h3
        cases fl with
        | next ρ5 => exact fun ι5 H5 p5 σ5 re5 => ⟨ι5, S5, ρ5, p5.sim, re5, fin.later p5 h3⟩
        | cont ρ5 => exact fun ι5 H5 p5 σ5 re5 => ⟨ι5, S5, ρ5, p5.sim, re5, fin.later p5 h3⟩
        | brk ρ5 => exact fun ι5 H5 p5 σ5 re5 => h3 ι5 H5 p5 σ5 re5
        | ret w' => exact fun ι5 H5 p5 => h3 ι5 H5 p5
        | exc c fs ρ5 => exact fun ι5 H5 p5 => h3 ι5 H5 p5⟩
end
end MI

set_option Elab.async false
set_option linter.all false
set_option maxRecDepth 100000
namespace MI
open PySem PySem.Spec PyProof.Rows L2
/-! ### comprehensions -/
abbrev WF : WX := fun _ _ _ _ => False
def wipeM (ρ : Env') : List Nat → Env'
  | [] => ρ
  | v :: vs => (wipeM ρ vs).set v none
theorem wipe_get (σ : L2.St) (j : Nat) : ∀ vs : List Nat, (L2.wipe σ vs)[j]? = if j ∈ vs then (σ[j]?).map (fun _ => none) else σ[j]?
  | [] => by simp [L2.wipe]
  | v :: vs => by
    have ih := wipe_get σ j vs
    unfold L2.wipe
    rw [List.getElem?_set]
    by_cases h : v = j
    · subst h
      rw [if_pos rfl]
      by_cases hl : v < (L2.wipe σ vs).length
      · rw [if_pos hl, if_pos (by simp)]
        rw [L2.wipe_length] at hl
        simp [hl]
      · rw [if_neg hl, if_pos (by simp)]
        rw [L2.wipe_length] at hl
        simp [List.getElem?_eq_none_iff.mpr (Nat.le_of_not_lt hl)]
    · rw [if_neg h, ih]
      have h' : ¬ j = v := fun z => h z.symm
      simp [h']
theorem wipeM_get (σ : Env') (j : Nat) : ∀ vs : List Nat, (wipeM σ vs)[j]? = if j ∈ vs then (σ[j]?).map (fun _ => none) else σ[j]?
  | [] => by simp [wipeM]
  | v :: vs => by
    have ih := wipeM_get σ j vs
    have hlen : ∀ us : List Nat, (wipeM σ us).length = σ.length := fun us => by
      induction us with
      | nil => rfl
      | cons u us ih => unfold wipeM; rw [List.length_set, ih]
    unfold wipeM
    rw [List.getElem?_set]
    by_cases h : v = j
    · subst h
      rw [if_pos rfl]
      by_cases hl : v < (wipeM σ vs).length
      · rw [if_pos hl, if_pos (by simp)]
        rw [hlen] at hl
        simp [hl]
      · rw [if_neg hl, if_pos (by simp)]
        rw [hlen] at hl
        simp [List.getElem?_eq_none_iff.mpr (Nat.le_of_not_lt hl)]
    · rw [if_neg h, ih]
      have h' : ¬ j = v := fun z => h z.symm
      simp [h']
theorem wipeM_length (σ : Env') : ∀ us : List Nat, (wipeM σ us).length = σ.length
  | [] => rfl
  | u :: us => by unfold wipeM; rw [List.length_set, wipeM_length σ us]
theorem RE.wipe {G : Gx} {ι : List Addr} {H : Hp} {ρ : Env'} {σ : L2.St} (r : RE G ι H ρ σ) (vs : List Nat) : RE G ι H (wipeM ρ vs) (L2.wipe σ vs) := by
  refine ⟨by rw [wipeM_length, L2.wipe_length, r.len], fun i w e => ?_⟩
  rw [wipeM_get] at e
  by_cases h : i ∈ vs
  · rw [if_pos h] at e
    cases e2 : ρ[i]? with
    | none => rw [e2] at e; cases e
    | some x => rw [e2] at e; cases e
  · rw [if_neg h] at e
    obtain ⟨v, h1, h2⟩ := r.get i w e
    exact ⟨v, by rw [wipe_get, if_neg h]; exact h1, h2⟩
theorem wipe_agree {σ σ2 : L2.St} {own vs : List Nat} (hv : ∀ j ∈ vs, j ∈ own) (h : ∀ j, j ∉ vs → σ2[j]? = (L2.wipe σ own)[j]?) (hl : σ2.length = (L2.wipe σ own).length) : L2.wipe σ2 own = L2.wipe σ own := by
  apply List.ext_getElem?
  intro j
  rw [wipe_get, wipe_get]
  by_cases hj : j ∈ own
  · rw [if_pos hj, if_pos hj]
    rw [L2.wipe_length] at hl
    by_cases hb : j < σ.length
    · have hb2 : j < σ2.length := by omega
      simp [hb, hb2]
    · have hb2 : ¬ j < σ2.length := by omega
      rw [List.getElem?_eq_none_iff.mpr (Nat.le_of_not_lt hb), List.getElem?_eq_none_iff.mpr (Nat.le_of_not_lt hb2)]
  · rw [if_neg hj, if_neg hj, h j fun z => hj (hv j z), wipe_get, if_neg hj]
def lcM (nx : Src) (g : DenG) (t : DenB) (d : Den) (ρ0 : Env') (m : Nat) : Nat → Nat → Store → Option Store
  | 0, _ => fun _ => none
  | f + 1, i => fun S => match nx i S with
    | .stop => some S
    | .stuck => none
    | .yield w => match g w ρ0 S with
      | .ok ρ1 S1 => match t ρ1 S1 with
        | .ok true S2 => match d ρ1 S2 with
          | .ok w' S3 => match S3[m]? with
            | some (.lst acc) => if acc.length < 100000 then lcM nx g t d ρ0 m f (i + 1) (S3.set m (.lst (acc ++ [w']))) else none
            | _ => none
          | _ => none
        | .ok false S2 => lcM nx g t d ρ0 m f (i + 1) S2
        | _ => none
      | _ => none
def dLc (f : Nat) (it : DenI) (g : DenG) (t : DenB) (d : Den) (own : List Nat) : Den := fun ρ S => (it ρ S).bind fun nx S1 => match lcM nx g t d (wipeM ρ own) S1.length f 0 (S1 ++ [.lst []]) with
  | some S2 => .ok (.ref S1.length) S2
  | none => .stuck
section
variable {X : Cx} {G : Gx} {W : WX} {e a b c : Expr} {pos : Pos} {d da db : Den} {dr : DenL}
structure DTs (X : Cx) (G : Gx) (W : WX) (es : List Expr) (d : DenB) : Prop where
  run : PTs X es (tT G W d)
theorem PTs.imp {X : Cx} {e : List Expr} {t t' : TT} (h : PTs X e t) (k : ∀ σ H Q, t' σ H Q → t σ H Q) : PTs X e t' := ⟨fun pins s σ H Q I q => h.run pins s σ H Q I (k σ H Q q)⟩
def bYes : DenB := fun _ S => .ok true S
theorem dts_nil : DTs X G W [] bYes := ⟨PTs.imp pts_nil fun σ H Q h => by
  obtain ⟨ι, S, ρ, s, re, h⟩ := h
  exact h ι H (.refl s)⟩
theorem dts_one {dt : DenB} (h : DT X G W c dt) : DTs X G W [c] dt := ⟨pts_one h.run⟩
theorem lc_imp {f : Nat} {it : DenI} {vs own : List Nat} {g : DenG} {t : DenB} (hv : ∀ j ∈ vs, j ∈ own) {σ : L2.St} {H : Hp} {Q : VK} (h : tD G W (dLc f it g t d own) σ H Q) : tLc (tI G W it) (tG G vs g) (tT G WF t) (tD G WF d) own σ H Q := by
  obtain ⟨ι, S, ρ, s, re, h⟩ := h
  refine ⟨ι, S, ρ, s, re, (fin.bind h).mono fun nx ι1 H1 S1 p _ h1 J hJ D hD => ?_⟩
  obtain ⟨S1, s1, _, re1, _, h1⟩ := h1
  have re1 := re1 _ _ re
  have ext0 : ∀ (n : Nat) (a : Addr), ι1[n]? = some a → (ι1 ++ [D])[n]? = some a := fun n a e => by
    rw [List.getElem?_append_left (List.getElem?_eq_some_iff.mp e).1]; exact e
  have p0 := s1.new hD (ho := .lst []) (mo := .lst []) ⟨[], upd_same, .nil⟩
  refine ⟨fun i m H2 => ∃ ι2 S2, Post G ι1 H1 ι2 H2 S2 ∧ ι2[S1.length]? = some D ∧ ∃ S', lcM nx g t d (wipeM ρ own) S1.length m i S2 = some S' ∧ fin G ι2 H2 (fun c x H' => W c x σ H') (PV G Q) (.ok (.ref S1.length) S'), ⟨f, ι1 ++ [D], S1 ++ [.lst []], p0, by rw [← s1.len]; simp, ?_⟩, ?_⟩
  · cases e : lcM nx g t d (wipeM ρ own) S1.length f 0 (S1 ++ [.lst []]) with
    | none => rw [e] at h1; exact h1.elim
    | some S' => rw [e] at h1; exact ⟨S', rfl, fin.later p0 h1⟩
  · rintro i m H2 ⟨ι2, S2, p2, hD2, S', e2, h2⟩
    have kJ := hJ i ι2 H2 S2 p2
    cases m with
    | zero => cases e2
    | succ m =>
      unfold lcM at e2
      cases e : nx i S2 with
      | stop =>
        rw [e] at e2 kJ
        cases e2
        exact .inl ⟨kJ, h2 ι2 H2 (.refl p2.sim) (.ref D) (.ref hD2)⟩
      | stuck => rw [e] at e2; cases e2
      | yield w =>
        rw [e] at e2 kJ
        dsimp only at e2 kJ
        refine .inr ⟨kJ.1, fun H3 => ∃ ι3 S3, Post G ι1 H1 ι3 H3 S3 ∧ ι3[S1.length]? = some D ∧ ∃ S', lcM nx g t d (wipeM ρ own) S1.length m (i + 1) S3 = some S' ∧ fin G ι3 H3 (fun c x H' => W c x σ H') (PV G Q) (.ok (.ref S1.length) S'), fun H3 n => ⟨m, Nat.lt_succ_self _, n⟩, fun x H3 y => ?_⟩
        obtain ⟨p3, r3⟩ := kJ.2 x H3 y
        have re3 : RE G ι2 H3 (wipeM ρ own) (L2.wipe σ own) := (p2.trans p3).re (re1.wipe own)
        refine ⟨ι2, S2, wipeM ρ own, w, p3.sim, re3, r3, ?_⟩
        cases e4 : g w (wipeM ρ own) S2 with
        | err c fs S' => rw [e4] at e2; cases e2
        | stuck => rw [e4] at e2; cases e2
        | ok ρ4 S4 =>
          rw [e4] at e2
          dsimp only at e2
          refine fun ι4 H4 p4 σ4 re4 hv4 hl4 => ⟨wipe_agree hv hv4 hl4, ι4, S4, ρ4, p4.sim, re4, ?_⟩
          have p24 := p3.trans p4
          cases e5 : t ρ4 S4 with
          | err c fs S' => rw [e5] at e2; cases e2
          | stuck => rw [e5] at e2; cases e2
          | ok k S5 =>
            rw [e5] at e2
            cases k with
            | false =>
              dsimp only at e2
              refine fun ι5 H5 p5 => ?_
              dsimp only
              rw [if_neg Bool.false_ne_true]
              exact ⟨ι5, S5, p2.trans (p24.trans p5), (p24.trans p5).ext _ _ hD2, S', e2, fin.later (p24.trans p5) h2⟩
            | true =>
              dsimp only at e2
              refine fun ι5 H5 p5 => ?_
              dsimp only
              rw [if_pos rfl]
              refine ⟨ι5, S5, ρ4, p5.sim, p5.re re4, ?_⟩
              cases e6 : d ρ4 S5 with
              | err c fs S' => rw [e6] at e2; cases e2
              | stuck => rw [e6] at e2; cases e2
              | ok w' S6 =>
                rw [e6] at e2
                dsimp only at e2
                refine fun ι6 H6 p6 v6 r6 => ?_
                cases e7 : S6[S1.length]? with
                | none => rw [e7] at e2; cases e2
                | some o =>
                  rw [e7] at e2
                  cases o with
                  | lst acc =>
                    dsimp only at e2
                    split at e2
                    · rename_i hz
                      have pp := p24.trans (p5.trans p6)
                      have hD6 := pp.ext _ _ hD2
                      obtain ⟨vs', g', q'⟩ := p6.sim.obj _ _ _ e7 hD6
                      have t6 := sqT_upd (K := G.K) (ho := .lst (vs' ++ [v6])) (noTup_of g' (fun _ z => by cases z) (fun _ _ z => by cases z))
                      have p7 := p6.sim.write hD6 g' (fun _ z => by cases z) (fun _ _ z => by cases z) (ho' := .lst (vs' ++ [v6])) (mo := .lst (acc ++ [w'])) ⟨_, upd_same, (q'.append (.cons r6 .nil)).mono (fun _ _ e => e) t6⟩
                      exact ⟨vs', g', by rw [← q'.length]; exact Nat.lt_of_lt_of_le hz (by rw [sizeLine_eq]; decide), ι6, _, p2.trans (pp.trans p7), hD6, S', e2, fin.later (pp.trans p7) h2⟩
                    · cases e2
                  | rol acc => cases e2
                  | dic kvs => cases e2
                  | ins c fs => cases e2
theorem de_lc {f : Nat} {elt tg iter : Expr} {ifs : List Expr} {scope : Scope} {own : List (Str × Nat)} {it : DenI} {vs : List Nat} {g : DenG} {t : DenB} (hc : X.calm = true) (hN : X.N.Nodup) (hi : DI X G W tg iter it) (ok : BlkOk X.N X.env.scope scope own)
    (hg : ∀ (s : Shared) (H : Hp) (C : Addr) (cl : List (Str × Addr)) (fp : List Addr), DG (X.blk s H scope (compEnvC scope cl C X.env) fp) G tg vs g) (ht : ∀ (s : Shared) (H : Hp) (C : Addr) (cl : List (Str × Addr)) (fp : List Addr), DTs (X.blk s H scope (compEnvC scope cl C X.env) fp) G WF ifs t)
    (he : ∀ (s : Shared) (H : Hp) (C : Addr) (cl : List (Str × Addr)) (fp : List Addr), DE (X.blk s H scope (compEnvC scope cl C X.env) fp) G WF elt d) (hv : ∀ j ∈ vs, j ∈ own.map (·.2) := by decide) (hs : ∀ x, foldedSetIterable iter X.env x = pure x := by intro _; rfl) :
    DE X G W (.ListComp elt [⟨tg, iter, ifs, 0⟩] scope pos) (dLc f it g t d (own.map (·.2))) :=
  ⟨PE.imp (pe_lc hc hN hi.run ok (fun s H C cl fp => (hg s H C cl fp).run) (fun s H C cl fp => (ht s H C cl fp).run) (fun s H C cl fp => (he s H C cl fp).run) hs) fun _ _ _ h => lc_imp hv h⟩
/-- name = [..] -/
theorem ds_setLc (i : Nat) {f : Nat} {y : Str} {py : Pos} {elt tg iter : Expr} {ifs : List Expr} {scope : Scope} {own : List (Str × Nat)} {spos : Pos} {it : DenI} {vs : List Nat} {g : DenG} {t : DenB} (hc : X.calm = true) (hN : X.N.Nodup) (hi : DI X G W tg iter it) (ok : BlkOk X.N X.env.scope scope own)
    (hg : ∀ (s : Shared) (H : Hp) (C : Addr) (cl : List (Str × Addr)) (fp : List Addr), DG (X.blk s H scope (compEnvC scope cl C X.env) fp) G tg vs g) (ht : ∀ (s : Shared) (H : Hp) (C : Addr) (cl : List (Str × Addr)) (fp : List Addr), DTs (X.blk s H scope (compEnvC scope cl C X.env) fp) G WF ifs t)
    (he : ∀ (s : Shared) (H : Hp) (C : Addr) (cl : List (Str × Addr)) (fp : List Addr), DE (X.blk s H scope (compEnvC scope cl C X.env) fp) G WF elt d)
    (hsw : swapsWith (.ListComp elt [⟨tg, iter, ifs, 0⟩] scope pos) (some (.Name y py)) spos.line X.env = pure true)
    (hy : X.N[i]? = some y := by rfl) (hyl : X.env.scope.names.lookup y = some .local := by rfl) (hv : ∀ j ∈ vs, j ∈ own.map (·.2) := by decide) (hs : ∀ x, foldedSetIterable iter X.env x = pure x := by intro _; rfl) :
    DS X G W (.Assign [.Name y py] (.ListComp elt [⟨tg, iter, ifs, 0⟩] scope pos) spos) (sAsg (dLc f it g t d (own.map (·.2))) (gN i)) :=
  ⟨PS.imp (ps_setLc hc hN hy hyl hsw hi.run ok (fun s H C cl fp => (hg s H C cl fp).run) (fun s H C cl fp => (ht s H C cl fp).run) (fun s H C cl fp => (he s H C cl fp).run) hs) fun D σ H h => by
    refine lc_imp (f := f) (W := W) hv ?_
    obtain ⟨ι, S, ρ, s, re, h⟩ := h
    refine ⟨ι, S, ρ, s, re, (fin.bindS re h).mono fun w ι1 H1 S1 p _ h1 v r => ?_⟩
    obtain ⟨S1, s1, re1, _, h1⟩ := h1
    exact h1 ι1 H1 (.refl s1) _ (re1.set r i)⟩
end
end MI

set_option Elab.async false
set_option linter.all false
set_option maxRecDepth 100000
namespace MI
open PySem PySem.Spec PyProof.Rows L2
/-! ### what a def leaves behind: what nobody can reach is forgotten -/
mutual
def below (n : Nat) : MV → Bool
  | .tup l => belows n l
  | .ref k => decide (k < n)
  | .non => true
  | .bl _ => true
  | .int _ => true
  | .str _ => true
def belows (n : Nat) : List MV → Bool
  | [] => true
  | w :: ws => below n w && belows n ws
end
def belowO (n : Nat) : MO → Bool
  | .lst l => belows n l
  | .rol l => belows n l
  | .dic kvs => belows n (kvs.map (·.2))
  | .ins _ fs => belows n (fs.map (·.2))
section
variable {G : Gx} {ι ι' : List Addr} {H : Hp} {n : Nat}
mutual
theorem RW.lower (k : ∀ (m : Nat) (a : Addr), m < n → ι'[m]? = some a → ι[m]? = some a) : ∀ (w : MV) (v : V), RW G ι' H w v → below n w = true → RW G ι H w v
  | .non, _, r, _ => by cases r; exact .non
  | .bl b, _, r, _ => by cases r; exact .bl b
  | .int b, _, r, _ => by cases r; exact .int b
  | .str b, _, r, _ => by cases r; exact .str b
  | .tup l, _, r, h => by
    cases r with
    | tup t q => exact .tup t (RWs.lower k l _ q (by unfold below at h; exact h))
  | .ref m, _, r, h => by
    cases r with
    | ref i => exact .ref (k _ _ (by unfold below at h; exact of_decide_eq_true h) i)
theorem RWs.lower (k : ∀ (m : Nat) (a : Addr), m < n → ι'[m]? = some a → ι[m]? = some a) : ∀ (w : List MV) (v : List V), RWs G ι' H w v → belows n w = true → RWs G ι H w v
  | [], _, r, _ => by cases r; exact .nil
  | w :: ws, _, r, h => by
    cases r with
    | cons r1 r2 =>
      unfold belows at h
      rw [Bool.and_eq_true] at h
      exact .cons (RW.lower k w _ r1 h.1) (RWs.lower k ws _ r2 h.2)
end
theorem RO.lower (k : ∀ (m : Nat) (a : Addr), m < n → ι'[m]? = some a → ι[m]? = some a) {a : Addr} {o : MO} (r : RO G ι' H a o) (h : belowO n o = true) : RO G ι H a o := by
  cases o with
  | lst l => obtain ⟨vs, g, q⟩ := r; exact ⟨vs, g, q.lower k _ _ h⟩
  | rol l => obtain ⟨o, vs, g, q⟩ := r; exact ⟨o, vs, g, q.lower k _ _ h⟩
  | dic kvs => obtain ⟨kv', g, z, q⟩ := r; exact ⟨kv', g, z, q.lower k _ _ h⟩
  | ins c fs => obtain ⟨C, dx, fs', hc, g, z, q⟩ := r; exact ⟨C, dx, fs', hc, g, z, q.lower k _ _ h⟩
end
/-- at the end of a def that began with n objects -/
def gc (n : Nat) (w : MV) (S : Store) : Res MV :=
  if S.length = n then .ok w S
  else if (S.take n).all (belowO n) then
    if below n w then .ok w (S.take n)
    else match w with
      | .ref m => match S[m]? with
        | some o => if belowO n o then .ok (.ref n) (S.take n ++ [o]) else .ok w S
        | none => .ok w S
      | _ => .ok w S
  else .ok w S
theorem gc_ok {G : Gx} {ι ι' : List Addr} {H H' : Hp} {S S' : Store} {w : MV} {v : V} {E : Value → Option Addr → Hp → Prop} {Q : VK} (s : Sim G ι H S) (p : Post G ι H ι' H' S') (r : RW G ι' H' w v) (h : fin G ι H E (PV G Q) (gc S.length w S')) : Q v H' := by
  have low : ∀ (m : Nat) (a : Addr), m < S.length → ι'[m]? = some a → ι[m]? = some a := fun m a hm e => by
    have hm' : m < ι.length := by rw [s.len]; exact hm
    have e2 := p.ext m ι[m] (by simp [hm'])
    rw [e] at e2
    cases e2
    simp [hm']
  unfold gc at h
  split at h
  · exact h ι' H' p v r
  · split at h
    · rename_i hne hcl
      have hlen : S.length ≤ S'.length := by
        rw [← s.len, ← p.sim.len]
        by_cases hz : ι.length = 0
        · omega
        · have := p.ext (ι.length - 1) ι[ι.length - 1] (List.getElem?_eq_getElem (by omega))
          have := (List.getElem?_eq_some_iff.mp this).1
          omega
      have cl : ∀ k o, S'[k]? = some o → k < S.length → belowO S.length o = true := fun k o e hk => by
        rw [List.all_eq_true] at hcl
        refine hcl o ?_
        have : (S'.take S.length)[k]? = some o := by rw [List.getElem?_take_of_lt hk]; exact e
        exact List.mem_of_getElem? this
      split at h
      · rename_i hb
        refine h ι H' ⟨fun _ _ e => e, p.tup, ?_, s.nd, fun k o a hk ha => ?_⟩ v (r.lower low _ _ hb)
        · rw [s.len, List.length_take]; omega
        · have hkl : k < S.length := by
            have := (List.getElem?_eq_some_iff.mp hk).1
            rw [List.length_take] at this
            omega
          rw [List.getElem?_take_of_lt hkl] at hk
          exact (p.sim.obj k o a hk (p.ext _ _ ha)).lower low (cl k o hk hkl)
      · rename_i hb
        split at h
        · rename_i m
          split at h
          · rename_i o ho
            split at h
            · rename_i hbo
              cases r with
              | ref hi =>
                rename_i D
                have hm : S.length ≤ m := by
                  unfold below at hb
                  simp only [decide_eq_true_eq] at hb
                  omega
                have low' : ∀ (k : Nat) (a : Addr), k < S.length → ι'[k]? = some a → (ι ++ [D])[k]? = some a := fun k a hk e => by
                  rw [List.getElem?_append_left (by rw [s.len]; exact hk)]
                  exact low k a hk e
                refine h (ι ++ [D]) H' ⟨fun k a e => by rw [List.getElem?_append_left (List.getElem?_eq_some_iff.mp e).1]; exact e, p.tup, ?_, ?_, fun k o' a hk ha => ?_⟩ (.ref D) (.ref (by rw [← s.len]; simp))
                · rw [List.length_append, List.length_append, List.length_take, s.len]
                  simp
                  omega
                · refine List.nodup_append.mpr ⟨s.nd, by simp, fun a ha b hb' e => ?_⟩
                  have hb2 : b = D := by simpa using hb'
                  subst hb2
                  subst e
                  obtain ⟨k, hk⟩ := List.getElem?_of_mem ha
                  have hk' := p.ext _ _ hk
                  obtain ⟨h1, e1⟩ := List.getElem?_eq_some_iff.mp hk'
                  obtain ⟨h2, e2⟩ := List.getElem?_eq_some_iff.mp hi
                  have : k = m := (List.getElem_inj p.sim.nd).mp (e1.trans e2.symm)
                  have hkl := (List.getElem?_eq_some_iff.mp hk).1
                  rw [s.len] at hkl
                  omega
                · by_cases hkl : k < S.length
                  · rw [List.getElem?_append_left (by rw [List.length_take]; omega), List.getElem?_take_of_lt hkl] at hk
                    rw [List.getElem?_append_left (by rw [s.len]; exact hkl)] at ha
                    exact (p.sim.obj k o' a hk (p.ext _ _ ha)).lower low' (cl k o' hk hkl)
                  · have hkn : k = S.length := by
                      have := (List.getElem?_eq_some_iff.mp hk).1
                      rw [List.length_append, List.length_take] at this
                      simp at this
                      omega
                    subst hkn
                    rw [List.getElem?_append_right (by rw [List.length_take]; omega)] at hk
                    rw [List.getElem?_append_right (by rw [s.len]; exact Nat.le_refl _)] at ha
                    have e0 : S.length - (S'.take S.length).length = 0 := by rw [List.length_take]; omega
                    rw [e0] at hk
                    rw [s.len] at ha
                    simp at hk ha
                    subst hk
                    subst ha
                    exact (p.sim.obj m o D ho hi).lower low' hbo
            · exact h ι' H' p v r
          · exact h ι' H' p v r
        · exact h ι' H' p v r
    · exact h ι' H' p v r
/-! ### defs -/
def mkFn (n N : Nat) (body : DenS) : FnM := fun ws S => if ws.length = n then
    match body (ws.map some ++ List.replicate (N - ws.length) none) S with
    | .ok (.ret w) S' => gc S.length w S'
    | .ok (.next _) S' => gc S.length .non S'
    | .ok (.exc c fs _) S' => .err c fs S'
    | _ => .stuck
  else .stuck
def spF (G : Gx) (g : FnM) : Sp := fun vs H Q E => ∃ ι S ws, Sim G ι H S ∧ RWs G ι H ws vs ∧ fin G ι H E (PV G Q) (g ws S)
theorem re_start {G : Gx} {ι : List Addr} {H : Hp} {ws : List MV} {vs : List V} {N : List Str} (r : RWs G ι H ws vs) : RE G ι H (ws.map some ++ List.replicate (N.length - ws.length) none) (L2.start N vs) := by
  unfold L2.start
  rw [← r.length]
  refine ⟨by simp [r.length], fun i w e => ?_⟩
  by_cases h : i < ws.length
  · rw [List.getElem?_append_left (by simpa using h)] at e
    rw [List.getElem?_map] at e
    have e2 : ws[i]? = some w := by
      cases e3 : ws[i]? with
      | none => rw [e3] at e; cases e
      | some x => rw [e3] at e; cases e; rfl
    obtain ⟨v, e4, q⟩ := r.get e2
    refine ⟨v, ?_, q⟩
    rw [List.getElem?_append_left (by rw [List.length_map, ← r.length]; exact h), List.getElem?_map, e4]
    rfl
  · rw [List.getElem?_append_right (by simpa using Nat.le_of_not_lt h)] at e
    rw [List.getElem?_replicate] at e
    split at e <;> cases e
section
variable {P : Program} {w : World} {K : PySem.W.Frag} {mg : Str → Option Value} {base : Heap} {G : Gx}
theorem fn_ok {x qual : Str} {st : Stmt} {f : Addr} {fd : FuncData} {N ps : List Str} {k : Nat} {body : DenS} (F : Fun K x qual st f fd) (S : FnScope N ps (defScope st))
    (hb : ∀ (cdv : Value) (A : Around) (outer : List Env) (s : Shared) (H : Hp) (E : XK), Room k (A.deeper (envOfC qual (defScope st) s.heap.objs.size f cdv)) → DSs (cxOf (L2.CX P w) P w K mg base N qual (defScope st) f cdv A outer s H E) G (fun cls d _ H => E cls d H) (defBody st) body) :
    FnOk P w K mg base (L2.CX P w) (k + 1) f fd ps (spF G (mkFn ps.length N.length body)) := by
  refine F.okX S (fun vs H Q E h => ?_) (fun cdv A outer s H vs Q E hr h => ⟨_, (hb cdv A outer s H E hr).run, ?_⟩)
  · obtain ⟨ι, S, ws, s, r, h⟩ := h
    rw [← r.length]
    unfold mkFn at h
    split at h
    · rename_i e; exact e
    · exact h.elim
  · obtain ⟨ι, S, ws, s, r, h⟩ := h
    refine ⟨ι, S, _, s, re_start r, ?_⟩
    unfold mkFn at h
    split at h
    · cases e : body (ws.map some ++ List.replicate (N.length - ws.length) none) S with
      | err c fs S' => rw [e] at h; exact h.elim
      | stuck => rw [e] at h; exact h.elim
      | ok fl S' =>
        rw [e] at h
        cases fl with
        | next ρ => exact fun ι' H' p σ' _ => gc_ok s p .non h
        | ret w' => exact fun ι' H' p v r' => gc_ok s p r' h
        | brk ρ => exact h.elim
        | cont ρ => exact h.elim
        | exc c fs ρ => exact fun ι' H' p σ' cls d _ q => h ι' H' cls d p q
    · exact h.elim
end
section
variable {X : Cx} {G : Gx} {W : WX} {e a b c : Expr} {es : List Expr} {pos : Pos} {d da db : Den} {dr : DenL}
/-- f(e, ..), f a def of the module -/
theorem de_call {k : Nat} {f : Addr} {fd : FuncData} {ps : List Str} {g : FnM} {x : Str} {p : Pos} (tk : Takes X W) (F : FnOk X.prog X.w X.K X.mg X.base (L2.CX X.prog X.w) k f fd ps (spF G g)) (hr : Room k X.A) (hg : Gl X x) (hm : X.mg x = some (.ref f)) (hk : PySem.W.keepIn X.K (.ref f) = true) (hb : Binds X.K fd ps [])
    (ha : DA X G W (a :: es) dr) (hdb : (x == ("__debug__" : Str)) = false := by decide) (he : starEach (a :: es) X.env = (false, eval a X.env) :: starEach es X.env := by rfl) (hpl : (backTo pos (starEach es X.env)).any (·.1) = false := by rfl) :
    DE X G W (.Call (.Name x p) (a :: es) [] pos) (dCall g dr) := ⟨PE.imp (pe_callS F hr hg hm hk hb (fun σ => passAt tk σ) ha.run hdb he hpl) fun σ H Q h => by
  obtain ⟨ι, S, ρ, s, re, h⟩ := h
  refine ⟨ι, S, ρ, s, re, (fin.bind h).mono fun ws ι1 H1 S1 p _ h1 vs r => ?_⟩
  obtain ⟨S1, s1, _, _, _, h1⟩ := h1
  exact ⟨ι1, S1, ws, s1, r, h1⟩⟩
/-! ### methods of lists -/
def dMet (chk : MV → Store → Bool) (f : MV → List MV → Store → Res MV) (o : Den) (r : DenL) : Den := fun ρ S => (o ρ S).bind fun ow S1 => if chk ow S1 then (r ρ S1).bind fun ws S2 => f ow ws S2 else .stuck
def isLst (w : MV) (S : Store) : Bool := match w with
  | .ref n => match S[n]? with
    | some (.lst _) => true
    | _ => false
  | _ => false
def MtW (G : Gx) (f : MV → List MV → Store → Res MV) (r : V → List V → Hp → VK → Prop) : Prop := ∀ (ι : List Addr) (H : Hp) (S : Store) (E : Value → Option Addr → Hp → Prop) (Q : VK) (w : MV) (v : V) (ws : List MV) (vs : List V), Sim G ι H S → RW G ι H w v → RWs G ι H ws vs → fin G ι H E (PV G Q) (f w ws S) → r v vs H Q
theorem met_imp {f : MV → List MV → Store → Res MV} {r : V → List V → Hp → VK → Prop} (hw : MtW G f r) {σ : L2.St} {H : Hp} {Q : VK} (h : tD G W (dMet isLst f da dr) σ H Q) : tBM G.K "list" r (tD G W da) (tDs G W dr) σ H Q := by
  obtain ⟨ι, S, ρ, s, re, h⟩ := h
  refine ⟨ι, S, ρ, s, re, (fin.bind h).mono fun w ι1 H1 S1 p _ h1 v r1 => ?_⟩
  obtain ⟨S1, s1, _, re1, _, h1⟩ := h1
  split at h1
  · rename_i hc
    refine ⟨?_, ι1, S1, ρ, s1, re1 _ _ re, (fin.bind h1).mono fun ws ι2 H2 S2 p2 _ h2 vs r2 => ?_⟩
    · unfold isLst at hc
      split at hc
      · cases r1 with
        | ref i =>
          split at hc
          · rename_i hS
            obtain ⟨vs, g, q⟩ := s1.obj _ _ _ hS i
            exact .inl ⟨rfl, vs, .of g⟩
          · cases hc
      · cases hc
    · obtain ⟨S2, s2, m2, _, _, h2⟩ := h2
      exact hw ι2 H2 S2 _ Q w v ws vs s2 (m2 _ _ r1) r2 h2
  · exact h1.elim
def fAppend (o : MV) (ws : List MV) (S : Store) : Res MV := match o, ws with
  | .ref n, [w] => match S[n]? with
    | some (.lst l) => if l.length < 100000 then .ok .non (S.set n (.lst (l ++ [w]))) else .stuck
    | _ => .stuck
  | _, _ => .stuck
theorem lst_write {ι : List Addr} {H : Hp} {S : Store} {n : Nat} {p : Addr} {vs vs' : List V} {l' : List MV} {Q : VK} {E : Value → Option Addr → Hp → Prop} (s : Sim G ι H S) (hi : ι[n]? = some p) (g : H p = some (.lst vs)) (q : RWs G ι H l' vs') (h : fin G ι H E (PV G Q) (.ok .non (S.set n (.lst l')))) : Q .non (upd H p (.lst vs')) := by
  have t := sqT_upd (K := G.K) (ho := .lst vs') (noTup_of g (fun _ z => by cases z) (fun _ _ z => by cases z))
  exact h ι _ (s.write hi g (fun _ z => by cases z) (fun _ _ z => by cases z) ⟨_, upd_same, q.mono (fun _ _ e => e) t⟩) _ .non
theorem w_append : MtW G fAppend rAppend := fun ι H S E Q w v ws vs s r1 r2 h => by
  unfold fAppend at h
  split at h
  · cases r1 with
    | ref i =>
      split at h
      · rename_i l hS
        obtain ⟨xs, g, q⟩ := s.obj _ _ _ hS i
        split at h
        · rename_i hz
          obtain ⟨y, rfl, r3⟩ := rws1 r2
          exact ⟨_, xs, y, rfl, rfl, g, by rw [← q.length]; exact Nat.lt_of_lt_of_le hz (by rw [sizeLine_eq]; decide), lst_write s i g (q.append (.cons r3 .nil)) h⟩
        · exact h.elim
      · exact h.elim
  · exact h.elim
theorem de_append {apos : Pos} (hK : X.K = G.K) (ho : DE X G W a da) (ha : DA X G W (b :: es) dr) (hbase : attributeBase a "append" X.env (eval a X.env) = eval a X.env := by rfl)
    (hfew : ((backTo pos (starEach (b :: es) X.env)).all (fun x => !x.1) && (backToKw pos (keywordEach [] X.env)).all (fun x => x.1.isSome)
      && decide ((b :: es).length + ([] : List Keyword).length + (if ([] : List Keyword).isEmpty then 0 else 1) < 30)) = true := by rfl)
    (hline : (apos.endLine == pos.line) = true := by rfl) (hs : starEach (b :: es) X.env = (false, eval b X.env) :: starEach es X.env := by rfl) (hplain : (backTo pos (starEach es X.env)).any (·.1) = false := by rfl) :
    DE X G W (.Call (.Attribute a "append" apos) (b :: es) [] pos) (dMet isLst fAppend da dr) :=
  ⟨PE.imp (pe_bm PySem.F.plainAttrs_list PySem.F.slot_list_append PySem.F.type_list_append mt_append ho.run ha.run hbase hfew hline hs hplain) fun σ H Q h => by rw [hK]; exact met_imp w_append h⟩
/-! ### isinstance of the built-in classes -/
def tyM (w : MV) (S : Store) : Option String := match w with
  | .non => some "NoneType"
  | .bl _ => some "bool"
  | .int _ => some "int"
  | .str _ => some "str"
  | .tup _ => some "tuple"
  | .ref n => match S[n]? with
    | some (.lst _) => some "list"
    | some (.rol _) => some "list"
    | some (.dic _) => some "dict"
    | _ => none
theorem tyM_ok {ι : List Addr} {H : Hp} {S : Store} {w : MV} {v : V} {t : String} (s : Sim G ι H S) (r : RW G ι H w v) (e : tyM w S = some t) : TyX G.K H v (.type t) := by
  unfold tyM at e
  split at e
  · cases r; cases e; exact .base .non
  · cases r; cases e; exact .base (.bl _)
  · cases r; cases e; exact .base (.int _)
  · cases r; cases e; exact .base (.str _)
  · cases r with
    | tup t q =>
      cases e
      rcases t with (t | ⟨o, t⟩) | ⟨o, its, n, t, hc, _⟩
      · exact .base (.tup t)
      · exact .fTuple t
      · exact .kTuple t hc
  · cases r with
    | ref i =>
      split at e
      · rename_i hS
        obtain ⟨vs, g, q⟩ := s.obj _ _ _ hS i
        cases e
        exact .base (.lst g)
      · rename_i hS
        obtain ⟨o, vs, g, q⟩ := s.obj _ _ _ hS i
        cases e
        exact .base (.frz g)
      · rename_i hS
        obtain ⟨kv, g, q⟩ := s.obj _ _ _ hS i
        cases e
        exact .base (.dK g)
      · cases e
/-- the answers for the six kinds -/
def isTy (t T : String) : Bool := t == T || (t == "bool" && T == "int")
def fIsT (T : String) (w : MV) (S : Store) : Res MV := match tyM w S with
  | some t => .ok (.bl (isTy t T)) S
  | none => .stuck
theorem tyM_in {w : MV} {S : Store} {t : String} (e : tyM w S = some t) : t ∈ ["NoneType", "bool", "int", "str", "tuple", "list", "dict"] := by
  unfold tyM at e
  split at e <;> first | (cases e; decide) | skip
  split at e <;> first | (cases e; decide) | cases e
/-- isinstance(e, T), T a built-in class; hk by decide +kernel -/
theorem de_isT {T : String} {x : Str} {p p2 : Pos} (hK : X.K = G.K) (hg : Gl X "isinstance") (hm : X.mg "isinstance" = none) (hg2 : Gl X x) (hm2 : X.mg x = none) (hv2 : bootBuiltins x = some (.type T)) (hk : ∀ t ∈ ["NoneType", "bool", "int", "str", "tuple", "list", "dict"], kitB t T = some (isTy t T))
    (hn2 : x ≠ "__name__") (hd2 : (x == ("__debug__" : Str)) = false) (ha : DE X G W a da) (hs : starEach [a, .Name x p2] X.env = (false, eval a X.env) :: starEach [.Name x p2] X.env := by rfl) (hpl : (backTo pos (starEach [.Name x p2] X.env)).any (·.1) = false := by rfl) :
    DE X G W (.Call (.Name "isinstance" p) [a, .Name x p2] [] pos) (dUn (fIsT T) da) := by
  refine ⟨PE.imp (pe_callB call_isi hg hm (by decide +kernel) (pa_cons ha.run (pa_cons (pe_bltn (v := .ty T) hg2 hm2 hv2 rfl hn2 hd2) pa_nil) hs) (by decide) (by decide) hs hpl) fun σ H Q h => ?_⟩
  obtain ⟨ι, S, ρ, s, re, h⟩ := h
  refine ⟨ι, S, ρ, s, re, (fin.bind h).mono fun w ι1 H1 S1 p _ h1 v r => ?_⟩
  obtain ⟨S1, s1, _, re1, _, h1⟩ := h1
  unfold fIsT at h1
  split at h1
  · rename_i t e
    exact ⟨v, .ty T, .type t, .type T, isTy t T, rfl, .ty T, by rw [hK]; exact tyM_ok s1 r e, kit_ty (hk t (tyM_in e)), h1 ι1 H1 (.refl s1) _ (.bl _)⟩
  · exact h1.elim
def fIsT2 (T U : String) (w : MV) (S : Store) : Res MV := match tyM w S with
  | some t => .ok (.bl (isTy t T || isTy t U)) S
  | none => .stuck
/-- isinstance(e, (T, U)) -/
theorem de_isT2 {T U : String} {x y : Str} {p p2 p3 p4 : Pos} {k : Nat} (hK : X.K = G.K) (hg : Gl X "isinstance") (hm : X.mg "isinstance" = none) (hg2 : Gl X x) (hm2 : X.mg x = none) (hv2 : bootBuiltins x = some (.type T)) (hk : ∀ t ∈ ["NoneType", "bool", "int", "str", "tuple", "list", "dict"], kitB t T = some (isTy t T))
    (hn2 : x ≠ "__name__") (hd2 : (x == ("__debug__" : Str)) = false) (hg3 : Gl X y) (hm3 : X.mg y = none) (hv3 : bootBuiltins y = some (.type U)) (hk3 : ∀ t ∈ ["NoneType", "bool", "int", "str", "tuple", "list", "dict"], kitB t U = some (isTy t U))
    (hn3 : y ≠ "__name__") (hd3 : (y == ("__debug__" : Str)) = false) (ha : DE X G W a da) (hs : starEach [a, .Tuple [.Name x p2, .Name y p3] k p4] X.env = (false, eval a X.env) :: starEach [.Tuple [.Name x p2, .Name y p3] k p4] X.env := by rfl) (hpl : (backTo pos (starEach [.Tuple [.Name x p2, .Name y p3] k p4] X.env)).any (·.1) = false := by rfl) :
    DE X G W (.Call (.Name "isinstance" p) [a, .Tuple [.Name x p2, .Name y p3] k p4] [] pos) (dUn (fIsT2 T U) da) := by
  refine ⟨PE.imp (pe_callB call_isiT hg hm (by decide +kernel) (pa_cons ha.run (pa_cons (pe_tup (pa_cons (pe_bltn (v := .ty T) hg2 hm2 hv2 rfl hn2 hd2) (pa_cons (pe_bltn (v := .ty U) hg3 hm3 hv3 rfl hn3 hd3) pa_nil))) pa_nil) hs) (by decide) (by decide) hs hpl) fun σ H Q h => ?_⟩
  obtain ⟨ι, S, ρ, s, re, h⟩ := h
  refine ⟨ι, S, ρ, s, re, (fin.bind h).mono fun w ι1 H1 S1 p _ h1 v r => ?_⟩
  obtain ⟨S1, s1, _, re1, _, h1⟩ := h1
  refine ⟨(show 2 ≤ sizeLine by rw [sizeLine_eq]; decide), fun tp hp => ?_⟩
  unfold fIsT2 at h1
  have q := s1.lay hp (.tup [.ty T, .ty U])
  split at h1
  · rename_i t e
    refine ⟨v, tp, [.ty T, .ty U], .type t, [.type T, .type U], isTy t T || isTy t U, rfl, upd_same, .cons (.ty T) (.cons (.ty U) .nil), by rw [hK]; exact tyM_ok q.sim (q.rw r) e, ?_, h1 ι1 _ q _ (.bl _)⟩
    refine kitAny_cons (b := isTy t T) (kit_ty (hk t (tyM_in e))) (fun e1 => ?_) (fun e1 => by rw [e1]; rfl)
    refine kitAny_cons (b := isTy t U) (kit_ty (hk3 t (tyM_in e))) (fun e2 => ?_) (fun e2 => by rw [e1, e2]; rfl)
    rw [e1, e2]
    exact kitAny_nil
  · exact h1.elim
end
end MI

set_option Elab.async false
set_option linter.all false
set_option maxRecDepth 100000
set_option maxHeartbeats 1000000
/-! ### enumerate of one argument, whatever begins an iterator -/
namespace PySem
namespace EnumOne
theorem made {v : Value} {o : Obj} {H : Heap → Prop} (B : Begins v o H) :
    Meets (Builtin.«enumerate.__new__» ⟨[.type "enumerate", v], []⟩) (fun _ R s => H s.heap ∧ R (.ok (.ret (.ref (s.heap.push o).objs.size))) { s with heap := (s.heap.push o).push { cls := .type "enumerate", data := .fields #[.none, .bool false, .ref s.heap.objs.size, rawInt 0, .none, .none] } }) := by
  refine .of_wp fun prog w A R s h => ?_
  obtain ⟨hp, g, d, tk, os⟩ := s
  have hsub := sub_enumerate
  have begin_ : ∀ {A' : Around} {E : Value → Shared → Prop} {Q : Value → Shared → Prop}, Q (.ref hp.objs.size) ⟨hp.push o, g, d, tk, os⟩ → wpAny (model prog w) A' (pyIter v) Q E ⟨hp, g, d, tk, os⟩ := fun q => B.iter prog w _ _ ⟨hp, g, d, tk, os⟩ _ h.1 q
  wp_walk using begin_
  refine wpAny_stack_any fun st => wpAny_pure ?_
  split
  · rename_i c _ _ _ _ _
    by_cases z : (c == Value.type "enumerate") = true <;> simp only [z, Bool.not_eq_true] at * <;> (wp_walk using begin_; exact ⟨_, rfl, h.2⟩)
  · wp_walk using begin_; exact ⟨_, rfl, h.2⟩
section
variable {prog : Program} {w : World} {A : Around} {E : Value → Shared → Prop} {s : Shared}
theorem call {v : Value} {o : Obj} {H : Heap → Prop} {Q : Value → Shared → Prop} (B : Begins v o H) (h1 : H s.heap)
    (h : ∀ h', IsEnum h' (s.heap.objs.size + 1) s.heap.objs.size 0 .none → h'.get? s.heap.objs.size = some o → (∀ b o, s.heap.get? b = some o → h'.get? b = some o) → Q (.ref (s.heap.objs.size + 1)) { s with heap := h' }) : wpAny (model prog w) A (PySem.call (.type "enumerate") [v]) Q E s := by
  refine callType_new F.called_enumerate (by decide) (F.typeCall_enumerate_1 _) (F.newCall_enumerate_1 _) (fun obj => F.args_object_init_2 obj _) F.entry_enumerate_new (made B) ⟨h1, ?_⟩
  have sz : (s.heap.push o).objs.size = s.heap.objs.size + 1 := Heap.size_push ..
  have en : IsEnum ((s.heap.push o).push { cls := .type "enumerate", data := .fields #[.none, .bool false, .ref s.heap.objs.size, rawInt 0, .none, .none] }) (s.heap.objs.size + 1) s.heap.objs.size 0 .none := by
    have t := Heap.get?_push_size (s.heap.push o) (o := { cls := .type "enumerate", data := .fields #[.none, .bool false, .ref s.heap.objs.size, rawInt 0, .none, .none] }) rfl
    rw [sz] at t
    exact t
  show _ ∧ _
  rw [sz]
  exact ⟨⟨_, en, rfl⟩, h _ en (Heap.get?_push_of_some _ (Heap.get?_push_size _ B.free)) fun b o' x => Heap.get?_push_of_some _ (Heap.get?_push_of_some _ x)⟩
end
end EnumOne
end PySem
namespace MI
open PySem PySem.Spec PyProof.Rows L2
/-- a tuple's items, each in a new pair with its number, counted from k -/
def IteT (K : PySem.W.Frag) (a : Addr) (k : Int) : It :=
  ⟨fun i H => ∃ (xs : List V) (x : V), SqT K H a xs ∧ xs[i]? = some x, fun i H v H' => ∃ T x, v = .ref T ∧ H T = none ∧ H' = upd H T (.tup [.int (k + (i : Nat)), x]) ∧ ∀ xs, SqT K H a xs → xs[i]? = some x, fun i H => ∃ xs : List V, SqT K H a xs ∧ xs.length ≤ i⟩
theorem turn_enumT {P : Program} {w : World} {K : PySem.W.Frag} {elts : List Expr} {kk : Nat} {tpos : Pos} (a e it : Addr) (k : Int) (hae : a ≠ it) (hea : a ≠ e) :
    Turn P w K (.Tuple elts kk tpos) (IteT K a k) [e, it] e (fun i h => (∃ old, IsEnum h e it (k + ((i : Nat) : Int)) old) ∧ h.IsTupleIter it a i ∧ e ≠ it) where
  mem := List.mem_cons_self
  obj := fun i h st b hb => by
    obtain ⟨⟨old, he⟩, ⟨o, ho, hc, hd⟩, _⟩ := st
    rw [List.mem_cons, List.mem_singleton] at hb
    rcases hb with rfl | rfl
    · exact ⟨_, he, fun v q => nomatch q⟩
    · exact ⟨o, ho, fun v q => by rw [hd] at q; cases q⟩
  keep := fun i h h' st k => ⟨⟨st.1.choose, k e (by simp) _ st.1.choose_spec⟩, st.2.1.at fun o q => k it (by simp) o q, st.2.2⟩
  item := by
    intro X hP hw hK hc i pins s σ H E I hf st hg
    subst hP hw hK
    obtain ⟨⟨old, he⟩, hit, hne⟩ := st
    obtain ⟨xs, x, hq, hx⟩ := hg
    obtain ⟨its, rv, p, _⟩ := I.tuple hq
    obtain ⟨u, hu, ru⟩ := rv.get hx
    have hil : i < its.toArray.size := by
      rw [List.size_toArray]
      exact (List.getElem?_eq_some_iff.mp hu).1
    have lte := Heap.lt_size he
    have lti : it < s.heap.objs.size := by obtain ⟨_, q, _⟩ := hit; exact Heap.lt_size q
    have DT := Draws.tuple (prog := X.prog) (w := X.w) (A := X.A.in1) (I.ok.hd hc) it a hae its.toArray
    refine wpAny_pyNext_enum_itemC DT he ⟨hit, p⟩ hil hne (by simp only [List.mem_cons, List.not_mem_nil, or_false, not_or]; exact ⟨hne, Ne.symm hea⟩) fun x' h' tk hP ho hst' hT hsz hk => ?_
    have hxu : x' = u := by
      have z : its.toArray[i]? = some x' := hP
      rw [List.getElem?_toArray, hu] at z
      exact (Option.some.inj z).symm
    subst hxu
    refine ⟨_, rfl, wpAny_letOwnedTupleGo_enum (s := { s with heap := h', toks := tk + 1 }) ho fun h'' he' sb => ?_⟩
    have hT2 := (sb.2 _ (Nat.ne_of_gt lte)).trans hT
    have new : ObjOk X.prog X.w (upd H s.heap.objs.size (.tup [.int (k + (i : Nat)), x])) h'' s.heap.objs.size (.tup [.int (k + (i : Nat)), x]) := ⟨(show 2 ≤ sizeLine by decide), [.int (k + (i : Nat)) tk, x'], .cons ⟨_, rfl⟩ (.cons ru .nil), ⟨_, hT2, rfl, _, rfl⟩⟩
    have I1 : Inv X pins σ (upd H s.heap.objs.size (.tup [.int (k + (i : Nat)), x])) { s with heap := h'', toks := tk + 1 } :=
      I.turnedNew (t' := tk + 1) (ch := [e, it]) (fun b ob hb q => by
        rw [List.mem_cons, List.mem_singleton, not_or] at hb
        exact (sb.2 b hb.1).trans (hk b ob hb.1 hb.2 q)) hf (Nat.le_refl _) new
    refine ⟨.ref s.heap.objs.size, _, I1, rfl, ⟨_, x, rfl, I.hok.fresh (Nat.le_refl _), rfl, fun ys hy => by rw [I.tuple_inj hy hq]; exact hx⟩, ⟨⟨x', ?_⟩, hst'.1.at fun o q => (sb.2 it (Ne.symm hne)).trans q, hne⟩, fun b hb => ?_⟩
    · have e1 : k + ((i + 1 : Nat) : Int) = k + (i : Int) + 1 := by omega
      rw [e1]
      exact he'
    · have hb' : b < s.heap.objs.size := by
        rw [List.mem_cons, List.mem_singleton] at hb
        rcases hb with rfl | rfl
        · exact lte
        · exact lti
      rw [upd_ne (Nat.ne_of_lt hb')]
      exact (hf b hb).1
  done := by
    intro X hP hw hK hc i pins s σ H E I hf st hg
    subst hP hw hK
    obtain ⟨⟨old, he⟩, hit, hne⟩ := st
    obtain ⟨xs, hq, hx⟩ := hg
    obtain ⟨its, rv, p, _⟩ := I.tuple hq
    obtain ⟨f0, f1, f2, f3, f4, f5⟩ := hf it (by simp)
    have hl := rv.length
    have hend : its.toArray[i]? = none := by simp; omega
    unfold pyNext
    have hT : s.TypeIs (.ref e) "enumerate" := ⟨_, he, rfl⟩
    refine wpAny_bind (wpAny_attempt (wpAny_callSpecial?_slot (name := Str.ofString "__next__") hT F.slot_enumerate_next (wpAny_call_entry F.slot_enumerate_next hT F.entry_enumerate_next ?_ (F.args_enumerate_next_1 _))))
    show wpAny _ _ (field (.ref e) 2 >>= _) _ _ _
    refine wpAny_bind (wpAny_field he rfl (x := .ref it) rfl (wpAny_bind (wpAny_nextOf_tuple_end (I.ok.hd hc) hit p hend fun h' x he' hx' => ?_)))
    obtain ⟨o, ho, hc'⟩ := hx'
    exact wpAny_bind (wpAny_isInstance (T := "StopIteration") (b := true) ⟨o, ho, hc'⟩ isSubtype_stop (wpAny_pure ⟨rfl, I.turned (t' := s.toks) (fun b o hb q => he' b o hb q) f0 f1 f3 f4 f5⟩))
  self := fun A i s Q E st h => wpAny_pyIter_enum st.1.choose_spec h
/-- enumerate of a list or a tuple -/
def iEnumA (K : PySem.W.Frag) (ta : TA) : TI := fun σ H R => ta σ H fun vs H1 => (∃ a xs, vs = [.ref a] ∧ SqL K H1 a xs ∧ R (Ite K a) H1) ∨ ∃ a xs, vs = [.ref a] ∧ SqT K H1 a xs ∧ R (IteT K a 0) H1
theorem pi_enumA {X : Cx} {e : Expr} {ta : TA} {p pos tpos : Pos} {elts : List Expr} {kk : Nat} (hg : Gl X "enumerate") (hm : X.mg "enumerate" = none) (ha : PA X [e] ta) (hs : starEach [e] X.env = [(false, eval e X.env)] := by rfl) :
    PI X (.Tuple elts kk tpos) (.Call (.Name "enumerate" p) [e] [] pos) (iEnumA X.K ta) := by
  constructor
  intro pins s σ H R I h
  refine Call_ (ld_blt I hg hm boot_enumerate (PyProof.Rows.callWith_type1 (thn (ha.run pos pins s σ H _ I h) fun us s1 hh => ?_) hs rfl))
  obtain ⟨vs, H1, I1, r1, q1⟩ := hh
  have near : ∀ b, b ∈ [s1.heap.objs.size + 1, s1.heap.objs.size] → s1.heap.objs.size ≤ b := fun b hb => by
    rw [List.mem_cons, List.mem_singleton] at hb
    omega
  rcases q1 with ⟨a, xs, rfl, hq, q⟩ | ⟨a, xs, rfl, hq, q⟩
  · obtain ⟨u, rfl, ru⟩ := vals1 r1
    cases ru
    obtain ⟨its, rv, p', _⟩ := I1.list hq
    refine call_enumerate_list p'.isList fun h' he hit _ hk => wpAny_pyIter_enum he ?_
    exact ⟨_, [s1.heap.objs.size + 1, s1.heap.objs.size], _, _, H1, rfl, I1.kept (t' := s1.toks) hk, turn_enum a _ s1.heap.objs.size, ⟨⟨.none, he⟩, hit, Nat.succ_ne_self _⟩, fun b hb => I1.fpOk (near b hb) (I1.hok.fresh (near b hb)), q⟩
  · obtain ⟨u, rfl, ru⟩ := vals1 r1
    cases ru
    obtain ⟨its, rv, p', _⟩ := I1.tuple hq
    have hlt : a < s1.heap.objs.size := p'.lt
    refine PySem.EnumOne.call (begins_tuple a its.toArray) p' fun h' he ho hk => wpAny_pyIter_enum he ?_
    refine ⟨_, [s1.heap.objs.size + 1, s1.heap.objs.size], _, _, H1, rfl, I1.kept (t' := s1.toks) hk, turn_enumT a _ s1.heap.objs.size 0 (Nat.ne_of_lt hlt) (Nat.ne_of_lt (Nat.lt_succ_of_lt hlt)), ⟨⟨.none, ?_⟩, ⟨_, ho, rfl, rfl⟩, Nat.succ_ne_self _⟩, fun b hb => I1.fpOk (near b hb) (I1.hok.fresh (near b hb)), q⟩
    simpa using he
end MI

set_option Elab.async false
set_option linter.all false
set_option maxRecDepth 100000
set_option maxHeartbeats 1000000
/-! ### t[::-1] of a tuple -/
namespace PySem
namespace TupBack
open PySem.W PySem.Calls PyProof.Rows HT
theorem adjust (n : Nat) : Builtin.Slice.sliceAdjust none none (-1) (n : Int) = ((n : Int) - 1, -1) := by
  unfold Builtin.Slice.sliceAdjust
  simp
theorem places (n : Nat) : Builtin.Slice.slicePlaces ((n : Int) - 1) (-1) (-1) = n := by
  unfold Builtin.Slice.slicePlaces
  simp
  omega
theorem fm_map {α β : Type} {f : α → Option β} {g : α → β} : ∀ l : List α, (∀ m ∈ l, f m = some (g m)) → l.filterMap f = l.map g
  | [], _ => rfl
  | a :: l, h => by
    rw [List.filterMap_cons, h a List.mem_cons_self, List.map_cons, fm_map l fun m hm => h m (List.mem_cons_of_mem _ hm)]
theorem pick (xs : Array Value) : ((List.range xs.size).filterMap fun (m : Nat) => xs[(((xs.size : Int) - 1) + (m : Int) * (-1)).toNat]?) = xs.toList.reverse := by
  have e : ∀ m ∈ List.range xs.size, xs[(((xs.size : Int) - 1) + (m : Int) * (-1)).toNat]? = some (xs.toList.reverse[m]?.getD .none) := fun m hm => by
    rw [List.mem_range] at hm
    have h1 : (((xs.size : Int) - 1) + (m : Int) * (-1)).toNat = xs.size - 1 - m := by omega
    have h2 : m < xs.toList.reverse.length := by simpa using hm
    rw [h1, List.getElem?_eq_getElem h2, Option.getD_some, List.getElem_reverse]
    have h3 : xs.size - 1 - m < xs.size := by omega
    rw [Array.getElem?_eq_getElem h3]
    simp
  rw [fm_map _ e]
  apply List.ext_getElem?
  intro i
  rw [List.getElem?_map]
  by_cases h : i < xs.size
  · have h2 : i < xs.toList.reverse.length := by simpa using h
    rw [List.getElem?_range h, Option.map_some, List.getElem?_eq_getElem h2, Option.getD_some]
  · rw [List.getElem?_eq_none_iff.mpr (by simpa using Nat.le_of_not_lt h), List.getElem?_eq_none_iff.mpr (by simpa using Nat.le_of_not_lt h)]
    rfl
section
variable {prog : Program} {w : World} {A : Around} {E : Value → Shared → Prop} {s : Shared}
theorem applied {sl : Addr} {vl vu vs : Value} {n : Nat} {Q : Int × Int × Nat → Shared → Prop} (hs : s.heap.IsSliceOf sl vl vu vs) (pl : IsPart vl none) (pu : IsPart vu none) (ps : IsPart vs (some (-1))) (h : Q ((n : Int) - 1, -1, n) s) :
    wpAny (model prog w) A (Builtin.Slice.sliceApplied (.ref sl) (pure (n : Int))) Q E s := by
  obtain ⟨os, h1, h2, h3⟩ := hs
  unfold Builtin.Slice.sliceApplied Builtin.Slice.sliceFields
  refine wpAny_bind (wpAny_bind (wpAny_field h1 h3 (x := vl) rfl (wpAny_bind (wpAny_field h1 h3 (x := vu) rfl (wpAny_bind (wpAny_field h1 h3 (x := vs) rfl (wpAny_pure ?_)))))))
  refine wpAny_bind (slicePart_ ps ?_)
  show wpAny _ _ (if ((-1 : Int) == 0) = true then _ else _) _ _ s
  rw [if_neg (by decide : ¬ ((-1 : Int) == 0) = true)]
  refine wpAny_bind (slicePart_ pl (wpAny_bind (slicePart_ pu (wpAny_bind (wpAny_pure ?_)))))
  show wpAny _ _ (match Builtin.Slice.sliceAdjust none none (-1) (n : Int) with | (lo, hi) => pure (lo, (-1 : Int), Builtin.Slice.slicePlaces lo hi (-1))) _ _ s
  rw [adjust n]
  show wpAny _ _ (pure ((n : Int) - 1, (-1 : Int), Builtin.Slice.slicePlaces ((n : Int) - 1) (-1) (-1))) _ _ s
  rw [places]
  exact wpAny_pure h
theorem item {t sl : Addr} {items : Array Value} {vl vu vs : Value} {Q : Value → Shared → Prop} (ht : IsTup s.heap t items) (hs : s.heap.IsSliceOf sl vl vu vs) (pl : IsPart vl none) (pu : IsPart vu none) (ps : IsPart vs (some (-1))) (hz : items.size ≤ sizeLine)
    (h : Q (.ref s.heap.objs.size) { s with heap := s.heap.push { cls := .type "tuple", data := .seq items.toList.reverse.toArray } }) : wpAny (model prog w) A (getItem (.ref t) (.ref sl)) Q E s := by
  have hT : s.TypeIs (.ref sl) "slice" := ⟨hs.choose, hs.choose_spec.1, hs.choose_spec.2.1⟩
  have fits : sizeOk (.seq items.toList.reverse.toArray) := (show items.toList.reverse.toArray.size ≤ sizeLine by rw [List.size_toArray, List.length_reverse, Array.length_toList]; exact hz)
  unfold getItem
  first | with_reducible refine wpAny_holding ?_ | skip
  first | skip | refine wpAny_bind (wpAny_pure ?_)
  refine wpAny_bind (wpAny_sequenceKey ht.typeIs (by decide) (wpAny_bind (wpAny_callSpecial?_slot (name := Str.ofString "__getitem__") ht.typeIs PyProof.Rows.slot_tuple_getitem (wpAny_call_entry PyProof.Rows.slot_tuple_getitem ht.typeIs entry_tuple_getitem ?_ (args_tuple_getitem _ _)))))
  show wpAny _ _ (Builtin.Tuple.tupleItemsOf (.ref t) >>= _) _ _ s
  refine wpAny_bind (tupleItemsOf_ ht (wpAny_bind (wpAny_typeOf hT ?_)))
  rw [if_pos (by decide : (Value.type "slice" == Value.type "slice") = true)]
  refine wpAny_bind (applied hs pl pu ps ?_)
  have no : ¬ ((((items.size : Int) - 1) == 0 && (-1 : Int) == 1 && items.size == items.size) = true) := by simp
  show wpAny _ _ (if (((items.size : Int) - 1) == 0 && (-1 : Int) == 1 && items.size == items.size) = true then _ else _) _ _ s
  rw [if_neg no, pick]
  first
    | exact wpAny_bind (m := Builtin.Tuple.tupleExact _) (wpAny_newObj_type (wpAny_bind (wpAny_pure (wpAny_pure ⟨_, rfl, wpAny_pure h⟩))) fits)
    | exact wpAny_bind (m := Builtin.Tuple.tupleExact _) (wpAny_newObj_type (wpAny_pure ⟨_, rfl, wpAny_pure h⟩) fits)
    | exact wpAny_bind (wpAny_bind (m := Builtin.Tuple.tupleExact _) (wpAny_newObj_type (wpAny_pure (wpAny_pure ⟨_, rfl, wpAny_pure h⟩)) fits))
end
end TupBack
end PySem

set_option Elab.async false
set_option linter.all false
set_option maxRecDepth 100000
set_option maxHeartbeats 1000000
namespace PySem
namespace ExtTup
open AutoSeq1
theorem meets (l : Addr) (items : Array Value) (n : Nat) (b : Addr) (items2 : Array Value) (n2 : Nat) (dct : Option Addr) (sl : Array (Option Value)) (h0 : ¬ (!items.isEmpty && Builtin.List.listTooLong (items.size + items2.size)) = true) (h1 : items.size + items2.size ≤ sizeLine) :
    Meets (Builtin.«list.extend» ⟨[.ref l, .ref b], []⟩) (fun _ R s => s.heap.get? l = some { cls := .type "list", data := .seq items n } ∧ s.heap.get? b = some { cls := .type "tuple", dict := dct, data := .seq items2 n2, slots := sl } ∧ R (.ok (.ret Value.none)) { s with heap := s.heap.update l (Obj.mapSeq fun x => x ++ items2) }) := by
  refine .of_wp fun prog w A R s h => ?_
  obtain ⟨hp, g, d, tk, os⟩ := s
  obtain ⟨hl, hb, h⟩ := h
  have hs0 := h0
  have f1 := idx_int; have f2 := sub_tuple_tuple; have f3 := sub_list_list; have f4 := sub_tuple_list; have f5 := sub_list_tuple
  have fit : (items ++ items2).size ≤ sizeLine + 1 := by rw [Array.size_append]; omega
  wp_walk using (wpAny_updateSeq hl rfl (hz := by omega) (_hz' := fit)), wpAny_loadPart' hl, wpAny_loadPart' hb
  exact ⟨_, rfl, h⟩
end ExtTup
end PySem
namespace MI
open PySem PySem.Spec PyProof.Rows L2
/-! ### e[::-1] -/
def tRevA (K : PySem.W.Frag) (te : TE) : TE := fun σ H Q => te σ H fun x H1 => (∃ a xs, x = .ref a ∧ SqL K H1 a xs ∧ ∀ p, H1 p = none → Q (.ref p) (upd H1 p (.lst xs.reverse))) ∨ ∃ a xs, x = .ref a ∧ SqT K H1 a xs ∧ ∀ p, H1 p = none → Q (.ref p) (upd H1 p (.tup xs.reverse))
section
variable {X : Cx} {G : Gx} {W : WX} {e a b c : Expr} {es : List Expr} {pos : Pos} {d da db dc : Den} {dr : DenL}
theorem pe_revA {k : Nat} {p1 p2 p3 : Pos} {te : TE} (he : PE X e te) : PE X (.Subscript e (.Slice none none (some (.UnaryOp .USub (.Constant (.int 1) k p1) p2)) p3) pos) (tRevA X.K te) := by
  constructor
  intro pins s σ H Q I h
  have step : PO X (some (.UnaryOp .USub (.Constant (.int 1) k p1) p2)) (tPart (tUn (rU fun i => .int (-i)) (tC (.int 1)))) := po_some (pe_un un_neg pe_int)
  refine Subscript_ (thn (he.run pins s σ H _ I h) fun v s1 hh => ?_)
  obtain ⟨x, H1, I1, r1, q1⟩ := hh
  refine wpAny_Slice (thn (po_none.run pins s1 σ H1 (fun o H2 => o = none ∧ H2 = H1) I1 ⟨rfl, rfl⟩) fun vl s2 h2 => ?_)
  obtain ⟨_, _, I2, pl, rfl, rfl⟩ := h2
  refine thn (po_none.run pins s2 σ _ (fun o H3 => o = none ∧ H3 = _) I2 ⟨rfl, rfl⟩) fun vu s3 h3 => ?_
  obtain ⟨_, _, I3, pu, rfl, rfl⟩ := h3
  refine thn (step.run pins s3 σ _ (fun o H4 => o = some (-1) ∧ H4 = _) I3 ⟨1, rfl, -1, rfl, rfl, rfl⟩) fun vs s4 h4 => ?_
  obtain ⟨_, _, I4, ps, rfl, rfl⟩ := h4
  have I5 := I4.kept (t' := s4.toks) (h' := s4.heap.push { cls := .type "slice", data := .fields #[vl, vu, vs] }) fun b ob q => Heap.get?_push_of_some _ q
  have hf := I5.hok.fresh (Nat.le_refl _)
  rcases q1 with ⟨a, xs, rfl, hx, q⟩ | ⟨a, xs, rfl, hx, q⟩
  · cases r1
    obtain ⟨its, r, ht, hz⟩ := I5.list hx
    show wpAny _ _ (subscriptTail e _ (.ref a) (.ref s4.heap.objs.size)) _ _ _
    refine tail_any (ops := [.ref a, .ref s4.heap.objs.size]) ht.isList.typeIs PySem.slot_list_getitem.lookup (wpAny_getItem_list_slice ht.isList (Heap.IsSliceOf.new _ vl vu vs) pl pu ps (by decide) ?_ (by rw [List.size_toArray, ← r.length]; exact hz)) (by with_unfolding_all rfl)
    rw [PySem.W.krv_pick]
    exact ⟨.ref _, _, I5.laid (t' := s4.toks) (o := .lst xs.reverse) (fun b ob q => Heap.get?_push_of_some _ q) (Nat.le_refl _) ⟨by rw [List.length_reverse]; exact hz, _, 0, r.reverse, Heap.get?_push_size _ rfl⟩, rfl, q _ hf⟩
  · cases r1
    obtain ⟨its, r, ht, hz⟩ := I5.tuple hx
    show wpAny _ _ (subscriptTail e _ (.ref a) (.ref s4.heap.objs.size)) _ _ _
    refine tail_any (ops := [.ref a, .ref s4.heap.objs.size]) ht.typeIs PyProof.Rows.slot_tuple_getitem.lookup (PySem.TupBack.item ht (Heap.IsSliceOf.new _ vl vu vs) pl pu ps (by rw [List.size_toArray, ← r.length]; exact hz) ?_) (by with_unfolding_all rfl)
    exact ⟨.ref _, _, I5.laid (t' := s4.toks) (o := .tup xs.reverse) (fun b ob q => Heap.get?_push_of_some _ q) (Nat.le_refl _) ⟨by rw [List.length_reverse]; exact hz, _, r.reverse, IsTup.new _ _⟩, rfl, q _ hf⟩
def fBack (w : MV) (S : Store) : Res MV := match w with
  | .tup l => .ok (.tup l.reverse) S
  | w => fRev w S
theorem de_back {k : Nat} {p1 p2 p3 : Pos} (hK : X.K = G.K) (ha : DE X G W a da) : DE X G W (.Subscript a (.Slice none none (some (.UnaryOp .USub (.Constant (.int 1) k p1) p2)) p3) pos) (dUn fBack da) := by
  refine ⟨PE.imp (pe_revA ha.run) fun σ H Q h => ?_⟩
  obtain ⟨ι, S, ρ, s, re, h⟩ := h
  refine ⟨ι, S, ρ, s, re, (fin.bind h).mono fun w ι1 H1 S1 p _ h1 v r => ?_⟩
  obtain ⟨S1, s1, _, re1, _, h1⟩ := h1
  rw [hK]
  unfold fBack at h1
  split at h1
  · cases r with
    | tup t q => exact .inr ⟨_, _, rfl, t, new_tup s1 (rws_rev q) h1⟩
  · unfold fRev at h1
    split at h1
    · cases r with
      | ref i =>
        split at h1
        · rename_i l hS
          obtain ⟨vs, g, q⟩ := s1.obj _ _ _ hS i
          exact .inl ⟨_, _, rfl, .of g, new_lst s1 (rws_rev q) h1⟩
        · rename_i l hS
          obtain ⟨o, vs, g, q⟩ := s1.obj _ _ _ hS i
          exact .inl ⟨_, _, rfl, .inl (.inr ⟨o, g⟩), new_lst s1 (rws_rev q) h1⟩
        · exact h1.elim
    · exact h1.elim
/-! ### enumerate, zip -/
def srcEnumL (k : Int) (l : List MV) : Src := fun i _ => match l[i]? with
  | some w => .yield (.tup [.int (k + i), w])
  | none => .stop
def srcEnumR (n : Nat) : Src := fun i S => match S[n]? with
  | some (.lst l) => (match l[i]? with
    | some w => .yield (.tup [.int i, w])
    | none => .stop)
  | some (.rol l) => (match l[i]? with
    | some w => .yield (.tup [.int i, w])
    | none => .stop)
  | _ => .stuck
def enumOf (ws : List MV) (S : Store) : Res Src := match ws with
  | [.tup l] => .ok (srcEnumL 0 l) S
  | [.ref n] => match S[n]? with
    | some (.lst _) => .ok (srcEnumR n) S
    | some (.rol _) => .ok (srcEnumR n) S
    | _ => .stuck
  | _ => .stuck
theorem pair_ok {ι : List Addr} {H : Hp} {S : Store} {T : Addr} {w1 w2 : MV} {v1 v2 : V} (s : Sim G ι H S) (hT : H T = none) (r1 : RW G ι H w1 v1) (r2 : RW G ι H w2 v2) : Post G ι H ι (upd H T (.tup [v1, v2])) S ∧ RW G ι (upd H T (.tup [v1, v2])) (.tup [w1, w2]) (.ref T) := by
  have q := s.lay hT (.tup [v1, v2])
  exact ⟨q, .tup (.of upd_same) (.cons (q.rw r1) (.cons (q.rw r2) .nil))⟩
theorem it_enumT {K : PySem.W.Frag} (hK : K = G.K) {ι : List Addr} {H : Hp} {a : Addr} {vs : List V} {l : List MV} {k : Int} (t : SqT K H a vs) (q : RWs G ι H l vs) : ItOk G ι H (IteT K a k) (srcEnumL k l) := fun i ι1 H1 S1 p => by
  subst hK
  have t1 := p.tup _ _ t
  have q1 := p.rws q
  unfold srcEnumL
  cases e : l[i]? with
  | some w =>
    obtain ⟨v, e2, r⟩ := q1.get e
    refine ⟨⟨vs, v, t1, e2⟩, fun x H' y => ?_⟩
    obtain ⟨T, x', rfl, hT, rfl, y⟩ := y
    have z := y vs t1
    rw [e2] at z
    cases z
    exact pair_ok p.sim hT (.int _) r
  | none =>
    refine ⟨vs, t1, ?_⟩
    rw [← q1.length]
    exact List.getElem?_eq_none_iff.mp e
theorem it_enumR {K : PySem.W.Frag} (hK : K = G.K) {ι : List Addr} {H : Hp} {a : Addr} {n : Nat} (t : ι[n]? = some a) : ItOk G ι H (Ite K a) (srcEnumR n) := fun i ι1 H1 S1 p => by
  subst hK
  have t1 := p.ext _ _ t
  have main : ∀ (l : List MV) (vs : List V), SqL G.K H1 a vs → RWs G ι1 H1 l vs → (match (match l[i]? with
    | some w => Nx.yield (.tup [.int i, w])
    | none => .stop) with
    | .yield w => (Ite G.K a).go i H1 ∧ ∀ x H', (Ite G.K a).yld i H1 x H' → Post G ι1 H1 ι1 H' S1 ∧ RW G ι1 H' w x
    | .stop => (Ite G.K a).stop i H1
    | .stuck => True) := fun l vs hs q1 => by
    cases e : l[i]? with
    | some w =>
      obtain ⟨v, e2, r⟩ := q1.get e
      refine ⟨⟨vs, v, hs, e2⟩, fun x H' y => ?_⟩
      obtain ⟨T, x', rfl, hT, rfl, y⟩ := y
      have z := y vs hs
      rw [e2] at z
      cases z
      exact pair_ok p.sim hT (.int _) r
    | none =>
      refine ⟨vs, hs, ?_⟩
      rw [← q1.length]
      exact List.getElem?_eq_none_iff.mp e
  unfold srcEnumR
  cases hS : S1[n]? with
  | none => trivial
  | some o =>
    cases o with
    | lst l =>
      obtain ⟨vs, g, q1⟩ := p.sim.obj _ _ _ hS t1
      exact main l vs (.of g) q1
    | rol l =>
      obtain ⟨o, vs, g, q1⟩ := p.sim.obj _ _ _ hS t1
      exact main l vs (.inl (.inr ⟨o, g⟩)) q1
    | dic kvs => trivial
    | ins c fs => trivial
theorem di_enum {p tpos : Pos} {elts : List Expr} {kk : Nat} (hK : X.K = G.K) (hg : Gl X "enumerate") (hm : X.mg "enumerate" = none) (ha : DA X G W [a] dr) (hs : starEach [a] X.env = [(false, eval a X.env)] := by rfl) :
    DI X G W (.Tuple elts kk tpos) (.Call (.Name "enumerate" p) [a] [] pos) (iRng enumOf dr) := ⟨PI.imp (pi_enumA hg hm ha.run hs) fun σ H R h => by
  obtain ⟨ι, S, ρ, s, re, h⟩ := h
  refine ⟨ι, S, ρ, s, re, (fin.bind h).mono fun ws ι1 H1 S1 p _ h1 vs r => ?_⟩
  obtain ⟨S1, s1, _, _, _, h1⟩ := h1
  unfold enumOf at h1
  split at h1
  · obtain ⟨v, rfl, r1⟩ := rws1 r
    cases r1 with
    | tup t q => exact .inr ⟨_, _, rfl, by rw [hK]; exact t, h1 ι1 H1 (.refl s1) _ (it_enumT hK (by rw [hK]; exact t) q)⟩
  · obtain ⟨v, rfl, r1⟩ := rws1 r
    cases r1 with
    | ref i =>
      split at h1
      · rename_i hS
        obtain ⟨vs, g, q⟩ := s1.obj _ _ _ hS i
        exact .inl ⟨_, vs, rfl, .of g, h1 ι1 H1 (.refl s1) _ (it_enumR hK i)⟩
      · rename_i hS
        obtain ⟨o, vs, g, q⟩ := s1.obj _ _ _ hS i
        exact .inl ⟨_, vs, rfl, .inl (.inr ⟨o, g⟩), h1 ι1 H1 (.refl s1) _ (it_enumR hK i)⟩
      · exact h1.elim
  · exact h1.elim⟩
def srcZipT (l m : List MV) : Src := fun i _ => match l[i]?, m[i]? with
  | some w, some u => .yield (.tup [w, u])
  | _, _ => .stop
def zipOf (ws : List MV) (S : Store) : Res Src := match ws with
  | [.tup l, .tup m] => .ok (srcZipT l m) S
  | _ => .stuck
theorem it_zipT {K : PySem.W.Frag} (hK : K = G.K) {ι : List Addr} {H : Hp} {a b : Addr} {vs us : List V} {l m : List MV} (t : SqT K H a vs) (q : RWs G ι H l vs) (t' : SqT K H b us) (q' : RWs G ι H m us) : ItOk G ι H (RZ.ItzT K a b) (srcZipT l m) := fun i ι1 H1 S1 p => by
  subst hK
  have t1 := p.tup _ _ t
  have q1 := p.rws q
  have t2 := p.tup _ _ t'
  have q2 := p.rws q'
  unfold srcZipT
  cases e : l[i]? with
  | some w =>
    cases e' : m[i]? with
    | some u =>
      obtain ⟨v, f, r⟩ := q1.get e
      obtain ⟨v', f', r'⟩ := q2.get e'
      refine ⟨⟨vs, us, v, v', t1, t2, f, f'⟩, fun x H' y => ?_⟩
      obtain ⟨T, x1, x2, rfl, hT, rfl, y1, y2⟩ := y
      have z1 := y1 vs t1
      have z2 := y2 us t2
      rw [f] at z1
      rw [f'] at z2
      cases z1
      cases z2
      exact pair_ok p.sim hT r r'
    | none =>
      refine ⟨vs, us, t1, t2, .inr ?_⟩
      rw [← q2.length]
      exact List.getElem?_eq_none_iff.mp e'
  | none =>
    refine ⟨vs, us, t1, t2, .inl ?_⟩
    rw [← q1.length]
    exact List.getElem?_eq_none_iff.mp e
theorem di_zip {p tpos : Pos} {elts : List Expr} {kk : Nat} (hK : X.K = G.K) (hg : Gl X "zip") (hm : X.mg "zip" = none) (ha : DA X G W [a, b] dr) (hs : starEach [a, b] X.env = (false, eval a X.env) :: starEach [b] X.env := by rfl) (hpl : (backTo pos (starEach [b] X.env)).any (·.1) = false := by rfl) :
    DI X G W (.Tuple elts kk tpos) (.Call (.Name "zip" p) [a, b] [] pos) (iRng zipOf dr) := ⟨PI.imp (RZ.pi_zipA hg hm ha.run hs hpl) fun σ H R h => by
  obtain ⟨ι, S, ρ, s, re, h⟩ := h
  refine ⟨ι, S, ρ, s, re, (fin.bind h).mono fun ws ι1 H1 S1 p _ h1 vs r => ?_⟩
  obtain ⟨S1, s1, _, _, _, h1⟩ := h1
  unfold zipOf at h1
  split at h1
  · obtain ⟨v, v2, rfl, r1, r2⟩ := rws2 r
    cases r1 with
    | tup t q => cases r2 with
      | tup t' q' => exact ⟨_, _, _, _, rfl, .inr ⟨by rw [hK]; exact t, by rw [hK]; exact t', h1 ι1 H1 (.refl s1) _ (it_zipT hK (by rw [hK]; exact t) q (by rw [hK]; exact t') q')⟩⟩
  · exact h1.elim⟩
/-! ### *e among items -/
def aStar (d : Den) (r : DenL) : DenL := fun ρ S => (d ρ S).bind fun w S1 => match itemsOf w S1 with
  | some l => (r ρ S1).bind fun ws S2 => .ok (l ++ ws) S2
  | none => .stuck
theorem da_star {p : Pos} (hK : X.K = G.K) (ha : DE X G W a da) (hr : DA X G W es dr) (hs : starEach (.Starred a p :: es) X.env = (true, eval a X.env) :: starEach es X.env := by rfl) : DA X G W (.Starred a p :: es) (aStar da dr) := ⟨PA.imp (StX.pa_star ha.run hr.run hs) fun σ H Q h => by
  obtain ⟨ι, S, ρ, s, re, h⟩ := h
  refine ⟨ι, S, ρ, s, re, (fin.bind h).mono fun w ι1 H1 S1 p _ h1 v r => ?_⟩
  obtain ⟨S1, s1, m1, re1, _, h1⟩ := h1
  split at h1
  · rename_i l e
    obtain ⟨x, us, rfl, t, q⟩ := items_ok s1 r e
    refine ⟨x, us, rfl, by rw [hK]; exact t.symm, ι1, S1, ρ, s1, re1 _ _ re, (fin.bind h1).mono fun ws ι2 H2 S2 p2 _ h2 vs rs => ?_⟩
    obtain ⟨S2, s2, m2, _, _, h2⟩ := h2
    exact h2 ι2 H2 (.refl s2) _ ((q.mono (fun n a e => by
      have := m2 (.ref n) (.ref a) (.ref e)
      cases this with
      | ref z => exact z) (fun a xs t => p2.tup a xs t)).append rs)
  · exact h1.elim⟩
/-! ### all, any over a list of True and False -/
def bools : List MV → Option (List Bool)
  | [] => some []
  | .bl k :: l => (bools l).map (k :: ·)
  | _ :: _ => none
theorem bools_ok {ι : List Addr} {H : Hp} : ∀ {l : List MV} {vs : List V} {bs : List Bool}, RWs G ι H l vs → bools l = some bs → vs = bs.map V.bl
  | [], _, bs, r, e => by cases r; cases e; rfl
  | w :: l, _, bs, r, e => by
    cases r with
    | cons r1 r2 =>
      cases w with
      | bl k =>
        cases r1
        unfold bools at e
        cases e2 : bools l with
        | none => rw [e2] at e; cases e
        | some bs2 =>
          rw [e2] at e
          cases e
          rw [bools_ok r2 e2]
          rfl
      | non => cases e
      | int i => cases e
      | str s => cases e
      | tup l => cases e
      | ref n => cases e
def fAllAny (f : List Bool → Bool) : FnM := fun ws S => match ws with
  | [.ref n] => match S[n]? with
    | some (.lst l) => match bools l with
      | some bs => .ok (.bl (f bs)) S
      | none => .stuck
    | _ => .stuck
  | _ => .stuck
theorem w_allAny (f : List Bool → Bool) : ClW G (fAllAny f) (fun vs H Q => ∃ (a : Addr) (bs : List Bool), vs = [V.ref a] ∧ SqL G.K H a (bs.map V.bl) ∧ Q (.bl (f bs)) H) := fun ι H S E Q ws vs s r h => by
  unfold fAllAny at h
  split at h
  · obtain ⟨v, rfl, r1⟩ := rws1 r
    cases r1 with
    | ref i =>
      split at h
      · rename_i hS
        obtain ⟨us, g, q⟩ := s.obj _ _ _ hS i
        split at h
        · rename_i bs e
          have z := bools_ok q e
          subst z
          exact ⟨_, bs, rfl, .of g, h ι H (.refl s) _ (.bl _)⟩
        · exact h.elim
      · exact h.elim
  · exact h.elim
theorem de_all {p : Pos} (hK : X.K = G.K) (hc : X.calm = true) (hg : Gl X "all") (hm : X.mg "all" = none) (ha : DA X G W (a :: es) dr)
    (he : starEach (a :: es) X.env = (false, eval a X.env) :: starEach es X.env := by rfl) (hpl : (backTo pos (starEach es X.env)).any (·.1) = false := by rfl) : DE X G W (.Call (.Name "all" p) (a :: es) [] pos) (dCall (fAllAny fun bs => bs.all id) dr) :=
  de_callB (cr_all hc) (by rw [hK]; exact w_allAny _) hg hm (by decide +kernel) ha (by decide) (by decide) he hpl
theorem de_any {p : Pos} (hK : X.K = G.K) (hc : X.calm = true) (hg : Gl X "any") (hm : X.mg "any" = none) (ha : DA X G W (a :: es) dr)
    (he : starEach (a :: es) X.env = (false, eval a X.env) :: starEach es X.env := by rfl) (hpl : (backTo pos (starEach es X.env)).any (·.1) = false := by rfl) : DE X G W (.Call (.Name "any" p) (a :: es) [] pos) (dCall (fAllAny fun bs => bs.any id) dr) :=
  de_callB (cr_any hc) (by rw [hK]; exact w_allAny _) hg hm (by decide +kernel) ha (by decide) (by decide) he hpl
/-! ### xs.extend(ys), ys a list or a tuple -/
def rExtA (K : PySem.W.Frag) : V → List V → Hp → VK → Prop := fun x vs H Q => rExtend x vs H Q ∨ ∃ l b xs zs, x = .ref l ∧ vs = [.ref b] ∧ H l = some (.lst xs) ∧ SqT K H b zs ∧ xs.length + zs.length ≤ 200000 ∧ Q .non (upd H l (.lst (xs ++ zs)))
theorem mt_extA : MtR X "list.extend" (rExtA X.K) := by
  intro pins s σ H x vs v us Q I rx rv h
  rcases h with h | ⟨l, b, xs, zs, rfl, rfl, hH, hB, hz, q⟩
  · exact mt_extend pins s σ H x vs v us Q I rx rv h
  · cases rx
    obtain ⟨u, rfl, ru⟩ := vals1 rv
    cases ru
    obtain ⟨_, its, n, r, hl, e⟩ := I.lstM hH
    obtain ⟨its2, r2, ⟨⟨oc, od, dt, sl⟩, e2, hc, n2, hd⟩, _⟩ := I.tuple hB
    have hz2 : its.toArray.size + its2.toArray.size ≤ sizeLine := by rw [List.size_toArray, List.size_toArray, ← r.length, ← r2.length, sizeLine_eq]; omega
    have short : ¬ (!its.toArray.isEmpty && Builtin.List.listTooLong (its.toArray.size + its2.toArray.size)) = true := by rw [notLongL hz2, Bool.and_false]; exact Bool.false_ne_true
    simp only at hc hd
    subst hc hd
    refine call_meets PySem.F.slot_list_extend ⟨_, e, rfl⟩ PySem.F.entry_list_extend (PySem.F.args_list_extend_2 _ _) (PySem.ExtTup.meets l its.toArray n b its2.toArray n2 od sl short hz2) ⟨e, e2, ?_⟩
    exact ⟨.non, _, I.lset (its' := its ++ its2) hH e (by simp) (r.append r2) (by rw [List.length_append, sizeLine_eq]; omega), rfl, q⟩
end
end MI

set_option Elab.async false
set_option linter.all false
set_option maxRecDepth 100000
set_option maxHeartbeats 1000000
namespace MI
open PySem PySem.Spec PyProof.Rows L2
section
variable {X : Cx} {G : Gx} {W : WX} {e a b c : Expr} {es : List Expr} {pos : Pos} {d da db dc : Den} {dr : DenL}
/-! ### extend, insert, pop -/
def fExtend (o : MV) (ws : List MV) (S : Store) : Res MV := match o, ws with
  | .ref n, [w] => match S[n]? with
    | some (.lst l) => match w with
      | .tup m => if l.length + m.length ≤ 100000 then .ok .non (S.set n (.lst (l ++ m))) else .stuck
      | .ref k => match S[k]? with
        | some (.lst m) => if l.length + m.length ≤ 100000 then .ok .non (S.set n (.lst (l ++ m))) else .stuck
        | _ => .stuck
      | _ => .stuck
    | _ => .stuck
  | _, _ => .stuck
theorem w_extend : MtW G fExtend (rExtA G.K) := fun ι H S E Q w v ws vs s r1 r2 h => by
  unfold fExtend at h
  split at h
  · cases r1 with
    | ref i =>
      split at h
      · rename_i l hS
        obtain ⟨xs, g, q⟩ := s.obj _ _ _ hS i
        obtain ⟨y, rfl, r3⟩ := rws1 r2
        split at h
        · cases r3 with
          | tup t q2 =>
            split at h
            · rename_i hz
              exact .inr ⟨_, _, xs, _, rfl, rfl, g, t, by rw [← q.length, ← q2.length]; omega, lst_write s i g (q.append q2) h⟩
            · exact h.elim
        · cases r3 with
          | ref i2 =>
            split at h
            · rename_i hS2
              obtain ⟨zs, g2, q2⟩ := s.obj _ _ _ hS2 i2
              split at h
              · rename_i hz
                exact .inl ⟨_, _, xs, zs, rfl, rfl, g, g2, by rw [← q.length, ← q2.length]; exact big_ok hz, lst_write s i g (q.append q2) h⟩
              · exact h.elim
            · exact h.elim
        · exact h.elim
      · exact h.elim
  · exact h.elim
theorem de_extend {apos : Pos} (hK : X.K = G.K) (ho : DE X G W a da) (ha : DA X G W (b :: es) dr) (hbase : attributeBase a "extend" X.env (eval a X.env) = eval a X.env := by rfl)
    (hfew : ((backTo pos (starEach (b :: es) X.env)).all (fun x => !x.1) && (backToKw pos (keywordEach [] X.env)).all (fun x => x.1.isSome)
      && decide ((b :: es).length + ([] : List Keyword).length + (if ([] : List Keyword).isEmpty then 0 else 1) < 30)) = true := by rfl)
    (hline : (apos.endLine == pos.line) = true := by rfl) (hs : starEach (b :: es) X.env = (false, eval b X.env) :: starEach es X.env := by rfl) (hplain : (backTo pos (starEach es X.env)).any (·.1) = false := by rfl) :
    DE X G W (.Call (.Attribute a "extend" apos) (b :: es) [] pos) (dMet isLst fExtend da dr) :=
  ⟨PE.imp (pe_bm PySem.F.plainAttrs_list PySem.F.slot_list_extend PySem.F.type_list_extend mt_extA ho.run ha.run hbase hfew hline hs hplain) fun σ H Q h => by rw [hK]; exact met_imp w_extend h⟩
/-! ### a op b op c -/
theorem chain_imp {f g : MV → MV → Store → Res MV} {r r' : R2} (h1 : OpW G f r) (h2 : OpW G g r') {σ : L2.St} {H : Hp} {Q : VK} (h : tD G W (dChain f g da db dc) σ H Q) : tChain r r' (tD G W da) (tD G W db) (tD G W dc) σ H Q := by
  obtain ⟨ι, S, ρ, s, re, h⟩ := h
  refine ⟨ι, S, ρ, s, re, (fin.bind h).mono fun w1 ι1 H1 S1 p _ k1 v1 r1 => ?_⟩
  obtain ⟨S1, s1, m1, n1, _, k1⟩ := k1
  have re1 := n1 _ _ re
  refine ⟨ι1, S1, ρ, s1, re1, (fin.bind k1).mono fun w2 ι2 H2 S2 p2 _ k2 v2 r2 => ?_⟩
  obtain ⟨S2, s2, m2, n2, _, k2⟩ := k2
  have re2 := n2 _ _ re1
  refine h1 ι2 H2 S2 (fun c x H' => W c x σ H') _ w1 w2 v1 v2 s2 (m2 _ _ r1) r2 ((fin.bind k2).mono fun w3 ι3 H3 S3 p3 _ k3 v3 r3 => ?_)
  obtain ⟨S3, s3, m3, n3, _, k3⟩ := k3
  split at k3
  · cases r3
    refine ⟨true, rfl, ?_⟩
    rw [if_pos rfl]
    refine ⟨ι3, S3, ρ, s3, n3 _ _ re2, (fin.bind k3).mono fun w4 ι4 H4 S4 p4 _ k4 v4 r4 => ?_⟩
    obtain ⟨S4, s4, m4, _, _, k4⟩ := k4
    exact h2 ι4 H4 S4 _ Q w2 w4 v2 v4 s4 (m4 _ _ (m3 _ _ r2)) r4 k4
  · cases r3
    refine ⟨false, rfl, ?_⟩
    rw [if_neg Bool.false_ne_true]
    exact k3 ι3 H3 (.refl s3) _ (.bl _)
  · exact k3.elim
theorem de_chain {op op' : CmpOp} {f g : MV → MV → Store → Res MV} (k : CmpOk X G op f) (k' : CmpOk X G op' g) (ha : DE X G W a da) (hb : DE X G W b db) (hc : DE X G W c dc) (hm : lastMarks [op, op'] [b, c] = false := by with_unfolding_all rfl) :
    DE X G W (.Compare a [op, op'] [b, c] pos) (dChain f g da db dc) := by
  obtain ⟨r, h1, h2⟩ := k.ex
  obtain ⟨r', h1', h2'⟩ := k'.ex
  exact ⟨PE.imp (pe_chain h1 h1' ha.run hb.run hc.run hm) fun _ _ _ h => chain_imp h2 h2' h⟩
theorem dt_chain {op op' : CmpOp} {f g : MV → MV → Store → Res MV} (k : CmpOk X G op f) (k' : CmpOk X G op' g) (ha : DE X G W a da) (hb : DE X G W b db) (hc : DE X G W c dc) (hm : lastMarks [op, op'] [b, c] = false := by with_unfolding_all rfl) :
    DT X G W (.Compare a [op, op'] [b, c] pos) (fun ρ S => (dChain f g da db dc ρ S).bind boolOf) := by
  obtain ⟨r, h1, h2⟩ := k.ex
  obtain ⟨r', h1', h2'⟩ := k'.ex
  exact ⟨PT.imp (pt_chain h1 h1' ha.run hb.run hc.run hm) fun _ _ _ h => chain_imp h2 h2' (test_imp h)⟩
/-! ### a dict that the top has written -/
structure WTab (G : Gx) (w : World) (d : Addr) (tbl : List (Str × MV)) : Prop where
  kd : ∃ es n, KDict G.K w d es n
  yes : ∀ z w', tbl.lookup z = some w' → ∃ u v, PySem.W.nsIn G.K d z = some (some u) ∧ RelV v u ∧ KC G w' v
  no : ∀ z, tbl.lookup z = none → PySem.W.nsIn G.K d z = some none
def fInK (tbl : List (Str × MV)) (w : MV) (S : Store) : Res MV := match w with
  | .str z => .ok (.bl (tbl.lookup z).isSome) S
  | _ => .stuck
def fNotInK (tbl : List (Str × MV)) (w : MV) (S : Store) : Res MV := match w with
  | .str z => .ok (.bl (!(tbl.lookup z).isSome)) S
  | _ => .stuck
def fIxK (tbl : List (Str × MV)) (w : MV) (S : Store) : Res MV := match w with
  | .str z => match tbl.lookup z with
    | some w' => .ok w' S
    | none => .stuck
  | _ => .stuck
theorem WTab.some_ {w : World} {d : Addr} {tbl : List (Str × MV)} (T : WTab G w d tbl) (z : Str) : ∃ r, PySem.W.nsIn G.K d z = some r ∧ r.isSome = (tbl.lookup z).isSome := by
  cases e : tbl.lookup z with
  | none => exact ⟨none, T.no z e, rfl⟩
  | some w' =>
    obtain ⟨u, v, h, _⟩ := T.yes z w' e
    exact ⟨some u, h, rfl⟩
theorem inK_imp {d : Addr} {tbl : List (Str × MV)} (T : WTab G X.w d tbl) {σ : L2.St} {H : Hp} {Q : VK} (h : tD G W (dUn (fInK tbl) da) σ H Q) :
    tOp (fun x y H Q => ∃ (z : Str) (r : Option Value), x = .str z ∧ y = .ref d ∧ PySem.W.nsIn G.K d z = some r ∧ Q (.bl r.isSome) H) (tD G W da) (tC (.ref d)) σ H Q := by
  obtain ⟨ι, S, ρ, s, re, h⟩ := h
  refine ⟨ι, S, ρ, s, re, (fin.bind h).mono fun w1 ι1 H1 S1 p _ k1 v1 r1 => ?_⟩
  obtain ⟨S1, s1, m1, n1, _, k1⟩ := k1
  unfold fInK at k1
  split at k1
  · cases r1
    obtain ⟨r, e1, e2⟩ := T.some_ _
    exact ⟨_, r, rfl, rfl, e1, by rw [e2]; exact k1 ι1 H1 (.refl s1) _ (.bl _)⟩
  · exact k1.elim
theorem notInK_imp {d : Addr} {tbl : List (Str × MV)} (T : WTab G X.w d tbl) {σ : L2.St} {H : Hp} {Q : VK} (h : tD G W (dUn (fNotInK tbl) da) σ H Q) :
    tOp (fun x y H Q => ∃ (z : Str) (r : Option Value), x = .str z ∧ y = .ref d ∧ PySem.W.nsIn G.K d z = some r ∧ Q (.bl (!r.isSome)) H) (tD G W da) (tC (.ref d)) σ H Q := by
  obtain ⟨ι, S, ρ, s, re, h⟩ := h
  refine ⟨ι, S, ρ, s, re, (fin.bind h).mono fun w1 ι1 H1 S1 p _ k1 v1 r1 => ?_⟩
  obtain ⟨S1, s1, m1, n1, _, k1⟩ := k1
  unfold fNotInK at k1
  split at k1
  · cases r1
    obtain ⟨r, e1, e2⟩ := T.some_ _
    exact ⟨_, r, rfl, rfl, e1, by rw [e2]; exact k1 ι1 H1 (.refl s1) _ (.bl _)⟩
  · exact k1.elim
variable {x : Str} {p : Pos} {dd : Addr} {tbl : List (Str × MV)}
theorem de_inK (hK : X.K = G.K) (T : WTab G X.w dd tbl) (hg : Gl X x) (hm : X.mg x = some (.ref dd)) (ha : DE X G W a da) (hd : (x == ("__debug__" : Str)) = false := by decide) (hb : behindInMarks .In (.Name x p) = false := by rfl) : DE X G W (.Compare a [.In] [.Name x p] pos) (dUn (fInK tbl) da) := by
  obtain ⟨es, n, D⟩ := T.kd
  exact ⟨PE.imp (pe_cmpR (op_in_kd (hK ▸ D)) ha.run (pe_glob (v := .ref dd) hg hm rfl hd) hb) fun _ _ _ h => by rw [hK]; exact inK_imp T h⟩
theorem dt_inK (hK : X.K = G.K) (T : WTab G X.w dd tbl) (hg : Gl X x) (hm : X.mg x = some (.ref dd)) (ha : DE X G W a da) (hd : (x == ("__debug__" : Str)) = false := by decide) (hb : behindInMarks .In (.Name x p) = false := by rfl) : DT X G W (.Compare a [.In] [.Name x p] pos) (fun ρ S => (dUn (fInK tbl) da ρ S).bind boolOf) := by
  obtain ⟨es, n, D⟩ := T.kd
  exact ⟨PT.imp (pt_cmpR (op_in_kd (hK ▸ D)) ha.run (pe_glob (v := .ref dd) hg hm rfl hd) hb) fun _ _ _ h => by rw [hK]; exact inK_imp T (test_imp h)⟩
theorem de_notInK (hK : X.K = G.K) (T : WTab G X.w dd tbl) (hg : Gl X x) (hm : X.mg x = some (.ref dd)) (ha : DE X G W a da) (hd : (x == ("__debug__" : Str)) = false := by decide) (hb : behindInMarks .NotIn (.Name x p) = false := by rfl) : DE X G W (.Compare a [.NotIn] [.Name x p] pos) (dUn (fNotInK tbl) da) := by
  obtain ⟨es, n, D⟩ := T.kd
  exact ⟨PE.imp (pe_cmpR (op_notIn_kd (hK ▸ D)) ha.run (pe_glob (v := .ref dd) hg hm rfl hd) hb) fun _ _ _ h => by rw [hK]; exact notInK_imp T h⟩
theorem dt_notInK (hK : X.K = G.K) (T : WTab G X.w dd tbl) (hg : Gl X x) (hm : X.mg x = some (.ref dd)) (ha : DE X G W a da) (hd : (x == ("__debug__" : Str)) = false := by decide) (hb : behindInMarks .NotIn (.Name x p) = false := by rfl) : DT X G W (.Compare a [.NotIn] [.Name x p] pos) (fun ρ S => (dUn (fNotInK tbl) da ρ S).bind boolOf) := by
  obtain ⟨es, n, D⟩ := T.kd
  exact ⟨PT.imp (pt_cmpR (op_notIn_kd (hK ▸ D)) ha.run (pe_glob (v := .ref dd) hg hm rfl hd) hb) fun _ _ _ h => by rw [hK]; exact notInK_imp T (test_imp h)⟩
theorem de_ixK (hK : X.K = G.K) (T : WTab G X.w dd tbl) (hg : Gl X x) (hm : X.mg x = some (.ref dd)) (ha : DE X G W a da) (hs : PlainIx a := by exact fun _ _ => rfl) (hd : (x == ("__debug__" : Str)) = false := by decide) : DE X G W (.Subscript (.Name x p) a pos) (dUn (fIxK tbl) da) := by
  obtain ⟨es, n, D⟩ := T.kd
  refine ⟨PE.imp (pe_ix ix_kdict (pe_glob (v := .ref dd) hg hm rfl hd) ha.run hs) fun σ H Q h => ?_⟩
  obtain ⟨ι, S, ρ, s, re, h⟩ := h
  refine ⟨ι, S, ρ, s, re, (fin.bind h).mono fun w1 ι1 H1 S1 p _ k1 v1 r1 => ?_⟩
  obtain ⟨S1, s1, m1, n1, _, k1⟩ := k1
  unfold fIxK at k1
  split at k1
  · cases r1
    split at k1
    · rename_i w' e
      obtain ⟨u, v, h1, h2, h3⟩ := T.yes _ _ e
      exact ⟨dd, _, v, rfl, rfl, ⟨es, n, u, by rw [hK]; exact D.at_, D.lit, by rw [hK]; exact h1, h2⟩, k1 ι1 H1 (.refl s1) v (h3 ι1 H1)⟩
    · exact k1.elim
  · exact k1.elim
/-! ### instances of own classes -/
def putFM (f : Str) (w : MV) (fs : List (Str × MV)) : List (Str × MV) := match fs with
  | [] => [(f, w)]
  | p :: r => if p.1 = f then (f, w) :: r else p :: putFM f w r
theorem flds_put {ι : List Addr} {H : Hp} {f : Str} {w : MV} {v : V} (q : RW G ι H w v) : ∀ {fs : List (Str × MV)} {fv : List (Str × V)}, fv.map (·.1) = fs.map (·.1) → RWs G ι H (fs.map (·.2)) (fv.map (·.2)) → (putF f v fv).map (·.1) = (putFM f w fs).map (·.1) ∧ RWs G ι H ((putFM f w fs).map (·.2)) ((putF f v fv).map (·.2))
  | [], [], _, _ => ⟨rfl, .cons q .nil⟩
  | [], _ :: _, e, _ => by simp at e
  | _ :: _, [], e, _ => by simp at e
  | p :: fs, r :: fv, e, h => by
    simp only [List.map_cons, List.cons.injEq] at e
    simp only [List.map_cons] at h
    cases h with
    | cons h1 h2 =>
      unfold putF putFM
      by_cases z : p.1 = f
      · have z' : r.1 = f := e.1.trans z
        rw [if_pos z, if_pos z']
        exact ⟨by simp [e.2, z'], .cons q h2⟩
      · have z' : ¬ r.1 = f := fun t => z (e.1.symm.trans t)
        rw [if_neg z, if_neg z']
        obtain ⟨i1, i2⟩ := flds_put (f := f) q e.2 h2
        exact ⟨by simp [i1, e.1], .cons h1 i2⟩
theorem flds_get {ι : List Addr} {H : Hp} {f : Str} {w : MV} : ∀ {fs : List (Str × MV)} {fv : List (Str × V)}, fv.map (·.1) = fs.map (·.1) → RWs G ι H (fs.map (·.2)) (fv.map (·.2)) → fs.lookup f = some w → ∃ v, fv.lookup f = some v ∧ RW G ι H w v
  | [], _, _, _, h => by cases h
  | _ :: _, [], e, _, _ => by simp at e
  | p :: fs, r :: fv, e, h, hl => by
    simp only [List.map_cons, List.cons.injEq] at e
    simp only [List.map_cons] at h
    obtain ⟨p1, p2⟩ := p
    obtain ⟨r1, r2⟩ := r
    obtain ⟨e1, e2⟩ := e
    simp only at e1
    subst e1
    cases h with
    | cons h1 h2 =>
      rw [List.lookup_cons] at hl ⊢
      by_cases z : (f == r1) = true
      · simp only [z] at hl ⊢
        cases hl
        exact ⟨_, rfl, h1⟩
      · simp only [Bool.not_eq_true] at z
        simp only [z] at hl ⊢
        exact flds_get e2 h2 hl
/-- what stands at w, an instance of the class -/
def insAt (cn : Str) (w : MV) (S : Store) : Option (Nat × List (Str × MV)) := match w with
  | .ref n => match S[n]? with
    | some (.ins c fs) => if c = cn then some (n, fs) else none
    | _ => none
  | _ => none
theorem ins_ok {cn : Str} {C : Addr} (hC : G.ct cn = some C) {ι : List Addr} {H : Hp} {S : Store} {w : MV} {v : V} {n : Nat} {fs : List (Str × MV)} (s : Sim G ι H S) (r : RW G ι H w v) (e : insAt cn w S = some (n, fs)) :
    ∃ a dx fv, v = .ref a ∧ ι[n]? = some a ∧ S[n]? = some (.ins cn fs) ∧ H a = some (.ins C dx fv) ∧ fv.map (·.1) = fs.map (·.1) ∧ RWs G ι H (fs.map (·.2)) (fv.map (·.2)) := by
  unfold insAt at e
  split at e
  · cases r with
    | ref i =>
      split at e
      · rename_i hS
        split at e
        · rename_i z
          cases e
          subst z
          obtain ⟨C', dx, fv, h1, h2, h3, h4⟩ := s.obj _ _ _ hS i
          rw [hC] at h1
          cases h1
          exact ⟨_, dx, fv, rfl, i, hS, h2, h3, h4⟩
        · cases e
      · cases e
  · cases e
/-- o.f = e -/
def sFldM (cn f : Str) (o e : Den) : DenS := fun ρ S => (e ρ S).bindS ρ fun w S1 => (o ρ S1).bindS ρ fun ow S2 => match insAt cn ow S2 with
  | some (n, fs) => if fs.length < 900 then .ok (.next ρ) (S2.set n (.ins cn (putFM f w fs))) else .stuck
  | none => .stuck
theorem ds_fld {f cn : Str} {C : Addr} {o value : Expr} {pos' : Pos} {dO dV : Den} (hK : X.K = G.K) (hC : G.ct cn = some C) (c : Cls G.K C) (n : NoAttr G.K C f) (ho : DE X G W o dO) (hv : DE X G W value dV) (hs : swapsWith value (some (.Attribute o f pos')) pos.line X.env = pure false := by rfl) :
    DS X G W (.Assign [.Attribute o f pos'] value pos) (sFldM cn f dO dV) := ⟨PS.imp (ps_fld ho.run hv.run hs) fun D σ H h => by
  obtain ⟨ι, S, ρ, s, re, h⟩ := h
  refine ⟨ι, S, ρ, s, re, (fin.bindS re h).mono fun w ι1 H1 S1 p _ h1 v r => ?_⟩
  obtain ⟨S1, s1, re1, m1, h1⟩ := h1
  refine ⟨ι1, S1, ρ, s1, re1, (fin.bindS re1 h1).mono fun ow ι2 H2 S2 p2 _ h2 ov r2 => ?_⟩
  obtain ⟨S2, s2, re2, m2, h2⟩ := h2
  split at h2
  · rename_i k fs e
    obtain ⟨a, dx, fv, rfl, i, hS, g, q1, q2⟩ := ins_ok hC s2 r2 e
    split at h2
    · rename_i hz
      have hl : fv.length = fs.length := by
        have := congrArg List.length q1
        simpa using this
      have t := sqT_upd (K := G.K) (ho := .ins C dx (putF f v fv)) (noTup_of g (fun _ z => by cases z) (fun _ _ z => by cases z))
      obtain ⟨z1, z2⟩ := flds_put (f := f) (m2 _ _ r) q1 q2
      have pw := s2.write i g (fun _ z => by cases z) (fun _ _ z => by cases z) (ho' := .ins C dx (putF f v fv)) (mo := .ins cn (putFM f w fs)) ⟨C, dx, _, hC, upd_same, z1, z2.mono (fun _ _ e => e) t⟩
      exact ⟨a, C, dx, fv, rfl, g, by rw [hK]; exact c, by rw [hK]; exact n, by omega, h2 ι2 _ pw σ (pw.re re2)⟩
    · exact h2.elim
  · exact h2.elim⟩
/-- o.f -/
def fFld (cn f : Str) (w : MV) (S : Store) : Res MV := match insAt cn w S with
  | some (_, fs) => match fs.lookup f with
    | some u => .ok u S
    | none => .stuck
  | none => .stuck
theorem de_fld {f cn : Str} {C : Addr} (hK : X.K = G.K) (hC : G.ct cn = some C) (c : Cls G.K C) (n : NoAttr G.K C f) (ho : DE X G W a da) (hb : attributeBase a f X.env (eval a X.env) = eval a X.env := by rfl) : DE X G W (.Attribute a f pos) (dUn (fFld cn f) da) := ⟨PE.imp (pe_fld ho.run hb) fun σ H Q h => by
  obtain ⟨ι, S, ρ, s, re, h⟩ := h
  refine ⟨ι, S, ρ, s, re, (fin.bind h).mono fun w ι1 H1 S1 p _ h1 v r => ?_⟩
  obtain ⟨S1, s1, _, re1, _, h1⟩ := h1
  unfold fFld at h1
  split at h1
  · rename_i k fs e
    obtain ⟨a, dx, fv, rfl, i, hS, g, q1, q2⟩ := ins_ok hC s1 r e
    split at h1
    · rename_i u eu
      obtain ⟨x, ex, rx⟩ := flds_get q1 q2 eu
      exact ⟨a, C, dx, fv, x, rfl, g, by rw [hK]; exact c, by rw [hK]; exact n, ex, h1 ι1 H1 (.refl s1) x rx⟩
    · exact h1.elim
  · exact h1.elim⟩
def noErr (r : Res MV) : Res MV := match r with
  | .err _ _ _ => .stuck
  | r => r
/-- o.f, a property -/
def fProp (cn : Str) (g : FnM) (w : MV) (S : Store) : Res MV := match insAt cn w S with
  | some _ => noErr (g [w] S)
  | none => .stuck
theorem de_prop {f cn : Str} {C pa ga : Addr} {fd : FuncData} {ps : List Str} {k : Nat} {g : FnM} (hK : X.K = G.K) (hC : G.ct cn = some C) (c : Cls G.K C) (hp : PropOf G.K C f pa ga) (F : FnOk X.prog X.w X.K X.mg X.base (L2.CX X.prog X.w) k ga fd ps (spF G g)) (hr : Room (k + 1) X.A) (hbd : Binds X.K fd ps [])
    (ho : DE X G W a da) (hb : attributeBase a f X.env (eval a X.env) = eval a X.env := by rfl) : DE X G W (.Attribute a f pos) (dUn (fProp cn g) da) := ⟨PE.imp (pe_prop (C := C) ho.run (hK ▸ c) (hK ▸ hp) F hr hbd .nil passL hb) fun σ H Q h => by
  obtain ⟨ι, S, ρ, s, re, h⟩ := h
  refine ⟨ι, S, ρ, s, re, (fin.bind h).mono fun w ι1 H1 S1 p _ h1 v r => ?_⟩
  obtain ⟨S1, s1, _, re1, _, h1⟩ := h1
  unfold fProp at h1
  split at h1
  · rename_i kf e
    obtain ⟨k, fs⟩ := kf
    obtain ⟨a, dx, fv, rfl, i, hS, g', q1, q2⟩ := ins_ok hC s1 r e
    refine ⟨a, dx, fv, rfl, g', ι1, S1, [w], s1, .cons r .nil, ?_⟩
    unfold noErr at h1
    split at h1
    · exact h1.elim
    · cases e : g [w] S1 with
      | ok u S2 => rw [e] at h1; exact h1
      | err c fs S2 => rename_i ne; exact absurd e (ne c fs S2)
      | stuck => rw [e] at h1; exact h1
  · exact h1.elim⟩
/-- C(e, ..) -/
def dMake (cn : Str) (g : FnM) (r : DenL) : Den := fun ρ S => (r ρ S).bind fun ws S1 => (g (.ref S1.length :: ws) (S1 ++ [.ins cn []])).bind fun w S2 => match w with
  | .non => .ok (.ref S1.length) S2
  | _ => .stuck
theorem de_make {cn : Str} {C fa : Addr} {fd : FuncData} {ps : List Str} {k : Nat} {g : FnM} {E : XK} (hC : G.ct cn = some C) (M : Mk X.K C fa) (F : FnOk X.prog X.w X.K X.mg X.base (L2.CX X.prog X.w) k fa fd ps (spF G g)) (hr : Room (k + 1) X.A) (hg : Gl X x) (hm : X.mg x = some (.ref C)) (hb : Binds X.K fd ps [])
    (tk : Takes X W) (hW : W = fun cls d _ H => E cls d H) (ha : DA X G W (a :: es) dr) (hdb : (x == ("__debug__" : Str)) = false := by decide) (he : starEach (a :: es) X.env = (false, eval a X.env) :: starEach es X.env := by rfl) (hpl : (backTo pos (starEach es X.env)).any (·.1) = false := by rfl) :
    DE X G W (.Call (.Name x p) (a :: es) [] pos) (dMake cn g dr) := ⟨PE.imp (pe_make M F hr hg hm hb .nil (E := E) (passes_call tk (fun cls d σ H h => by rw [hW]; exact h)) ha.run hdb he hpl) fun σ H Q h => by
  subst hW
  obtain ⟨ι, S, ρ, s, re, h⟩ := h
  refine ⟨ι, S, ρ, s, re, (fin.bind h).mono fun ws ι1 H1 S1 p _ h1 vs r xa dx nx nd ne => ?_⟩
  obtain ⟨S1, s1, _, re1, _, h1⟩ := h1
  have p1 := s1.lay nd (.own xa)
  have nx' : upd H1 dx (.own xa) xa = none := by rw [upd_ne (Ne.symm ne)]; exact nx
  have p2 := p1.sim.new nx' (ho := .ins C dx []) (mo := .ins cn []) ⟨C, dx, [], hC, upd_same, rfl, .nil⟩
  have pp := p1.trans p2
  have hi : (ι1 ++ [xa])[S1.length]? = some xa := by rw [← s1.len]; simp
  refine ⟨_, _, .ref S1.length :: ws, pp.sim, by rw [List.append_nil]; exact .cons (.ref hi) (pp.rws r), (fin.bind (fin.later pp h1)).mono fun w ι2 H2 S2 p3 _ h3 v rv => ?_⟩
  obtain ⟨S2, s2, _, _, _, h3⟩ := h3
  split at h3
  · cases rv
    exact ⟨rfl, h3 ι2 H2 (.refl s2) _ (.ref (p3.ext _ _ hi))⟩
  · exact h3.elim⟩
/-! ### isinstance of an own class -/
structure OwnCls (K : PySem.W.Frag) (C : Addr) : Prop where
  cl : Cls K C
  ha : PySem.W.findIn K (.ref C) "__class__" = some (some (.builtin "object.__class__"))
  hn : PySem.W.specialIn K (.builtin "object.__class__") "__get__" = some (some (.builtin "getset_descriptor.__get__"))
  ht : PySem.W.takesIn K (.builtin "object.__class__") = some true
  hm : PySem.W.mroIn K C (.type "object") = some true
  me : PySem.W.kitOne K (.ref C) (.ref C) = some true
  no : ∀ t ∈ ["NoneType", "bool", "int", "str", "tuple", "list", "dict"], PySem.W.kitOne K (.type t) (.ref C) = some false
def fIsOwn (cn : Str) (w : MV) (S : Store) : Res MV := match tyM w S with
  | some _ => .ok (.bl false) S
  | none => match insAt cn w S with
    | some _ => .ok (.bl true) S
    | none => .stuck
theorem de_isOwn {cn : Str} {C : Addr} {p2 : Pos} (hK : X.K = G.K) (hC : G.ct cn = some C) (O : OwnCls G.K C) (hg : Gl X "isinstance") (hm : X.mg "isinstance" = none) (hg2 : Gl X x) (hm2 : X.mg x = some (.ref C)) (ha : DE X G W a da) (hd2 : (x == ("__debug__" : Str)) = false := by decide)
    (hs : starEach [a, .Name x p2] X.env = (false, eval a X.env) :: starEach [.Name x p2] X.env := by rfl) (hpl : (backTo pos (starEach [.Name x p2] X.env)).any (·.1) = false := by rfl) : DE X G W (.Call (.Name "isinstance" p) [a, .Name x p2] [] pos) (dUn (fIsOwn cn) da) := by
  refine ⟨PE.imp (pe_callB call_isi hg hm (by decide +kernel) (pa_cons ha.run (pa_cons (pe_glob (v := .ref C) hg2 hm2 rfl hd2) pa_nil) hs) (by decide) (by decide) hs hpl) fun σ H Q h => ?_⟩
  obtain ⟨ι, S, ρ, s, re, h⟩ := h
  refine ⟨ι, S, ρ, s, re, (fin.bind h).mono fun w ι1 H1 S1 p _ h1 v r => ?_⟩
  obtain ⟨S1, s1, _, re1, _, h1⟩ := h1
  unfold fIsOwn at h1
  split at h1
  · rename_i t e
    exact ⟨v, .ref C, .type t, .ref C, false, rfl, .own C, by rw [hK]; exact tyM_ok s1 r e, by rw [hK]; exact O.no t (tyM_in e), h1 ι1 H1 (.refl s1) _ (.bl _)⟩
  · split at h1
    · rename_i kf e
      obtain ⟨k, fs⟩ := kf
      obtain ⟨a, dx, fv, rfl, i, hS, g', q1, q2⟩ := ins_ok hC s1 r e
      exact ⟨_, .ref C, .ref C, .ref C, true, rfl, .own C, .base (.ins g' (by rw [hK]; exact O.cl) (by rw [hK]; exact O.ha) (by rw [hK]; exact O.hn) (by rw [hK]; exact O.ht) (by rw [hK]; exact O.hm)), by rw [hK]; exact O.me, h1 ι1 H1 (.refl s1) _ (.bl _)⟩
    · exact h1.elim
/-! ### tuples that the top has written -/
theorem kc_tup {ad : Addr} {dct : Option Addr} {its : List Value} {n : Nat} {sl : Array (Option Value)} {l : List MV} {vs : List V} (hk : G.K.lookup ad = some ⟨.type "tuple", dct, .seq its.toArray n, sl⟩) (hz : its.length ≤ 100000) (hv : Vals vs its) (hl : ∀ ι H, RWs G ι H l vs) : KC G (.tup l) (.ref ad) := fun ι H => by
  refine .tup (.inr ⟨_, its.toArray, n, hk, rfl, rfl, ?_, by simpa using hv⟩) (hl ι H)
  rw [List.size_toArray]
  exact big_ok hz
end
end MI

set_option Elab.async false
set_option linter.all false
set_option maxRecDepth 100000
set_option maxHeartbeats 1000000
namespace MI
open PySem PySem.Spec PyProof.Rows L2
theorem kit_str : ∀ t ∈ ["NoneType", "bool", "int", "str", "tuple", "list", "dict"], kitB t "str" = some (isTy t "str") := by decide +kernel
theorem kit_int : ∀ t ∈ ["NoneType", "bool", "int", "str", "tuple", "list", "dict"], kitB t "int" = some (isTy t "int") := by decide +kernel
theorem kit_bool : ∀ t ∈ ["NoneType", "bool", "int", "str", "tuple", "list", "dict"], kitB t "bool" = some (isTy t "bool") := by decide +kernel
theorem kit_tuple : ∀ t ∈ ["NoneType", "bool", "int", "str", "tuple", "list", "dict"], kitB t "tuple" = some (isTy t "tuple") := by decide +kernel
theorem kit_list : ∀ t ∈ ["NoneType", "bool", "int", "str", "tuple", "list", "dict"], kitB t "list" = some (isTy t "list") := by decide +kernel
theorem kit_dict : ∀ t ∈ ["NoneType", "bool", "int", "str", "tuple", "list", "dict"], kitB t "dict" = some (isTy t "dict") := by decide +kernel
section
variable {X : Cx} {G : Gx} {W : WX} {a b : Expr} {pos : Pos} {da db : Den}
/-! ### -a, a * b -/
def fNeg (w : MV) (S : Store) : Res MV := match w with
  | .int i => .ok (.int (-i)) S
  | _ => .stuck
theorem de_neg (ha : DE X G W a da) : DE X G W (.UnaryOp .USub a pos) (dUn fNeg da) := de_un un_neg (fun ι H S E Q w1 v1 s r h => by
  unfold fNeg at h
  split at h
  · cases r
    exact ⟨_, rfl, h ι H (.refl s) _ (.int _)⟩
  · exact h.elim) ha
theorem rws_rep {ι : List Addr} {H : Hp} {l : List MV} {vs : List V} (r : RWs G ι H l vs) : ∀ n : Nat, RWs G ι H (List.replicate n l).flatten (List.replicate n vs).flatten
  | 0 => .nil
  | n + 1 => by
    rw [List.replicate_succ, List.replicate_succ, List.flatten_cons, List.flatten_cons]
    exact r.append (rws_rep r n)
theorem de_mul (hK : X.K = G.K) (ha : DE X G W a da) (hb : DE X G W b db) : DE X G W (.BinOp a .Mult b pos) (dBin fMul da db) := by
  refine de_op (OpR.or op_mul (OpR.or op_repT op_rep)) ?_ ha hb
  rw [hK]
  intro ι H S E Q w1 w2 v1 v2 s r1 r2 h
  unfold fMul at h
  split at h
  · cases r1
    cases r2
    split at h
    · rename_i i j hz
      refine .inl ⟨_, _, rfl, rfl, ?_, h ι H (.refl s) _ (.int _)⟩
      simp only [Bool.or_eq_true, Bool.and_eq_true, decide_eq_true_eq] at hz
      exact hz
    · exact h.elim
  · cases r1 with
    | tup t q =>
      cases r2
      split at h
      · rename_i l k hz
        simp only [Bool.and_eq_true, decide_eq_true_eq] at hz
        obtain ⟨z1, z2, z3, z4⟩ := hz
        refine .inr (.inl ⟨_, _, _, rfl, rfl, t, fun e => z1 ?_, z2, z3, by rw [← q.length]; exact z4, new_tup s (rws_rep q _) h⟩)
        subst e
        cases q
        rfl
      · exact h.elim
  · cases r1 with
    | ref i =>
      cases r2
      split at h
      · rename_i l hS
        obtain ⟨vs, g, q⟩ := s.obj _ _ _ hS i
        split at h
        · rename_i k _ _ hz
          simp only [Bool.and_eq_true, decide_eq_true_eq] at hz
          obtain ⟨z1, z2, z3⟩ := hz
          refine .inr (.inr ⟨_, _, vs, rfl, rfl, g, by omega, by omega, ?_, new_lst s (rws_rep q _) h⟩)
          rw [← q.length]
          have hk : k.toNat ≤ 100 := by omega
          exact Nat.le_trans (Nat.mul_le_mul z3 hk) (by rw [sizeLine_eq]; decide)
        · exact h.elim
      · exact h.elim
  · exact h.elim
end
/-- a def that is never gone into -/
theorem fn_stuck {P : Program} {w : World} {K : PySem.W.Frag} {mg : Str → Option Value} {base : Heap} {G : Gx} {CX : CXT} {k : Nat} {f : Addr} {fd : FuncData} {ps : List Str} : FnOk P w K mg base CX k f fd ps (spF G fun _ _ => .stuck) where
  len := fun vs H Q E h => by
    obtain ⟨ι, S, ws, s, r, h⟩ := h
    exact h.elim
  run := fun A outer s H args us vs Q E hr e0 hb r h => by
    obtain ⟨ι, S, ws, s, r, h⟩ := h
    exact h.elim
end MI

set_option Elab.async false
set_option linter.all false
set_option maxRecDepth 100000
/-! What the top has written, seen by one kernel run; the end of a law whose def has a denotation. -/
namespace MI
open PySem PySem.Spec PyProof.Rows L2
abbrev Fr := PySem.W.Frag
/-! ### values -/
def kcBs (f : MV → Value → Bool) : List MV → List Value → Bool
  | [], [] => true
  | w :: ws, u :: us => f w u && kcBs f ws us
  | _, _ => false
def kcB (K : Fr) : Nat → MV → Value → Bool
  | 0, _, _ => false
  | n + 1, w, u => match w, u with
    | .non, .none => true
    | .bl b, .bool c => decide (b = c)
    | .int i, .int j _ => decide (i = j)
    | .str x, .str y _ => decide (x = y)
    | .tup l, .ref a => (match K.lookup a with
      | some ⟨.type c, _, .seq its _, _⟩ => decide (c = "tuple") && (decide (its.toList.length ≤ 100000) && kcBs (kcB K n) l its.toList)
      | _ => false)
    | _, _ => false
def RelK (K : Fr) (w : MV) (u : Value) : Prop := ∃ v, RelV v u ∧ ∀ ct, KC ⟨K, ct⟩ w v
theorem kcBs_ok {K : Fr} {f : MV → Value → Bool} (hf : ∀ w u, f w u = true → RelK K w u) : ∀ {ws : List MV} {us : List Value}, kcBs f ws us = true → ∃ vs, Vals vs us ∧ ∀ ct ι H, RWs ⟨K, ct⟩ ι H ws vs
  | [], [], _ => ⟨[], .nil, fun _ _ _ => .nil⟩
  | [], _ :: _, h => by cases h
  | _ :: _, [], h => by cases h
  | w :: ws, u :: us, h => by
    unfold kcBs at h
    obtain ⟨h1, h2⟩ := Bool.and_eq_true_iff.mp h
    obtain ⟨v, r, k⟩ := hf w u h1
    obtain ⟨vs, rs, ks⟩ := kcBs_ok hf h2
    exact ⟨v :: vs, .cons r rs, fun ct ι H => .cons (k ct ι H) (ks ct ι H)⟩
theorem kcB_ok {K : Fr} : ∀ {n : Nat} {w : MV} {u : Value}, kcB K n w u = true → RelK K w u
  | 0, _, _, h => by cases h
  | n + 1, w, u, h => by
    unfold kcB at h
    split at h
    · exact ⟨.non, rfl, fun _ _ _ => .non⟩
    · have e := of_decide_eq_true h
      subst e
      exact ⟨.bl _, rfl, fun _ _ _ => .bl _⟩
    · have e := of_decide_eq_true h
      subst e
      exact ⟨.int _, ⟨_, rfl⟩, fun _ _ _ => .int _⟩
    · have e := of_decide_eq_true h
      subst e
      exact ⟨.str _, ⟨_, rfl⟩, fun _ _ _ => .str _⟩
    · split at h
      · rename_i l a _ c dct its m sl q
        obtain ⟨h1, h2⟩ := Bool.and_eq_true_iff.mp h
        obtain ⟨h3, h4⟩ := Bool.and_eq_true_iff.mp h2
        obtain ⟨vs, rs, ks⟩ := kcBs_ok (fun w u => kcB_ok (n := n)) h4
        have e1 : c = "tuple" := of_decide_eq_true h1
        subst e1
        exact ⟨.ref a, rfl, fun ct => kc_tup (G := ⟨K, ct⟩) (its := its.toList) (by rw [Array.toArray_toList]; exact q) (of_decide_eq_true h3) rs (ks ct)⟩
      · cases h
    · cases h
/-- the module's name x is bound to w -/
def conK (K : Fr) (x : Str) (w : MV) : Bool := match PySem.W.nsIn K mainGlobals x with
  | some (some u) => kcB K 9 w u
  | _ => false
theorem conK_ok {K : Fr} {h : Heap} {mg : Str → Option Value} {x : Str} {w : MV} (X : K.In h) (G : h.Ns mainGlobals mg) (c : conK K x w = true) : ∃ u v, mg x = some u ∧ RelV v u ∧ ∀ ct, KC ⟨K, ct⟩ w v := by
  unfold conK at c
  split at c
  · rename_i u e
    obtain ⟨v, r, k⟩ := kcB_ok c
    exact ⟨u, v, PySem.W.mg_of X G e, r, k⟩
  · cases c
/-! ### a written dict -/
def tabK (K : Fr) (d : Addr) (tbl : List (Str × MV)) : Bool := (tbl.all fun q => match PySem.W.nsIn K d q.1 with
    | some (some u) => kcB K 9 q.2 u
    | _ => false) && (match K.lookup d with
  | some ⟨_, _, .dict es _, _⟩ => es.toList.all fun e => (match e.key with
    | .str x _ => (tbl.lookup x).isSome
    | _ => false)
  | _ => false)
theorem lookup_in {α β : Type} [BEq α] [LawfulBEq α] : ∀ {l : List (α × β)} {a : α} {b : β}, l.lookup a = some b → (a, b) ∈ l
  | (c, d) :: r, a, b, h => by
    rw [List.lookup_cons] at h
    split at h
    · rename_i e
      cases h
      rw [beq_iff_eq.mp e]
      exact List.mem_cons_self
    · exact List.mem_cons_of_mem _ (lookup_in h)
theorem tabK_ok {K : Fr} {w : World} {d : Addr} {tbl : List (Str × MV)} (kd : ∃ es n, KDict K w d es n) (c : tabK K d tbl = true) (ct : Str → Option Addr) : WTab ⟨K, ct⟩ w d tbl := by
  unfold tabK at c
  obtain ⟨c1, c2⟩ := Bool.and_eq_true_iff.mp c
  refine ⟨kd, fun z w' e => ?_, fun z e => ?_⟩
  · have h := List.all_eq_true.mp c1 _ (lookup_in e)
    split at h
    · rename_i u q
      obtain ⟨v, r, k⟩ := kcB_ok h
      exact ⟨u, v, q, r, k ct⟩
    · cases h
  · show PySem.W.nsIn K d z = some none
    unfold PySem.W.nsIn
    split at c2
    · rename_i o1 o2 es m o3 q
      rw [q]
      have ha := List.all_eq_true.mp c2
      have hk : ∀ e ∈ es.toList, ∃ x t, e.key = .str x t ∧ x ≠ z := fun e he => by
        have h := ha e he
        split at h
        · rename_i x t q2
          refine ⟨x, t, q2, fun y => ?_⟩
          subst y
          rw [‹tbl.lookup _ = none›] at h
          cases h
        · cases h
      have hf : es.toList.find? (fun e => e.key.isStr z) = none := by
        rw [List.find?_eq_none]
        intro e he
        obtain ⟨x, t, q2, ne⟩ := hk e he
        rw [q2]
        simpa [Value.isStr] using ne
      have hr : es.toList.any (fun e => e.refKey) = false := by
        rw [List.any_eq_false]
        intro e he
        obtain ⟨x, t, q2, ne⟩ := hk e he
        simp [DictEntry.refKey, q2]
      show (match es.toList.find? (fun e => e.key.isStr z) with
        | some e => some (some e.val)
        | none => if es.toList.any (fun e => e.refKey) then none else some none) = some none
      rw [hf, hr]
      rfl
    · cases c2
/-! ### a property, an own class -/
def prP (K : Fr) (C : Addr) (f : Str) : Addr := match PySem.W.findIn K (.ref C) f with
  | some (some (.ref p)) => p
  | _ => 0
def prG (K : Fr) (C : Addr) (f : Str) : Addr := match PySem.W.recIn K (prP K C f) "property" with
  | some (.ref g :: _) => g
  | _ => 0
def prB (K : Fr) (C : Addr) (f : Str) : Bool := decide (PySem.W.findIn K (.ref C) f = some (some (.ref (prP K C f)))) && (decide (PySem.W.specialIn K (.ref (prP K C f)) "__get__" = some (some (.builtin "property.__get__"))) &&
  (decide (PySem.W.takesIn K (.ref (prP K C f)) = some true) && (match PySem.W.recIn K (prP K C f) "property" with
    | some (.ref _ :: _) => true
    | _ => false)))
theorem prB_ok {K : Fr} {C : Addr} {f : Str} (h : prB K C f = true) : PropOf K C f (prP K C f) (prG K C f) := by
  unfold prB at h
  obtain ⟨h1, h⟩ := Bool.and_eq_true_iff.mp h
  obtain ⟨h2, h⟩ := Bool.and_eq_true_iff.mp h
  obtain ⟨h3, h4⟩ := Bool.and_eq_true_iff.mp h
  refine ⟨of_decide_eq_true h1, of_decide_eq_true h2, of_decide_eq_true h3, ?_⟩
  split at h4
  · rename_i g r e
    refine ⟨r, ?_⟩
    unfold prG
    rw [e]
  · cases h4
def ownB (K : Fr) (C : Addr) : Bool := (["NoneType", "bool", "int", "str", "tuple", "list", "dict"].all fun t => decide (PySem.W.kitOne K (.type t) (.ref C) = some false)) && (decide (PySem.W.findIn K (.ref C) "__class__" = some (some (.builtin "object.__class__"))) && (decide (PySem.W.specialIn K (.builtin "object.__class__") "__get__" = some (some (.builtin "getset_descriptor.__get__"))) &&
  (decide (PySem.W.takesIn K (.builtin "object.__class__") = some true) && (decide (PySem.W.mroIn K C (.type "object") = some true) && decide (PySem.W.kitOne K (.ref C) (.ref C) = some true)))))
theorem ownB_ok {K : Fr} {C : Addr} (c : Cls K C) (h : ownB K C = true) : OwnCls K C := by
  unfold ownB at h
  obtain ⟨h0, h⟩ := Bool.and_eq_true_iff.mp h
  obtain ⟨h1, h⟩ := Bool.and_eq_true_iff.mp h
  obtain ⟨h2, h⟩ := Bool.and_eq_true_iff.mp h
  obtain ⟨h3, h⟩ := Bool.and_eq_true_iff.mp h
  obtain ⟨h4, h5⟩ := Bool.and_eq_true_iff.mp h
  exact ⟨c, of_decide_eq_true h1, of_decide_eq_true h2, of_decide_eq_true h3, of_decide_eq_true h4, of_decide_eq_true h5, fun t ht => of_decide_eq_true (List.all_eq_true.mp h0 t ht)⟩
/-! ### defs -/
/-- a def: where it stands, its name, its long name, its statement -/
structure Df where
  at_ : Fr → Addr
  x : Str
  qual : Str
  st : Stmt
abbrev DfV : Type := Option (Str × Str × Arguments × FuncBody × Scope × Addr × List (Str × Addr) × Value × Addr)
def Df.seen (K : Fr) (d : Df) : DfV := match K.lookup (d.at_ K) with
  | some ⟨_, _, .func g, _⟩ => some (g.name, g.qualname, g.params, g.body, g.scope, g.globals, g.closure, g.defaults, g.builtins)
  | _ => none
def Df.due (d : Df) : DfV := some (d.x, d.qual, defArgs d.st, .stmts (defBody d.st), defScope d.st, mainGlobals, [], .none, builtinsNs)
def Df.held (K : Fr) (d : Df) : Bool := PySem.W.keepIn K (.ref (d.at_ K)) && (match K.lookup (d.at_ K) with
  | some ⟨_, _, .func g, _⟩ => PySem.W.codeIn K g.code d.qual
  | _ => false)
theorem Df.fun_ {K : Fr} {d : Df} (e : d.seen K = d.due) (c : d.held K = true) : ∃ fd, Fun K d.x d.qual d.st (d.at_ K) fd := by
  unfold Df.held at c
  obtain ⟨kp, c2⟩ := Bool.and_eq_true_iff.mp c
  unfold Df.seen Df.due at e
  split at c2
  · rename_i oc od g sl q
    rw [q] at e
    obtain ⟨n1, n2, n3, n4, n5, n6, n7, n8, n9, n10, n11, n12, n13, n14, n15⟩ := g
    simp only [Option.some.injEq, Prod.mk.injEq] at e
    obtain ⟨h1, h2, h3, h4, h5, h6, h7, h8, h9⟩ := e
    subst h1 h2 h3 h4 h5 h6 h7 h8 h9
    exact ⟨_, fun_mk q c2 kp⟩
  · cases c2
/-! ### the look -/
def noLst (K : Fr) : Bool := K.all fun q => match q.2.cls with
  | .type c => !decide (c = "list")
  | _ => true
theorem noLst_ok {K : Fr} (h : noLst K = true) {a : Addr} {o : Obj} (e : K.lookup a = some o) : o.cls ≠ .type "list" := fun z => by
  have h2 := List.all_eq_true.mp h _ (lookup_in e)
  rw [z] at h2
  simp at h2
abbrev Seen : Type := He.AlT × Bool × List DfV
def lookM (fa : List He.Fa) (ts : List He.Tab) (ex : Fr → Bool) (fs : List Df) (K : Fr) : Seen := (He.obsT fa [] ts K, ex K && (noLst K && fs.all fun d => d.held K), fs.map fun d => d.seen K)
def dueM (ts : List He.Tab) (fs : List Df) (w : World) : Seen := (He.valT [] ts w, true, fs.map Df.due)
def looksM (n : Nat) (fa : List He.Fa) (ts : List He.Tab) (ex : Fr → Bool) (fs : List Df) (g : Addr → Option Obj) : Seen := lookM fa ts ex fs (He.frG g (He.asD g n))
structure Told (fa : List He.Fa) (ts : List He.Tab) (ex : Fr → Bool) (fs : List Df) (w : World) (K : Fr) : Prop where
  t : He.SaysT fa [] ts w K
  ex : ex K = true
  no : noLst K = true
  hd : ∀ d ∈ fs, d.held K = true
  sn : ∀ (i : Nat) (d : Df), fs[i]? = some d → Df.seen K d = d.due
theorem told_of {fa : List He.Fa} {ts : List He.Tab} {ex : Fr → Bool} {fs : List Df} {w : World} {K : Fr} (e : lookM fa ts ex fs K = dueM ts fs w) : Told fa ts ex fs w K := by
  have e1 : He.obsT fa [] ts K = He.valT [] ts w := congrArg (fun z : Seen => z.1) e
  have e2 : (ex K && (noLst K && fs.all fun d => d.held K)) = true := congrArg (fun z : Seen => z.2.1) e
  have e3 : fs.map (fun d => d.seen K) = fs.map Df.due := congrArg (fun z : Seen => z.2.2) e
  obtain ⟨h1, h2⟩ := Bool.and_eq_true_iff.mp e2
  obtain ⟨h3, h4⟩ := Bool.and_eq_true_iff.mp h2
  refine ⟨e1, h1, h3, fun d hd => List.all_eq_true.mp h4 d hd, fun i d hi => ?_⟩
  have e4 : (fs.map (fun d => d.seen K))[i]? = (fs.map Df.due)[i]? := by rw [e3]
  rw [List.getElem?_map, List.getElem?_map, hi] at e4
  exact Option.some.inj e4
theorem Told.df {fa : List He.Fa} {ts : List He.Tab} {ex : Fr → Bool} {fs : List Df} {w : World} {K : Fr} (c : Told fa ts ex fs w K) (i : Nat) {d : Df} (h : fs[i]? = some d := by rfl) : ∃ fd, Fun K d.x d.qual d.st (d.at_ K) fd :=
  Df.fun_ (c.sn i d h) (c.hd d (List.mem_of_getElem? h))
def hookM (n : Nat) (fa : List He.Fa) (ts : List He.Tab) (ex : Fr → Bool) (fs : List Df) : PySem.W.Hook where
  α := Seen
  obs := fun s => looksM n fa ts ex fs s.heap.get?
  val := fun w => dueM ts fs w
  says := fun w h => ∃ K : Fr, K.In h ∧ Told fa ts ex fs w K
  of := fun _ _ e => ⟨_, He.frG_in, told_of e⟩
  keeps := fun _ _ _ ⟨K, hK, c⟩ k => ⟨K, PySem.W.Frag.In.keeps hK k, c⟩
def lookT (n : Nat) (fa : List He.Fa) (ts : List He.Tab) (ex : Fr → Bool) (fs : List Df) (s : PySem.W.SharedT) : Seen := looksM n fa ts ex fs (HandSHeadRun.getT s)
theorem lookT_eq (n : Nat) (fa : List He.Fa) (ts : List He.Tab) (ex : Fr → Bool) (fs : List Df) (s : PySem.W.SharedT) : lookT n fa ts ex fs s = (hookM n fa ts ex fs).obs s.abs := by
  have e : HandSHeadRun.getT s = s.abs.heap.get? := funext (HandSHeadRun.getT_eq s)
  unfold lookT
  rw [e]
  rfl
/-! ### the end -/
theorem cx_never {P : Program} {w : World} {H : Hp} {s : Shared} {e : Value} {s' : Shared} (h : L2.CX P w [] H s (fun _ _ _ => False) e s') : False := by
  obtain ⟨_, _, _, _, _, _, _, _, _, _, _, _, z⟩ := h
  exact z
theorem rws_ints {G : Gx} {ι : List Addr} {H : Hp} : ∀ ns : List Int, RWs G ι H (ns.map MV.int) (ns.map V.int)
  | [] => .nil
  | i :: r => .cons (.int i) (rws_ints r)
theorem fun_bindsA {K : Fr} {x qual : Str} {st : Stmt} {f : Addr} {fd : FuncData} {ps : List Str} (F : Fun K x qual st f fd)
    (h : ∀ (kV doc pm : Value) (an : Option Addr) (cdv ct : Value) (us : List Value), us.length = ps.length → bindArgs (PySem.W.fnOf x qual (defArgs st) (defBody st) (defScope st) .none kV doc pm an cdv ct) ⟨us, []⟩ = pure (ps.zip us)) (s : Shared) (us : List Value) (hl : us.length = ps.length) : BindsTo s fd ⟨us, []⟩ (ps.zip us) := by
  obtain ⟨_, _, kV, doc, pm, an, cdv, ct, _, rfl, _⟩ := F.ex
  exact .of_eq (h kV doc pm an cdv ct us hl)
theorem end_ok {K : Fr} {ct : Str → Option Addr} (no : noLst K = true) {H : Hp} {a : Addr} {ns : List Int} {g : FnM} {S' : Store} (hO : Only H) (hS : SqL K H a (ns.map V.int)) (hg : g [.ref 0] [.rol (ns.map MV.int)] = .ok (.bl true) S') :
    spF ⟨K, ct⟩ g [.ref a] H (fun v _ => v = .bl true) fun _ _ _ => False := by
  have hz : ∃ o, H a = some (.frz o (.lst (ns.map V.int))) := by
    rcases hS with (h | h) | ⟨o, its, n, e, q, _⟩
    · rcases hO a with z | ⟨o, xs, z⟩ <;> (rw [h] at z; cases z)
    · exact h
    · exact absurd q (noLst_ok no e)
  obtain ⟨o, hz⟩ := hz
  refine ⟨[a], [.rol (ns.map MV.int)], [.ref 0], ⟨rfl, by simp, fun n mo b h1 h2 => ?_⟩, .cons (.ref rfl) .nil, ?_⟩
  · match n, h1, h2 with
    | 0, h1, h2 =>
      cases h1
      cases h2
      exact ⟨o, _, hz, rws_ints ns⟩
  · rw [hg]
    intro ι' H' p v r
    cases r
    rfl
/-- a law: at every heap in which what is told holds, its def has a denotation that ends in True -/
theorem walkM {l : PySem.W.OpenLaw} {n k : Nat} {q : Program} {loose : List Str} {XP : (Str → Option Value) → Heap → Prop} {YP : World → Heap → Prop} {d : DefRec} {x : Str} (hn : l.most = some n) (h2 : n ≤ sizeLine) (h3 : d.params.defaults = []) (h4 : Room k callerA) (g : FnM)
    (hg : ∀ ns : List Int, ns.length ≤ n → ∃ S', g [.ref 0] [.rol (ns.map MV.int)] = .ok (.bl true) S')
    (F : ∀ (w : World) (mg : Str → Option Value) (f : Addr) (h : Heap), YP w h → h.Ns mainGlobals mg → mg d.name = some (.ref f) →
      ∃ (K : Fr) (ct : Str → Option Addr) (fd : FuncData), K.In h ∧ noLst K = true ∧ (∀ (s : Shared) (us : List Value), us.length = 1 → BindsTo s fd ⟨us, []⟩ ([x].zip us)) ∧ ∀ base : Heap, FnOk l.prog w K mg base (L2.CX l.prog w) k f fd [x] (spF ⟨K, ct⟩ g)) :
    PySem.W.WalkO q loose XP YP l.row.toRowW d [] (fun f vs => PySem.call f vs) :=
  Att.attach_call hn h3 fun w _ s mg _ f _ _ _ _ a _ ns gr y _ _ _ hm ha hi hl hs => by
    obtain ⟨K, ct, fd, X, no, b, ok⟩ := F w mg f _ y gr.T.g hm
    exact law_call X gr.T.g gr.T.b gr.T.builtins gr.T.nolimit hs ha hi (Nat.le_trans hl h2) h4 (fun base _ _ => ok base) (fun s u => b s [u] rfl) (fun H hO hS => end_ok no hO hS (hg ns hl).choose_spec) fun _ _ _ z => cx_never z
end MI

set_option Elab.async false
set_option linter.all false
set_option maxRecDepth 100000
set_option maxHeartbeats 4000000
namespace K06
open PySem PySem.Spec PyProof.Rows L2 MI
def top (i : Nat) : Stmt := PySem.Challenge.pw_classhouse_k06_whole_fields.main.body.getD i (.Pass ⟨0, 0, 0, 0⟩)
def s_House : Stmt :=
  (PySem.Stmt.ClassDef
            (name := "House")
            (bases := [])
            (keywords := [])
            (body := [
              (PySem.Stmt.FunctionDef
                (name := "__init__")
                (args := {
                  posonlyargs := [],
                  args := [
                    { arg := "self", annotation := none, pos := ⟨200, 17, 200, 21⟩ : PySem.Arg },
                    { arg := "classes", annotation := none, pos := ⟨200, 23, 200, 30⟩ : PySem.Arg }],
                  vararg := none,
                  kwonlyargs := [],
                  kw_defaults := [],
                  kwarg := none,
                  defaults := [] : PySem.Arguments })
                (body := [
                  (PySem.Stmt.Expr
                    (value := (PySem.Expr.Call
                      (func := (PySem.Expr.Name "check_classes" ⟨201, 8, 201, 21⟩))
                      (args := [(PySem.Expr.Name "classes" ⟨201, 22, 201, 29⟩)])
                      (keywords := [])
                      (pos := ⟨201, 8, 201, 30⟩)))
                    (pos := ⟨201, 8, 201, 30⟩)),
                  (PySem.Stmt.Assign
                    (targets := [(PySem.Expr.Attribute (PySem.Expr.Name "self" ⟨202, 8, 202, 12⟩) "_classes" ⟨202, 8, 202, 21⟩)])
                    (value := (PySem.Expr.Name "classes" ⟨202, 24, 202, 31⟩))
                    (pos := ⟨202, 8, 202, 31⟩))])
                (decorator_list := [])
                (returns := none)
                (type_params := [])
                (scope := {
                  kind := PySem.ScopeKind.function,
                  names := [
                    (PySem.Str.ofString "self", PySem.NameKind.local),
                    (PySem.Str.ofString "classes", PySem.NameKind.local),
                    (PySem.Str.ofString "check_classes", PySem.NameKind.globalImplicit)],
                  isGenerator := false,
                  isCoroutine := false,
                  more := [] : PySem.Scope })
                (tscope := none)
                (bind := "__init__")
                (pos := ⟨200, 4, 202, 31⟩)),
              (PySem.Stmt.FunctionDef
                (name := "classes")
                (args := {
                  posonlyargs := [],
                  args := [{ arg := "self", annotation := none, pos := ⟨205, 16, 205, 20⟩ : PySem.Arg }],
                  vararg := none,
                  kwonlyargs := [],
                  kw_defaults := [],
                  kwarg := none,
                  defaults := [] : PySem.Arguments })
                (body := [
                  (PySem.Stmt.Return
                    (value := (some (PySem.Expr.Attribute (PySem.Expr.Name "self" ⟨206, 15, 206, 19⟩) "_classes" ⟨206, 15, 206, 28⟩)))
                    (pos := ⟨206, 8, 206, 28⟩))])
                (decorator_list := [(PySem.Expr.Name "property" ⟨204, 5, 204, 13⟩)])
                (returns := none)
                (type_params := [])
                (scope := {
                  kind := PySem.ScopeKind.function,
                  names := [(PySem.Str.ofString "self", PySem.NameKind.local)],
                  isGenerator := false,
                  isCoroutine := false,
                  more := [] : PySem.Scope })
                (tscope := none)
                (bind := "classes")
                (pos := ⟨205, 4, 206, 28⟩)),
              (PySem.Stmt.FunctionDef
                (name := "__eq__")
                (args := {
                  posonlyargs := [],
                  args := [
                    { arg := "self", annotation := none, pos := ⟨208, 15, 208, 19⟩ : PySem.Arg },
                    { arg := "other", annotation := none, pos := ⟨208, 21, 208, 26⟩ : PySem.Arg }],
                  vararg := none,
                  kwonlyargs := [],
                  kw_defaults := [],
                  kwarg := none,
                  defaults := [] : PySem.Arguments })
                (body := [
                  (PySem.Stmt.Return
                    (value := (some
                      (PySem.Expr.BoolOp
                        (op := PySem.BoolOp.And)
                        (values := [
                          (PySem.Expr.Call
                            (func := (PySem.Expr.Name "isinstance" ⟨209, 15, 209, 25⟩))
                            (args := [(PySem.Expr.Name "other" ⟨209, 26, 209, 31⟩), (PySem.Expr.Name "House" ⟨209, 33, 209, 38⟩)])
                            (keywords := [])
                            (pos := ⟨209, 15, 209, 39⟩)),
                          (PySem.Expr.Compare
                            (left := (PySem.Expr.Attribute (PySem.Expr.Name "self" ⟨209, 44, 209, 48⟩) "_classes" ⟨209, 44, 209, 57⟩))
                            (ops := [PySem.CmpOp.Eq])
                            (comparators := [(PySem.Expr.Attribute (PySem.Expr.Name "other" ⟨209, 61, 209, 66⟩) "_classes" ⟨209, 61, 209, 75⟩)])
                            (pos := ⟨209, 44, 209, 75⟩))])
                        (pos := ⟨209, 15, 209, 75⟩))))
                    (pos := ⟨209, 8, 209, 75⟩))])
                (decorator_list := [])
                (returns := none)
                (type_params := [])
                (scope := {
                  kind := PySem.ScopeKind.function,
                  names := [
                    (PySem.Str.ofString "self", PySem.NameKind.local),
                    (PySem.Str.ofString "other", PySem.NameKind.local),
                    (PySem.Str.ofString "isinstance", PySem.NameKind.globalImplicit),
                    (PySem.Str.ofString "House", PySem.NameKind.globalImplicit)],
                  isGenerator := false,
                  isCoroutine := false,
                  more := [] : PySem.Scope })
                (tscope := none)
                (bind := "__eq__")
                (pos := ⟨208, 4, 209, 75⟩))])
            (decorator_list := [])
            (type_params := [])
            (scope := {
              kind := PySem.ScopeKind.class,
              names := [
                (PySem.Str.ofString "__init__", PySem.NameKind.local),
                (PySem.Str.ofString "classes", PySem.NameKind.local),
                (PySem.Str.ofString "property", PySem.NameKind.globalImplicit),
                (PySem.Str.ofString "__eq__", PySem.NameKind.local)],
              isGenerator := false,
              isCoroutine := false,
              more := [] : PySem.Scope })
            (tscope := none)
            (bind := "House")
            (static_attributes := [PySem.Str.ofString "_classes"])
            (pos := ⟨198, 0, 209, 75⟩))
def s_names_of : Stmt :=
  (PySem.Stmt.FunctionDef
            (name := "names_of")
            (args := {
              posonlyargs := [],
              args := [{ arg := "classes", annotation := none, pos := ⟨42, 13, 42, 20⟩ : PySem.Arg }],
              vararg := none,
              kwonlyargs := [],
              kw_defaults := [],
              kwarg := none,
              defaults := [] : PySem.Arguments })
            (body := [
              (PySem.Stmt.Return
                (value := (some
                  (PySem.Expr.Tuple
                    (elts := [
                      (PySem.Expr.Constant (PySem.Const.str "top") 0 ⟨43, 12, 43, 17⟩),
                      (PySem.Expr.Starred
                        (value := (PySem.Expr.ListComp
                          (elt := (PySem.Expr.Subscript
                            (value := (PySem.Expr.Name "row" ⟨43, 21, 43, 24⟩))
                            (slice := (PySem.Expr.Constant (PySem.Const.int 0) 0 ⟨43, 25, 43, 26⟩))
                            (pos := ⟨43, 21, 43, 27⟩)))
                          (generators := [
                            {
                              target := (PySem.Expr.Name "row" ⟨43, 32, 43, 35⟩),
                              iter := (PySem.Expr.Name "classes" ⟨43, 39, 43, 46⟩),
                              ifs := [],
                              is_async := 0 : PySem.Comprehension }])
                          (scope := {
                            kind := PySem.ScopeKind.function,
                            names := [(PySem.Str.ofString ".0", PySem.NameKind.local), (PySem.Str.ofString "row", PySem.NameKind.local)],
                            isGenerator := false,
                            isCoroutine := false,
                            more := [] : PySem.Scope })
                          (pos := ⟨43, 20, 43, 47⟩)))
                        (pos := ⟨43, 19, 43, 47⟩))])
                    (k := 0)
                    (pos := ⟨43, 11, 43, 48⟩))))
                (pos := ⟨43, 4, 43, 48⟩))])
            (decorator_list := [])
            (returns := none)
            (type_params := [])
            (scope := {
              kind := PySem.ScopeKind.function,
              names := [(PySem.Str.ofString "classes", PySem.NameKind.local)],
              isGenerator := false,
              isCoroutine := false,
              more := [
                (PySem.Str.ofString "fast", (PySem.Const.str "classes")),
                (PySem.Str.ofString "fast", (PySem.Const.str "row"))] : PySem.Scope })
            (tscope := none)
            (bind := "names_of")
            (pos := ⟨42, 0, 43, 48⟩))
def s_is_class : Stmt :=
  (PySem.Stmt.FunctionDef
            (name := "is_class")
            (args := {
              posonlyargs := [],
              args := [
                { arg := "classes", annotation := none, pos := ⟨40, 13, 40, 20⟩ : PySem.Arg },
                { arg := "name", annotation := none, pos := ⟨40, 22, 40, 26⟩ : PySem.Arg }],
              vararg := none,
              kwonlyargs := [],
              kw_defaults := [],
              kwarg := none,
              defaults := [] : PySem.Arguments })
            (body := [
              (PySem.Stmt.Return
                (value := (some
                  (PySem.Expr.Compare
                    (left := (PySem.Expr.Name "name" ⟨41, 11, 41, 15⟩))
                    (ops := [PySem.CmpOp.In])
                    (comparators := [
                      (PySem.Expr.Call
                        (func := (PySem.Expr.Name "names_of" ⟨41, 19, 41, 27⟩))
                        (args := [(PySem.Expr.Name "classes" ⟨41, 28, 41, 35⟩)])
                        (keywords := [])
                        (pos := ⟨41, 19, 41, 36⟩))])
                    (pos := ⟨41, 11, 41, 36⟩))))
                (pos := ⟨41, 4, 41, 36⟩))])
            (decorator_list := [])
            (returns := none)
            (type_params := [])
            (scope := {
              kind := PySem.ScopeKind.function,
              names := [
                (PySem.Str.ofString "classes", PySem.NameKind.local),
                (PySem.Str.ofString "name", PySem.NameKind.local),
                (PySem.Str.ofString "names_of", PySem.NameKind.globalImplicit)],
              isGenerator := false,
              isCoroutine := false,
              more := [] : PySem.Scope })
            (tscope := none)
            (bind := "is_class")
            (pos := ⟨40, 0, 41, 36⟩))
def s_class_of : Stmt :=
  (PySem.Stmt.FunctionDef
            (name := "class_of")
            (args := {
              posonlyargs := [],
              args := [
                { arg := "classes", annotation := none, pos := ⟨44, 13, 44, 20⟩ : PySem.Arg },
                { arg := "name", annotation := none, pos := ⟨44, 22, 44, 26⟩ : PySem.Arg }],
              vararg := none,
              kwonlyargs := [],
              kw_defaults := [],
              kwarg := none,
              defaults := [] : PySem.Arguments })
            (body := [
              (PySem.Stmt.For
                (target := (PySem.Expr.Name "row" ⟨45, 8, 45, 11⟩))
                (iter := (PySem.Expr.Name "classes" ⟨45, 15, 45, 22⟩))
                (body := [
                  (PySem.Stmt.If
                    (test := (PySem.Expr.Compare
                      (left := (PySem.Expr.Subscript
                        (value := (PySem.Expr.Name "row" ⟨46, 11, 46, 14⟩))
                        (slice := (PySem.Expr.Constant (PySem.Const.int 0) 0 ⟨46, 15, 46, 16⟩))
                        (pos := ⟨46, 11, 46, 17⟩)))
                      (ops := [PySem.CmpOp.Eq])
                      (comparators := [(PySem.Expr.Name "name" ⟨46, 21, 46, 25⟩)])
                      (pos := ⟨46, 11, 46, 25⟩)))
                    (body := [(PySem.Stmt.Return (some (PySem.Expr.Name "row" ⟨47, 19, 47, 22⟩)) ⟨47, 12, 47, 22⟩)])
                    (orelse := [])
                    (pos := ⟨46, 8, 47, 22⟩))])
                (orelse := [])
                (pos := ⟨45, 4, 47, 22⟩)),
              (PySem.Stmt.Return (some (PySem.Expr.Name "TOP" ⟨48, 11, 48, 14⟩)) ⟨48, 4, 48, 14⟩)])
            (decorator_list := [])
            (returns := none)
            (type_params := [])
            (scope := {
              kind := PySem.ScopeKind.function,
              names := [
                (PySem.Str.ofString "classes", PySem.NameKind.local),
                (PySem.Str.ofString "name", PySem.NameKind.local),
                (PySem.Str.ofString "row", PySem.NameKind.local),
                (PySem.Str.ofString "TOP", PySem.NameKind.globalImplicit)],
              isGenerator := false,
              isCoroutine := false,
              more := [] : PySem.Scope })
            (tscope := none)
            (bind := "class_of")
            (pos := ⟨44, 0, 48, 14⟩))
def s_line_up : Stmt :=
  (PySem.Stmt.FunctionDef
            (name := "line_up")
            (args := {
              posonlyargs := [],
              args := [
                { arg := "classes", annotation := none, pos := ⟨49, 12, 49, 19⟩ : PySem.Arg },
                { arg := "name", annotation := none, pos := ⟨49, 21, 49, 25⟩ : PySem.Arg }],
              vararg := none,
              kwonlyargs := [],
              kw_defaults := [],
              kwarg := none,
              defaults := [] : PySem.Arguments })
            (body := [
              (PySem.Stmt.Assign
                (targets := [(PySem.Expr.Name "line" ⟨50, 4, 50, 8⟩)])
                (value := (PySem.Expr.List [] ⟨50, 11, 50, 13⟩))
                (pos := ⟨50, 4, 50, 13⟩)),
              (PySem.Stmt.While
                (test := (PySem.Expr.Compare
                  (left := (PySem.Expr.Name "name" ⟨51, 10, 51, 14⟩))
                  (ops := [PySem.CmpOp.NotEq])
                  (comparators := [(PySem.Expr.Constant (PySem.Const.str "top") 0 ⟨51, 18, 51, 23⟩)])
                  (pos := ⟨51, 10, 51, 23⟩)))
                (body := [
                  (PySem.Stmt.Expr
                    (value := (PySem.Expr.Call
                      (func := (PySem.Expr.Attribute (PySem.Expr.Name "line" ⟨52, 8, 52, 12⟩) "append" ⟨52, 8, 52, 19⟩))
                      (args := [(PySem.Expr.Name "name" ⟨52, 20, 52, 24⟩)])
                      (keywords := [])
                      (pos := ⟨52, 8, 52, 25⟩)))
                    (pos := ⟨52, 8, 52, 25⟩)),
                  (PySem.Stmt.Assign
                    (targets := [(PySem.Expr.Name "name" ⟨53, 8, 53, 12⟩)])
                    (value := (PySem.Expr.Subscript
                      (value := (PySem.Expr.Call
                        (func := (PySem.Expr.Name "class_of" ⟨53, 15, 53, 23⟩))
                        (args := [(PySem.Expr.Name "classes" ⟨53, 24, 53, 31⟩), (PySem.Expr.Name "name" ⟨53, 33, 53, 37⟩)])
                        (keywords := [])
                        (pos := ⟨53, 15, 53, 38⟩)))
                      (slice := (PySem.Expr.Constant (PySem.Const.int 1) 0 ⟨53, 39, 53, 40⟩))
                      (pos := ⟨53, 15, 53, 41⟩)))
                    (pos := ⟨53, 8, 53, 41⟩))])
                (orelse := [])
                (pos := ⟨51, 4, 53, 41⟩)),
              (PySem.Stmt.Return
                (value := (some
                  (PySem.Expr.Tuple
                    (elts := [
                      (PySem.Expr.Starred (PySem.Expr.Name "line" ⟨54, 13, 54, 17⟩) ⟨54, 12, 54, 17⟩),
                      (PySem.Expr.Constant (PySem.Const.str "top") 0 ⟨54, 19, 54, 24⟩)])
                    (k := 0)
                    (pos := ⟨54, 11, 54, 25⟩))))
                (pos := ⟨54, 4, 54, 25⟩))])
            (decorator_list := [])
            (returns := none)
            (type_params := [])
            (scope := {
              kind := PySem.ScopeKind.function,
              names := [
                (PySem.Str.ofString "classes", PySem.NameKind.local),
                (PySem.Str.ofString "name", PySem.NameKind.local),
                (PySem.Str.ofString "line", PySem.NameKind.local),
                (PySem.Str.ofString "class_of", PySem.NameKind.globalImplicit)],
              isGenerator := false,
              isCoroutine := false,
              more := [] : PySem.Scope })
            (tscope := none)
            (bind := "line_up")
            (pos := ⟨49, 0, 54, 25⟩))
def s_fields_up : Stmt :=
  (PySem.Stmt.FunctionDef
            (name := "fields_up")
            (args := {
              posonlyargs := [],
              args := [
                { arg := "classes", annotation := none, pos := ⟨55, 14, 55, 21⟩ : PySem.Arg },
                { arg := "name", annotation := none, pos := ⟨55, 23, 55, 27⟩ : PySem.Arg }],
              vararg := none,
              kwonlyargs := [],
              kw_defaults := [],
              kwarg := none,
              defaults := [] : PySem.Arguments })
            (body := [
              (PySem.Stmt.Assign
                (targets := [(PySem.Expr.Name "pairs" ⟨56, 4, 56, 9⟩)])
                (value := (PySem.Expr.List [] ⟨56, 12, 56, 14⟩))
                (pos := ⟨56, 4, 56, 14⟩)),
              (PySem.Stmt.For
                (target := (PySem.Expr.Name "upper" ⟨57, 8, 57, 13⟩))
                (iter := (PySem.Expr.Subscript
                  (value := (PySem.Expr.Call
                    (func := (PySem.Expr.Name "line_up" ⟨57, 17, 57, 24⟩))
                    (args := [(PySem.Expr.Name "classes" ⟨57, 25, 57, 32⟩), (PySem.Expr.Name "name" ⟨57, 34, 57, 38⟩)])
                    (keywords := [])
                    (pos := ⟨57, 17, 57, 39⟩)))
                  (slice := (PySem.Expr.Slice
                    (lower := none)
                    (upper := none)
                    (step := (some
                      (PySem.Expr.UnaryOp
                        (op := PySem.UnaryOp.USub)
                        (operand := (PySem.Expr.Constant (PySem.Const.int 1) 0 ⟨57, 43, 57, 44⟩))
                        (pos := ⟨57, 42, 57, 44⟩))))
                    (pos := ⟨57, 40, 57, 44⟩)))
                  (pos := ⟨57, 17, 57, 45⟩)))
                (body := [
                  (PySem.Stmt.Expr
                    (value := (PySem.Expr.Call
                      (func := (PySem.Expr.Attribute (PySem.Expr.Name "pairs" ⟨58, 8, 58, 13⟩) "extend" ⟨58, 8, 58, 20⟩))
                      (args := [
                        (PySem.Expr.Subscript
                          (value := (PySem.Expr.Call
                            (func := (PySem.Expr.Name "class_of" ⟨58, 21, 58, 29⟩))
                            (args := [(PySem.Expr.Name "classes" ⟨58, 30, 58, 37⟩), (PySem.Expr.Name "upper" ⟨58, 39, 58, 44⟩)])
                            (keywords := [])
                            (pos := ⟨58, 21, 58, 45⟩)))
                          (slice := (PySem.Expr.Constant (PySem.Const.int 2) 0 ⟨58, 46, 58, 47⟩))
                          (pos := ⟨58, 21, 58, 48⟩))])
                      (keywords := [])
                      (pos := ⟨58, 8, 58, 49⟩)))
                    (pos := ⟨58, 8, 58, 49⟩))])
                (orelse := [])
                (pos := ⟨57, 4, 58, 49⟩)),
              (PySem.Stmt.Return
                (value := (some
                  (PySem.Expr.Call
                    (func := (PySem.Expr.Name "tuple" ⟨59, 11, 59, 16⟩))
                    (args := [(PySem.Expr.Name "pairs" ⟨59, 17, 59, 22⟩)])
                    (keywords := [])
                    (pos := ⟨59, 11, 59, 23⟩))))
                (pos := ⟨59, 4, 59, 23⟩))])
            (decorator_list := [])
            (returns := none)
            (type_params := [])
            (scope := {
              kind := PySem.ScopeKind.function,
              names := [
                (PySem.Str.ofString "classes", PySem.NameKind.local),
                (PySem.Str.ofString "name", PySem.NameKind.local),
                (PySem.Str.ofString "pairs", PySem.NameKind.local),
                (PySem.Str.ofString "upper", PySem.NameKind.local),
                (PySem.Str.ofString "line_up", PySem.NameKind.globalImplicit),
                (PySem.Str.ofString "class_of", PySem.NameKind.globalImplicit),
                (PySem.Str.ofString "tuple", PySem.NameKind.globalImplicit)],
              isGenerator := false,
              isCoroutine := false,
              more := [] : PySem.Scope })
            (tscope := none)
            (bind := "fields_up")
            (pos := ⟨55, 0, 59, 23⟩))
def s_field_kind : Stmt :=
  (PySem.Stmt.FunctionDef
            (name := "field_kind")
            (args := {
              posonlyargs := [],
              args := [
                { arg := "classes", annotation := none, pos := ⟨60, 15, 60, 22⟩ : PySem.Arg },
                { arg := "name", annotation := none, pos := ⟨60, 24, 60, 28⟩ : PySem.Arg },
                { arg := "word", annotation := none, pos := ⟨60, 30, 60, 34⟩ : PySem.Arg }],
              vararg := none,
              kwonlyargs := [],
              kw_defaults := [],
              kwarg := none,
              defaults := [] : PySem.Arguments })
            (body := [
              (PySem.Stmt.For
                (target := (PySem.Expr.Tuple
                  (elts := [(PySem.Expr.Name "own" ⟨61, 8, 61, 11⟩), (PySem.Expr.Name "kind" ⟨61, 13, 61, 17⟩)])
                  (k := 0)
                  (pos := ⟨61, 8, 61, 17⟩)))
                (iter := (PySem.Expr.Call
                  (func := (PySem.Expr.Name "fields_up" ⟨61, 21, 61, 30⟩))
                  (args := [(PySem.Expr.Name "classes" ⟨61, 31, 61, 38⟩), (PySem.Expr.Name "name" ⟨61, 40, 61, 44⟩)])
                  (keywords := [])
                  (pos := ⟨61, 21, 61, 45⟩)))
                (body := [
                  (PySem.Stmt.If
                    (test := (PySem.Expr.Compare
                      (left := (PySem.Expr.Name "own" ⟨62, 11, 62, 14⟩))
                      (ops := [PySem.CmpOp.Eq])
                      (comparators := [(PySem.Expr.Name "word" ⟨62, 18, 62, 22⟩)])
                      (pos := ⟨62, 11, 62, 22⟩)))
                    (body := [(PySem.Stmt.Return (some (PySem.Expr.Name "kind" ⟨63, 19, 63, 23⟩)) ⟨63, 12, 63, 23⟩)])
                    (orelse := [])
                    (pos := ⟨62, 8, 63, 23⟩))])
                (orelse := [])
                (pos := ⟨61, 4, 63, 23⟩)),
              (PySem.Stmt.Return (some (PySem.Expr.Constant PySem.Const.none 0 ⟨64, 11, 64, 15⟩)) ⟨64, 4, 64, 15⟩)])
            (decorator_list := [])
            (returns := none)
            (type_params := [])
            (scope := {
              kind := PySem.ScopeKind.function,
              names := [
                (PySem.Str.ofString "classes", PySem.NameKind.local),
                (PySem.Str.ofString "name", PySem.NameKind.local),
                (PySem.Str.ofString "word", PySem.NameKind.local),
                (PySem.Str.ofString "own", PySem.NameKind.local),
                (PySem.Str.ofString "kind", PySem.NameKind.local),
                (PySem.Str.ofString "fields_up", PySem.NameKind.globalImplicit)],
              isGenerator := false,
              isCoroutine := false,
              more := [] : PySem.Scope })
            (tscope := none)
            (bind := "field_kind")
            (pos := ⟨60, 0, 64, 15⟩))
def s_nearest : Stmt :=
  (PySem.Stmt.FunctionDef
            (name := "nearest")
            (args := {
              posonlyargs := [],
              args := [
                { arg := "classes", annotation := none, pos := ⟨65, 12, 65, 19⟩ : PySem.Arg },
                { arg := "name", annotation := none, pos := ⟨65, 21, 65, 25⟩ : PySem.Arg },
                { arg := "word", annotation := none, pos := ⟨65, 27, 65, 31⟩ : PySem.Arg }],
              vararg := none,
              kwonlyargs := [],
              kw_defaults := [],
              kwarg := none,
              defaults := [] : PySem.Arguments })
            (body := [
              (PySem.Stmt.For
                (target := (PySem.Expr.Name "upper" ⟨66, 8, 66, 13⟩))
                (iter := (PySem.Expr.Call
                  (func := (PySem.Expr.Name "line_up" ⟨66, 17, 66, 24⟩))
                  (args := [(PySem.Expr.Name "classes" ⟨66, 25, 66, 32⟩), (PySem.Expr.Name "name" ⟨66, 34, 66, 38⟩)])
                  (keywords := [])
                  (pos := ⟨66, 17, 66, 39⟩)))
                (body := [
                  (PySem.Stmt.For
                    (target := (PySem.Expr.Tuple
                      (elts := [(PySem.Expr.Name "place" ⟨67, 12, 67, 17⟩), (PySem.Expr.Name "method" ⟨67, 19, 67, 25⟩)])
                      (k := 0)
                      (pos := ⟨67, 12, 67, 25⟩)))
                    (iter := (PySem.Expr.Call
                      (func := (PySem.Expr.Name "enumerate" ⟨67, 29, 67, 38⟩))
                      (args := [
                        (PySem.Expr.Subscript
                          (value := (PySem.Expr.Call
                            (func := (PySem.Expr.Name "class_of" ⟨67, 39, 67, 47⟩))
                            (args := [(PySem.Expr.Name "classes" ⟨67, 48, 67, 55⟩), (PySem.Expr.Name "upper" ⟨67, 57, 67, 62⟩)])
                            (keywords := [])
                            (pos := ⟨67, 39, 67, 63⟩)))
                          (slice := (PySem.Expr.Constant (PySem.Const.int 3) 0 ⟨67, 64, 67, 65⟩))
                          (pos := ⟨67, 39, 67, 66⟩))])
                      (keywords := [])
                      (pos := ⟨67, 29, 67, 67⟩)))
                    (body := [
                      (PySem.Stmt.If
                        (test := (PySem.Expr.Compare
                          (left := (PySem.Expr.Subscript
                            (value := (PySem.Expr.Name "method" ⟨68, 15, 68, 21⟩))
                            (slice := (PySem.Expr.Constant (PySem.Const.int 0) 0 ⟨68, 22, 68, 23⟩))
                            (pos := ⟨68, 15, 68, 24⟩)))
                          (ops := [PySem.CmpOp.Eq])
                          (comparators := [(PySem.Expr.Name "word" ⟨68, 28, 68, 32⟩)])
                          (pos := ⟨68, 15, 68, 32⟩)))
                        (body := [
                          (PySem.Stmt.Return
                            (value := (some
                              (PySem.Expr.Tuple
                                (elts := [(PySem.Expr.Name "upper" ⟨69, 24, 69, 29⟩), (PySem.Expr.Name "place" ⟨69, 31, 69, 36⟩)])
                                (k := 0)
                                (pos := ⟨69, 23, 69, 37⟩))))
                            (pos := ⟨69, 16, 69, 37⟩))])
                        (orelse := [])
                        (pos := ⟨68, 12, 69, 37⟩))])
                    (orelse := [])
                    (pos := ⟨67, 8, 69, 37⟩))])
                (orelse := [])
                (pos := ⟨66, 4, 69, 37⟩)),
              (PySem.Stmt.Return (some (PySem.Expr.Constant PySem.Const.none 0 ⟨70, 11, 70, 15⟩)) ⟨70, 4, 70, 15⟩)])
            (decorator_list := [])
            (returns := none)
            (type_params := [])
            (scope := {
              kind := PySem.ScopeKind.function,
              names := [
                (PySem.Str.ofString "classes", PySem.NameKind.local),
                (PySem.Str.ofString "name", PySem.NameKind.local),
                (PySem.Str.ofString "word", PySem.NameKind.local),
                (PySem.Str.ofString "upper", PySem.NameKind.local),
                (PySem.Str.ofString "place", PySem.NameKind.local),
                (PySem.Str.ofString "method", PySem.NameKind.local),
                (PySem.Str.ofString "line_up", PySem.NameKind.globalImplicit),
                (PySem.Str.ofString "enumerate", PySem.NameKind.globalImplicit),
                (PySem.Str.ofString "class_of", PySem.NameKind.globalImplicit)],
              isGenerator := false,
              isCoroutine := false,
              more := [] : PySem.Scope })
            (tscope := none)
            (bind := "nearest")
            (pos := ⟨65, 0, 70, 15⟩))
def s_method_at : Stmt :=
  (PySem.Stmt.FunctionDef
            (name := "method_at")
            (args := {
              posonlyargs := [],
              args := [
                { arg := "classes", annotation := none, pos := ⟨71, 14, 71, 21⟩ : PySem.Arg },
                { arg := "name", annotation := none, pos := ⟨71, 23, 71, 27⟩ : PySem.Arg },
                { arg := "place", annotation := none, pos := ⟨71, 29, 71, 34⟩ : PySem.Arg }],
              vararg := none,
              kwonlyargs := [],
              kw_defaults := [],
              kwarg := none,
              defaults := [] : PySem.Arguments })
            (body := [
              (PySem.Stmt.Return
                (value := (some
                  (PySem.Expr.Subscript
                    (value := (PySem.Expr.Subscript
                      (value := (PySem.Expr.Call
                        (func := (PySem.Expr.Name "class_of" ⟨72, 11, 72, 19⟩))
                        (args := [(PySem.Expr.Name "classes" ⟨72, 20, 72, 27⟩), (PySem.Expr.Name "name" ⟨72, 29, 72, 33⟩)])
                        (keywords := [])
                        (pos := ⟨72, 11, 72, 34⟩)))
                      (slice := (PySem.Expr.Constant (PySem.Const.int 3) 0 ⟨72, 35, 72, 36⟩))
                      (pos := ⟨72, 11, 72, 37⟩)))
                    (slice := (PySem.Expr.Name "place" ⟨72, 38, 72, 43⟩))
                    (pos := ⟨72, 11, 72, 44⟩))))
                (pos := ⟨72, 4, 72, 44⟩))])
            (decorator_list := [])
            (returns := none)
            (type_params := [])
            (scope := {
              kind := PySem.ScopeKind.function,
              names := [
                (PySem.Str.ofString "classes", PySem.NameKind.local),
                (PySem.Str.ofString "name", PySem.NameKind.local),
                (PySem.Str.ofString "place", PySem.NameKind.local),
                (PySem.Str.ofString "class_of", PySem.NameKind.globalImplicit)],
              isGenerator := false,
              isCoroutine := false,
              more := [] : PySem.Scope })
            (tscope := none)
            (bind := "method_at")
            (pos := ⟨71, 0, 72, 44⟩))
def s_nearest_method : Stmt :=
  (PySem.Stmt.FunctionDef
            (name := "nearest_method")
            (args := {
              posonlyargs := [],
              args := [
                { arg := "classes", annotation := none, pos := ⟨73, 19, 73, 26⟩ : PySem.Arg },
                { arg := "name", annotation := none, pos := ⟨73, 28, 73, 32⟩ : PySem.Arg },
                { arg := "word", annotation := none, pos := ⟨73, 34, 73, 38⟩ : PySem.Arg }],
              vararg := none,
              kwonlyargs := [],
              kw_defaults := [],
              kwarg := none,
              defaults := [] : PySem.Arguments })
            (body := [
              (PySem.Stmt.Assign
                (targets := [
                  (PySem.Expr.Tuple
                    (elts := [(PySem.Expr.Name "upper" ⟨74, 4, 74, 9⟩), (PySem.Expr.Name "place" ⟨74, 11, 74, 16⟩)])
                    (k := 0)
                    (pos := ⟨74, 4, 74, 16⟩))])
                (value := (PySem.Expr.Call
                  (func := (PySem.Expr.Name "nearest" ⟨74, 19, 74, 26⟩))
                  (args := [
                    (PySem.Expr.Name "classes" ⟨74, 27, 74, 34⟩),
                    (PySem.Expr.Name "name" ⟨74, 36, 74, 40⟩),
                    (PySem.Expr.Name "word" ⟨74, 42, 74, 46⟩)])
                  (keywords := [])
                  (pos := ⟨74, 19, 74, 47⟩)))
                (pos := ⟨74, 4, 74, 47⟩)),
              (PySem.Stmt.Return
                (value := (some
                  (PySem.Expr.Call
                    (func := (PySem.Expr.Name "method_at" ⟨75, 11, 75, 20⟩))
                    (args := [
                      (PySem.Expr.Name "classes" ⟨75, 21, 75, 28⟩),
                      (PySem.Expr.Name "upper" ⟨75, 30, 75, 35⟩),
                      (PySem.Expr.Name "place" ⟨75, 37, 75, 42⟩)])
                    (keywords := [])
                    (pos := ⟨75, 11, 75, 43⟩))))
                (pos := ⟨75, 4, 75, 43⟩))])
            (decorator_list := [])
            (returns := none)
            (type_params := [])
            (scope := {
              kind := PySem.ScopeKind.function,
              names := [
                (PySem.Str.ofString "classes", PySem.NameKind.local),
                (PySem.Str.ofString "name", PySem.NameKind.local),
                (PySem.Str.ofString "word", PySem.NameKind.local),
                (PySem.Str.ofString "upper", PySem.NameKind.local),
                (PySem.Str.ofString "place", PySem.NameKind.local),
                (PySem.Str.ofString "nearest", PySem.NameKind.globalImplicit),
                (PySem.Str.ofString "method_at", PySem.NameKind.globalImplicit)],
              isGenerator := false,
              isCoroutine := false,
              more := [] : PySem.Scope })
            (tscope := none)
            (bind := "nearest_method")
            (pos := ⟨73, 0, 75, 43⟩))
def s_is_word : Stmt :=
  (PySem.Stmt.FunctionDef
            (name := "is_word")
            (args := {
              posonlyargs := [],
              args := [{ arg := "value", annotation := none, pos := ⟨78, 12, 78, 17⟩ : PySem.Arg }],
              vararg := none,
              kwonlyargs := [],
              kw_defaults := [],
              kwarg := none,
              defaults := [] : PySem.Arguments })
            (body := [
              (PySem.Stmt.If
                (test := (PySem.Expr.BoolOp
                  (op := PySem.BoolOp.Or)
                  (values := [
                    (PySem.Expr.UnaryOp
                      (op := PySem.UnaryOp.Not)
                      (operand := (PySem.Expr.Call
                        (func := (PySem.Expr.Name "isinstance" ⟨79, 11, 79, 21⟩))
                        (args := [(PySem.Expr.Name "value" ⟨79, 22, 79, 27⟩), (PySem.Expr.Name "str" ⟨79, 29, 79, 32⟩)])
                        (keywords := [])
                        (pos := ⟨79, 11, 79, 33⟩)))
                      (pos := ⟨79, 7, 79, 33⟩)),
                    (PySem.Expr.UnaryOp
                      (op := PySem.UnaryOp.Not)
                      (operand := (PySem.Expr.Compare
                        (left := (PySem.Expr.Constant (PySem.Const.int 1) 0 ⟨79, 41, 79, 42⟩))
                        (ops := [PySem.CmpOp.LtE, PySem.CmpOp.LtE])
                        (comparators := [
                          (PySem.Expr.Call
                            (func := (PySem.Expr.Name "len" ⟨79, 46, 79, 49⟩))
                            (args := [(PySem.Expr.Name "value" ⟨79, 50, 79, 55⟩)])
                            (keywords := [])
                            (pos := ⟨79, 46, 79, 56⟩)),
                          (PySem.Expr.Constant (PySem.Const.int 6) 0 ⟨79, 60, 79, 61⟩)])
                        (pos := ⟨79, 41, 79, 61⟩)))
                      (pos := ⟨79, 37, 79, 61⟩))])
                  (pos := ⟨79, 7, 79, 61⟩)))
                (body := [(PySem.Stmt.Return (some (PySem.Expr.Constant (PySem.Const.bool false) 0 ⟨80, 15, 80, 20⟩)) ⟨80, 8, 80, 20⟩)])
                (orelse := [])
                (pos := ⟨79, 4, 80, 20⟩)),
              (PySem.Stmt.Return
                (value := (some
                  (PySem.Expr.Call
                    (func := (PySem.Expr.Name "all" ⟨81, 11, 81, 14⟩))
                    (args := [
                      (PySem.Expr.ListComp
                        (elt := (PySem.Expr.Compare
                          (left := (PySem.Expr.Name "letter" ⟨81, 16, 81, 22⟩))
                          (ops := [PySem.CmpOp.In])
                          (comparators := [(PySem.Expr.Name "LETTERS" ⟨81, 26, 81, 33⟩)])
                          (pos := ⟨81, 16, 81, 33⟩)))
                        (generators := [
                          {
                            target := (PySem.Expr.Name "letter" ⟨81, 38, 81, 44⟩),
                            iter := (PySem.Expr.Name "value" ⟨81, 48, 81, 53⟩),
                            ifs := [],
                            is_async := 0 : PySem.Comprehension }])
                        (scope := {
                          kind := PySem.ScopeKind.function,
                          names := [
                            (PySem.Str.ofString ".0", PySem.NameKind.local),
                            (PySem.Str.ofString "letter", PySem.NameKind.local),
                            (PySem.Str.ofString "LETTERS", PySem.NameKind.globalImplicit)],
                          isGenerator := false,
                          isCoroutine := false,
                          more := [] : PySem.Scope })
                        (pos := ⟨81, 15, 81, 54⟩))])
                    (keywords := [])
                    (pos := ⟨81, 11, 81, 55⟩))))
                (pos := ⟨81, 4, 81, 55⟩))])
            (decorator_list := [])
            (returns := none)
            (type_params := [])
            (scope := {
              kind := PySem.ScopeKind.function,
              names := [
                (PySem.Str.ofString "value", PySem.NameKind.local),
                (PySem.Str.ofString "isinstance", PySem.NameKind.globalImplicit),
                (PySem.Str.ofString "str", PySem.NameKind.globalImplicit),
                (PySem.Str.ofString "len", PySem.NameKind.globalImplicit),
                (PySem.Str.ofString "all", PySem.NameKind.globalImplicit)],
              isGenerator := false,
              isCoroutine := false,
              more := [
                (PySem.Str.ofString "fast", (PySem.Const.str "value")),
                (PySem.Str.ofString "fast", (PySem.Const.str "letter"))] : PySem.Scope })
            (tscope := none)
            (bind := "is_word")
            (pos := ⟨78, 0, 81, 55⟩))
def s_is_number : Stmt :=
  (PySem.Stmt.FunctionDef
            (name := "is_number")
            (args := {
              posonlyargs := [],
              args := [
                { arg := "value", annotation := none, pos := ⟨82, 14, 82, 19⟩ : PySem.Arg },
                { arg := "most", annotation := none, pos := ⟨82, 21, 82, 25⟩ : PySem.Arg }],
              vararg := none,
              kwonlyargs := [],
              kw_defaults := [],
              kwarg := none,
              defaults := [] : PySem.Arguments })
            (body := [
              (PySem.Stmt.Return
                (value := (some
                  (PySem.Expr.BoolOp
                    (op := PySem.BoolOp.And)
                    (values := [
                      (PySem.Expr.Call
                        (func := (PySem.Expr.Name "isinstance" ⟨83, 11, 83, 21⟩))
                        (args := [(PySem.Expr.Name "value" ⟨83, 22, 83, 27⟩), (PySem.Expr.Name "int" ⟨83, 29, 83, 32⟩)])
                        (keywords := [])
                        (pos := ⟨83, 11, 83, 33⟩)),
                      (PySem.Expr.UnaryOp
                        (op := PySem.UnaryOp.Not)
                        (operand := (PySem.Expr.Call
                          (func := (PySem.Expr.Name "isinstance" ⟨83, 43, 83, 53⟩))
                          (args := [(PySem.Expr.Name "value" ⟨83, 54, 83, 59⟩), (PySem.Expr.Name "bool" ⟨83, 61, 83, 65⟩)])
                          (keywords := [])
                          (pos := ⟨83, 43, 83, 66⟩)))
                        (pos := ⟨83, 39, 83, 66⟩)),
                      (PySem.Expr.Compare
                        (left := (PySem.Expr.Constant (PySem.Const.int 0) 0 ⟨83, 73, 83, 74⟩))
                        (ops := [PySem.CmpOp.LtE, PySem.CmpOp.LtE])
                        (comparators := [(PySem.Expr.Name "value" ⟨83, 78, 83, 83⟩), (PySem.Expr.Name "most" ⟨83, 87, 83, 91⟩)])
                        (pos := ⟨83, 73, 83, 91⟩))])
                    (pos := ⟨83, 11, 83, 92⟩))))
                (pos := ⟨83, 4, 83, 92⟩))])
            (decorator_list := [])
            (returns := none)
            (type_params := [])
            (scope := {
              kind := PySem.ScopeKind.function,
              names := [
                (PySem.Str.ofString "value", PySem.NameKind.local),
                (PySem.Str.ofString "most", PySem.NameKind.local),
                (PySem.Str.ofString "isinstance", PySem.NameKind.globalImplicit),
                (PySem.Str.ofString "int", PySem.NameKind.globalImplicit),
                (PySem.Str.ofString "bool", PySem.NameKind.globalImplicit)],
              isGenerator := false,
              isCoroutine := false,
              more := [] : PySem.Scope })
            (tscope := none)
            (bind := "is_number")
            (pos := ⟨82, 0, 83, 92⟩))
def s_is_tuple : Stmt :=
  (PySem.Stmt.FunctionDef
            (name := "is_tuple")
            (args := {
              posonlyargs := [],
              args := [
                { arg := "value", annotation := none, pos := ⟨84, 13, 84, 18⟩ : PySem.Arg },
                { arg := "least", annotation := none, pos := ⟨84, 20, 84, 25⟩ : PySem.Arg },
                { arg := "most", annotation := none, pos := ⟨84, 27, 84, 31⟩ : PySem.Arg }],
              vararg := none,
              kwonlyargs := [],
              kw_defaults := [],
              kwarg := none,
              defaults := [] : PySem.Arguments })
            (body := [
              (PySem.Stmt.Return
                (value := (some
                  (PySem.Expr.BoolOp
                    (op := PySem.BoolOp.And)
                    (values := [
                      (PySem.Expr.Call
                        (func := (PySem.Expr.Name "isinstance" ⟨85, 11, 85, 21⟩))
                        (args := [(PySem.Expr.Name "value" ⟨85, 22, 85, 27⟩), (PySem.Expr.Name "tuple" ⟨85, 29, 85, 34⟩)])
                        (keywords := [])
                        (pos := ⟨85, 11, 85, 35⟩)),
                      (PySem.Expr.Compare
                        (left := (PySem.Expr.Name "least" ⟨85, 40, 85, 45⟩))
                        (ops := [PySem.CmpOp.LtE, PySem.CmpOp.LtE])
                        (comparators := [
                          (PySem.Expr.Call
                            (func := (PySem.Expr.Name "len" ⟨85, 49, 85, 52⟩))
                            (args := [(PySem.Expr.Name "value" ⟨85, 53, 85, 58⟩)])
                            (keywords := [])
                            (pos := ⟨85, 49, 85, 59⟩)),
                          (PySem.Expr.Name "most" ⟨85, 63, 85, 67⟩)])
                        (pos := ⟨85, 40, 85, 67⟩))])
                    (pos := ⟨85, 11, 85, 67⟩))))
                (pos := ⟨85, 4, 85, 67⟩))])
            (decorator_list := [])
            (returns := none)
            (type_params := [])
            (scope := {
              kind := PySem.ScopeKind.function,
              names := [
                (PySem.Str.ofString "value", PySem.NameKind.local),
                (PySem.Str.ofString "least", PySem.NameKind.local),
                (PySem.Str.ofString "most", PySem.NameKind.local),
                (PySem.Str.ofString "isinstance", PySem.NameKind.globalImplicit),
                (PySem.Str.ofString "tuple", PySem.NameKind.globalImplicit),
                (PySem.Str.ofString "len", PySem.NameKind.globalImplicit)],
              isGenerator := false,
              isCoroutine := false,
              more := [] : PySem.Scope })
            (tscope := none)
            (bind := "is_tuple")
            (pos := ⟨84, 0, 85, 67⟩))
def s_can_be_part : Stmt :=
  (PySem.Stmt.FunctionDef
            (name := "can_be_part")
            (args := {
              posonlyargs := [],
              args := [
                { arg := "classes", annotation := none, pos := ⟨89, 16, 89, 23⟩ : PySem.Arg },
                { arg := "many", annotation := none, pos := ⟨89, 25, 89, 29⟩ : PySem.Arg },
                { arg := "part", annotation := none, pos := ⟨89, 31, 89, 35⟩ : PySem.Arg },
                { arg := "step", annotation := none, pos := ⟨89, 37, 89, 41⟩ : PySem.Arg },
                { arg := "value", annotation := none, pos := ⟨89, 43, 89, 48⟩ : PySem.Arg }],
              vararg := none,
              kwonlyargs := [],
              kw_defaults := [],
              kwarg := none,
              defaults := [] : PySem.Arguments })
            (body := [
              (PySem.Stmt.If
                (test := (PySem.Expr.Compare
                  (left := (PySem.Expr.Name "part" ⟨90, 7, 90, 11⟩))
                  (ops := [PySem.CmpOp.Eq])
                  (comparators := [(PySem.Expr.Constant (PySem.Const.str "number") 0 ⟨90, 15, 90, 23⟩)])
                  (pos := ⟨90, 7, 90, 23⟩)))
                (body := [
                  (PySem.Stmt.Return
                    (value := (some
                      (PySem.Expr.Call
                        (func := (PySem.Expr.Name "is_number" ⟨91, 15, 91, 24⟩))
                        (args := [(PySem.Expr.Name "value" ⟨91, 25, 91, 30⟩), (PySem.Expr.Constant (PySem.Const.int 15) 0 ⟨91, 32, 91, 34⟩)])
                        (keywords := [])
                        (pos := ⟨91, 15, 91, 35⟩))))
                    (pos := ⟨91, 8, 91, 35⟩))])
                (orelse := [])
                (pos := ⟨90, 4, 91, 35⟩)),
              (PySem.Stmt.If
                (test := (PySem.Expr.Compare
                  (left := (PySem.Expr.Name "part" ⟨92, 7, 92, 11⟩))
                  (ops := [PySem.CmpOp.Eq])
                  (comparators := [(PySem.Expr.Constant (PySem.Const.str "local") 0 ⟨92, 15, 92, 22⟩)])
                  (pos := ⟨92, 7, 92, 22⟩)))
                (body := [
                  (PySem.Stmt.Return
                    (value := (some
                      (PySem.Expr.Call
                        (func := (PySem.Expr.Name "is_number" ⟨93, 15, 93, 24⟩))
                        (args := [(PySem.Expr.Name "value" ⟨93, 25, 93, 30⟩), (PySem.Expr.Constant (PySem.Const.int 3) 0 ⟨93, 32, 93, 33⟩)])
                        (keywords := [])
                        (pos := ⟨93, 15, 93, 34⟩))))
                    (pos := ⟨93, 8, 93, 34⟩))])
                (orelse := [])
                (pos := ⟨92, 4, 93, 34⟩)),
              (PySem.Stmt.If
                (test := (PySem.Expr.Compare
                  (left := (PySem.Expr.Name "part" ⟨94, 7, 94, 11⟩))
                  (ops := [PySem.CmpOp.Eq])
                  (comparators := [(PySem.Expr.Constant (PySem.Const.str "step") 0 ⟨94, 15, 94, 21⟩)])
                  (pos := ⟨94, 7, 94, 21⟩)))
                (body := [
                  (PySem.Stmt.Return
                    (value := (some
                      (PySem.Expr.Call
                        (func := (PySem.Expr.Name "is_number" ⟨95, 15, 95, 24⟩))
                        (args := [
                          (PySem.Expr.Name "value" ⟨95, 25, 95, 30⟩),
                          (PySem.Expr.BinOp
                            (left := (PySem.Expr.Name "many" ⟨95, 32, 95, 36⟩))
                            (op := PySem.Operator.Sub)
                            (right := (PySem.Expr.Constant (PySem.Const.int 1) 0 ⟨95, 39, 95, 40⟩))
                            (pos := ⟨95, 32, 95, 40⟩))])
                        (keywords := [])
                        (pos := ⟨95, 15, 95, 41⟩))))
                    (pos := ⟨95, 8, 95, 41⟩))])
                (orelse := [])
                (pos := ⟨94, 4, 95, 41⟩)),
              (PySem.Stmt.If
                (test := (PySem.Expr.Compare
                  (left := (PySem.Expr.Name "part" ⟨96, 7, 96, 11⟩))
                  (ops := [PySem.CmpOp.Eq])
                  (comparators := [(PySem.Expr.Constant (PySem.Const.str "class") 0 ⟨96, 15, 96, 22⟩)])
                  (pos := ⟨96, 7, 96, 22⟩)))
                (body := [
                  (PySem.Stmt.Return
                    (value := (some
                      (PySem.Expr.Call
                        (func := (PySem.Expr.Name "is_class" ⟨97, 15, 97, 23⟩))
                        (args := [(PySem.Expr.Name "classes" ⟨97, 24, 97, 31⟩), (PySem.Expr.Name "value" ⟨97, 33, 97, 38⟩)])
                        (keywords := [])
                        (pos := ⟨97, 15, 97, 39⟩))))
                    (pos := ⟨97, 8, 97, 39⟩))])
                (orelse := [])
                (pos := ⟨96, 4, 97, 39⟩)),
              (PySem.Stmt.If
                (test := (PySem.Expr.Compare
                  (left := (PySem.Expr.Name "part" ⟨98, 7, 98, 11⟩))
                  (ops := [PySem.CmpOp.Eq])
                  (comparators := [(PySem.Expr.Constant (PySem.Const.str "field") 0 ⟨98, 15, 98, 22⟩)])
                  (pos := ⟨98, 7, 98, 22⟩)))
                (body := [
                  (PySem.Stmt.Return
                    (value := (some
                      (PySem.Expr.Compare
                        (left := (PySem.Expr.Call
                          (func := (PySem.Expr.Name "field_kind" ⟨99, 15, 99, 25⟩))
                          (args := [
                            (PySem.Expr.Name "classes" ⟨99, 26, 99, 33⟩),
                            (PySem.Expr.Subscript
                              (value := (PySem.Expr.Name "step" ⟨99, 35, 99, 39⟩))
                              (slice := (PySem.Expr.Constant (PySem.Const.int 1) 0 ⟨99, 40, 99, 41⟩))
                              (pos := ⟨99, 35, 99, 42⟩)),
                            (PySem.Expr.Name "value" ⟨99, 44, 99, 49⟩)])
                          (keywords := [])
                          (pos := ⟨99, 15, 99, 50⟩)))
                        (ops := [PySem.CmpOp.IsNot])
                        (comparators := [(PySem.Expr.Constant PySem.Const.none 0 ⟨99, 58, 99, 62⟩)])
                        (pos := ⟨99, 15, 99, 62⟩))))
                    (pos := ⟨99, 8, 99, 62⟩))])
                (orelse := [])
                (pos := ⟨98, 4, 99, 62⟩)),
              (PySem.Stmt.Return
                (value := (some
                  (PySem.Expr.Compare
                    (left := (PySem.Expr.Call
                      (func := (PySem.Expr.Name "nearest" ⟨100, 11, 100, 18⟩))
                      (args := [
                        (PySem.Expr.Name "classes" ⟨100, 19, 100, 26⟩),
                        (PySem.Expr.Subscript
                          (value := (PySem.Expr.Name "step" ⟨100, 28, 100, 32⟩))
                          (slice := (PySem.Expr.Constant (PySem.Const.int 1) 0 ⟨100, 33, 100, 34⟩))
                          (pos := ⟨100, 28, 100, 35⟩)),
                        (PySem.Expr.Name "value" ⟨100, 37, 100, 42⟩)])
                      (keywords := [])
                      (pos := ⟨100, 11, 100, 43⟩)))
                    (ops := [PySem.CmpOp.IsNot])
                    (comparators := [(PySem.Expr.Constant PySem.Const.none 0 ⟨100, 51, 100, 55⟩)])
                    (pos := ⟨100, 11, 100, 55⟩))))
                (pos := ⟨100, 4, 100, 55⟩))])
            (decorator_list := [])
            (returns := none)
            (type_params := [])
            (scope := {
              kind := PySem.ScopeKind.function,
              names := [
                (PySem.Str.ofString "classes", PySem.NameKind.local),
                (PySem.Str.ofString "many", PySem.NameKind.local),
                (PySem.Str.ofString "part", PySem.NameKind.local),
                (PySem.Str.ofString "step", PySem.NameKind.local),
                (PySem.Str.ofString "value", PySem.NameKind.local),
                (PySem.Str.ofString "is_number", PySem.NameKind.globalImplicit),
                (PySem.Str.ofString "is_class", PySem.NameKind.globalImplicit),
                (PySem.Str.ofString "field_kind", PySem.NameKind.globalImplicit),
                (PySem.Str.ofString "nearest", PySem.NameKind.globalImplicit)],
              isGenerator := false,
              isCoroutine := false,
              more := [] : PySem.Scope })
            (tscope := none)
            (bind := "can_be_part")
            (pos := ⟨89, 0, 100, 55⟩))
def s_is_step : Stmt :=
  (PySem.Stmt.FunctionDef
            (name := "is_step")
            (args := {
              posonlyargs := [],
              args := [
                { arg := "classes", annotation := none, pos := ⟨101, 12, 101, 19⟩ : PySem.Arg },
                { arg := "many", annotation := none, pos := ⟨101, 21, 101, 25⟩ : PySem.Arg },
                { arg := "step", annotation := none, pos := ⟨101, 27, 101, 31⟩ : PySem.Arg }],
              vararg := none,
              kwonlyargs := [],
              kw_defaults := [],
              kwarg := none,
              defaults := [] : PySem.Arguments })
            (body := [
              (PySem.Stmt.If
                (test := (PySem.Expr.BoolOp
                  (op := PySem.BoolOp.Or)
                  (values := [
                    (PySem.Expr.UnaryOp
                      (op := PySem.UnaryOp.Not)
                      (operand := (PySem.Expr.Call
                        (func := (PySem.Expr.Name "is_tuple" ⟨102, 11, 102, 19⟩))
                        (args := [
                          (PySem.Expr.Name "step" ⟨102, 20, 102, 24⟩),
                          (PySem.Expr.Constant (PySem.Const.int 1) 0 ⟨102, 26, 102, 27⟩),
                          (PySem.Expr.Constant (PySem.Const.int 3) 0 ⟨102, 29, 102, 30⟩)])
                        (keywords := [])
                        (pos := ⟨102, 11, 102, 31⟩)))
                      (pos := ⟨102, 7, 102, 31⟩)),
                    (PySem.Expr.UnaryOp
                      (op := PySem.UnaryOp.Not)
                      (operand := (PySem.Expr.Call
                        (func := (PySem.Expr.Name "isinstance" ⟨102, 39, 102, 49⟩))
                        (args := [
                          (PySem.Expr.Subscript
                            (value := (PySem.Expr.Name "step" ⟨102, 50, 102, 54⟩))
                            (slice := (PySem.Expr.Constant (PySem.Const.int 0) 0 ⟨102, 55, 102, 56⟩))
                            (pos := ⟨102, 50, 102, 57⟩)),
                          (PySem.Expr.Name "str" ⟨102, 59, 102, 62⟩)])
                        (keywords := [])
                        (pos := ⟨102, 39, 102, 63⟩)))
                      (pos := ⟨102, 35, 102, 63⟩)),
                    (PySem.Expr.Compare
                      (left := (PySem.Expr.Subscript
                        (value := (PySem.Expr.Name "step" ⟨102, 67, 102, 71⟩))
                        (slice := (PySem.Expr.Constant (PySem.Const.int 0) 0 ⟨102, 72, 102, 73⟩))
                        (pos := ⟨102, 67, 102, 74⟩)))
                      (ops := [PySem.CmpOp.NotIn])
                      (comparators := [(PySem.Expr.Name "PARTS" ⟨102, 82, 102, 87⟩)])
                      (pos := ⟨102, 67, 102, 87⟩))])
                  (pos := ⟨102, 7, 102, 87⟩)))
                (body := [
                  (PySem.Stmt.Return
                    (value := (some (PySem.Expr.Constant (PySem.Const.bool false) 0 ⟨103, 15, 103, 20⟩)))
                    (pos := ⟨103, 8, 103, 20⟩))])
                (orelse := [])
                (pos := ⟨102, 4, 103, 20⟩)),
              (PySem.Stmt.Assign
                (targets := [(PySem.Expr.Name "parts" ⟨104, 4, 104, 9⟩)])
                (value := (PySem.Expr.Subscript
                  (value := (PySem.Expr.Name "PARTS" ⟨104, 12, 104, 17⟩))
                  (slice := (PySem.Expr.Subscript
                    (value := (PySem.Expr.Name "step" ⟨104, 18, 104, 22⟩))
                    (slice := (PySem.Expr.Constant (PySem.Const.int 0) 0 ⟨104, 23, 104, 24⟩))
                    (pos := ⟨104, 18, 104, 25⟩)))
                  (pos := ⟨104, 12, 104, 26⟩)))
                (pos := ⟨104, 4, 104, 26⟩)),
              (PySem.Stmt.If
                (test := (PySem.Expr.Compare
                  (left := (PySem.Expr.Call
                    (func := (PySem.Expr.Name "len" ⟨105, 7, 105, 10⟩))
                    (args := [(PySem.Expr.Name "step" ⟨105, 11, 105, 15⟩)])
                    (keywords := [])
                    (pos := ⟨105, 7, 105, 16⟩)))
                  (ops := [PySem.CmpOp.NotEq])
                  (comparators := [
                    (PySem.Expr.BinOp
                      (left := (PySem.Expr.Call
                        (func := (PySem.Expr.Name "len" ⟨105, 20, 105, 23⟩))
                        (args := [(PySem.Expr.Name "parts" ⟨105, 24, 105, 29⟩)])
                        (keywords := [])
                        (pos := ⟨105, 20, 105, 30⟩)))
                      (op := PySem.Operator.Add)
                      (right := (PySem.Expr.Constant (PySem.Const.int 1) 0 ⟨105, 33, 105, 34⟩))
                      (pos := ⟨105, 20, 105, 34⟩))])
                  (pos := ⟨105, 7, 105, 34⟩)))
                (body := [
                  (PySem.Stmt.Return
                    (value := (some (PySem.Expr.Constant (PySem.Const.bool false) 0 ⟨106, 15, 106, 20⟩)))
                    (pos := ⟨106, 8, 106, 20⟩))])
                (orelse := [])
                (pos := ⟨105, 4, 106, 20⟩)),
              (PySem.Stmt.For
                (target := (PySem.Expr.Tuple
                  (elts := [(PySem.Expr.Name "part" ⟨107, 8, 107, 12⟩), (PySem.Expr.Name "value" ⟨107, 14, 107, 19⟩)])
                  (k := 0)
                  (pos := ⟨107, 8, 107, 19⟩)))
                (iter := (PySem.Expr.Call
                  (func := (PySem.Expr.Name "zip" ⟨107, 23, 107, 26⟩))
                  (args := [
                    (PySem.Expr.Name "parts" ⟨107, 27, 107, 32⟩),
                    (PySem.Expr.Subscript
                      (value := (PySem.Expr.Name "step" ⟨107, 34, 107, 38⟩))
                      (slice := (PySem.Expr.Slice
                        (lower := (some (PySem.Expr.Constant (PySem.Const.int 1) 0 ⟨107, 39, 107, 40⟩)))
                        (upper := none)
                        (step := none)
                        (pos := ⟨107, 39, 107, 41⟩)))
                      (pos := ⟨107, 34, 107, 42⟩))])
                  (keywords := [])
                  (pos := ⟨107, 23, 107, 43⟩)))
                (body := [
                  (PySem.Stmt.If
                    (test := (PySem.Expr.UnaryOp
                      (op := PySem.UnaryOp.Not)
                      (operand := (PySem.Expr.Call
                        (func := (PySem.Expr.Name "can_be_part" ⟨108, 15, 108, 26⟩))
                        (args := [
                          (PySem.Expr.Name "classes" ⟨108, 27, 108, 34⟩),
                          (PySem.Expr.Name "many" ⟨108, 36, 108, 40⟩),
                          (PySem.Expr.Name "part" ⟨108, 42, 108, 46⟩),
                          (PySem.Expr.Name "step" ⟨108, 48, 108, 52⟩),
                          (PySem.Expr.Name "value" ⟨108, 54, 108, 59⟩)])
                        (keywords := [])
                        (pos := ⟨108, 15, 108, 60⟩)))
                      (pos := ⟨108, 11, 108, 60⟩)))
                    (body := [
                      (PySem.Stmt.Return
                        (value := (some (PySem.Expr.Constant (PySem.Const.bool false) 0 ⟨109, 19, 109, 24⟩)))
                        (pos := ⟨109, 12, 109, 24⟩))])
                    (orelse := [])
                    (pos := ⟨108, 8, 109, 24⟩))])
                (orelse := [])
                (pos := ⟨107, 4, 109, 24⟩)),
              (PySem.Stmt.Return
                (value := (some (PySem.Expr.Constant (PySem.Const.bool true) 0 ⟨110, 11, 110, 15⟩)))
                (pos := ⟨110, 4, 110, 15⟩))])
            (decorator_list := [])
            (returns := none)
            (type_params := [])
            (scope := {
              kind := PySem.ScopeKind.function,
              names := [
                (PySem.Str.ofString "classes", PySem.NameKind.local),
                (PySem.Str.ofString "many", PySem.NameKind.local),
                (PySem.Str.ofString "step", PySem.NameKind.local),
                (PySem.Str.ofString "parts", PySem.NameKind.local),
                (PySem.Str.ofString "part", PySem.NameKind.local),
                (PySem.Str.ofString "value", PySem.NameKind.local),
                (PySem.Str.ofString "is_tuple", PySem.NameKind.globalImplicit),
                (PySem.Str.ofString "isinstance", PySem.NameKind.globalImplicit),
                (PySem.Str.ofString "str", PySem.NameKind.globalImplicit),
                (PySem.Str.ofString "PARTS", PySem.NameKind.globalImplicit),
                (PySem.Str.ofString "len", PySem.NameKind.globalImplicit),
                (PySem.Str.ofString "zip", PySem.NameKind.globalImplicit),
                (PySem.Str.ofString "can_be_part", PySem.NameKind.globalImplicit)],
              isGenerator := false,
              isCoroutine := false,
              more := [] : PySem.Scope })
            (tscope := none)
            (bind := "is_step")
            (pos := ⟨101, 0, 110, 15⟩))
def s_bad_step : Stmt :=
  (PySem.Stmt.FunctionDef
            (name := "bad_step")
            (args := {
              posonlyargs := [],
              args := [
                { arg := "classes", annotation := none, pos := ⟨111, 13, 111, 20⟩ : PySem.Arg },
                { arg := "code", annotation := none, pos := ⟨111, 22, 111, 26⟩ : PySem.Arg }],
              vararg := none,
              kwonlyargs := [],
              kw_defaults := [],
              kwarg := none,
              defaults := [] : PySem.Arguments })
            (body := [
              (PySem.Stmt.Assign
                (targets := [(PySem.Expr.Name "many" ⟨112, 4, 112, 8⟩)])
                (value := (PySem.Expr.Call
                  (func := (PySem.Expr.Name "len" ⟨112, 11, 112, 14⟩))
                  (args := [(PySem.Expr.Name "code" ⟨112, 15, 112, 19⟩)])
                  (keywords := [])
                  (pos := ⟨112, 11, 112, 20⟩)))
                (pos := ⟨112, 4, 112, 20⟩)),
              (PySem.Stmt.For
                (target := (PySem.Expr.Tuple
                  (elts := [(PySem.Expr.Name "index" ⟨113, 8, 113, 13⟩), (PySem.Expr.Name "step" ⟨113, 15, 113, 19⟩)])
                  (k := 0)
                  (pos := ⟨113, 8, 113, 19⟩)))
                (iter := (PySem.Expr.Call
                  (func := (PySem.Expr.Name "enumerate" ⟨113, 23, 113, 32⟩))
                  (args := [(PySem.Expr.Name "code" ⟨113, 33, 113, 37⟩)])
                  (keywords := [])
                  (pos := ⟨113, 23, 113, 38⟩)))
                (body := [
                  (PySem.Stmt.If
                    (test := (PySem.Expr.UnaryOp
                      (op := PySem.UnaryOp.Not)
                      (operand := (PySem.Expr.Call
                        (func := (PySem.Expr.Name "is_step" ⟨114, 15, 114, 22⟩))
                        (args := [
                          (PySem.Expr.Name "classes" ⟨114, 23, 114, 30⟩),
                          (PySem.Expr.Name "many" ⟨114, 32, 114, 36⟩),
                          (PySem.Expr.Name "step" ⟨114, 38, 114, 42⟩)])
                        (keywords := [])
                        (pos := ⟨114, 15, 114, 43⟩)))
                      (pos := ⟨114, 11, 114, 43⟩)))
                    (body := [(PySem.Stmt.Return (some (PySem.Expr.Name "index" ⟨115, 19, 115, 24⟩)) ⟨115, 12, 115, 24⟩)])
                    (orelse := [])
                    (pos := ⟨114, 8, 115, 24⟩))])
                (orelse := [])
                (pos := ⟨113, 4, 115, 24⟩)),
              (PySem.Stmt.If
                (test := (PySem.Expr.Compare
                  (left := (PySem.Expr.Subscript
                    (value := (PySem.Expr.Subscript
                      (value := (PySem.Expr.Name "code" ⟨116, 7, 116, 11⟩))
                      (slice := (PySem.Expr.UnaryOp
                        (op := PySem.UnaryOp.USub)
                        (operand := (PySem.Expr.Constant (PySem.Const.int 1) 0 ⟨116, 13, 116, 14⟩))
                        (pos := ⟨116, 12, 116, 14⟩)))
                      (pos := ⟨116, 7, 116, 15⟩)))
                    (slice := (PySem.Expr.Constant (PySem.Const.int 0) 0 ⟨116, 16, 116, 17⟩))
                    (pos := ⟨116, 7, 116, 18⟩)))
                  (ops := [PySem.CmpOp.NotIn])
                  (comparators := [(PySem.Expr.Name "LAST" ⟨116, 26, 116, 30⟩)])
                  (pos := ⟨116, 7, 116, 30⟩)))
                (body := [
                  (PySem.Stmt.Return
                    (value := (some
                      (PySem.Expr.BinOp
                        (left := (PySem.Expr.Name "many" ⟨117, 15, 117, 19⟩))
                        (op := PySem.Operator.Sub)
                        (right := (PySem.Expr.Constant (PySem.Const.int 1) 0 ⟨117, 22, 117, 23⟩))
                        (pos := ⟨117, 15, 117, 23⟩))))
                    (pos := ⟨117, 8, 117, 23⟩))])
                (orelse := [])
                (pos := ⟨116, 4, 117, 23⟩)),
              (PySem.Stmt.Return (some (PySem.Expr.Constant PySem.Const.none 0 ⟨118, 11, 118, 15⟩)) ⟨118, 4, 118, 15⟩)])
            (decorator_list := [])
            (returns := none)
            (type_params := [])
            (scope := {
              kind := PySem.ScopeKind.function,
              names := [
                (PySem.Str.ofString "classes", PySem.NameKind.local),
                (PySem.Str.ofString "code", PySem.NameKind.local),
                (PySem.Str.ofString "many", PySem.NameKind.local),
                (PySem.Str.ofString "index", PySem.NameKind.local),
                (PySem.Str.ofString "step", PySem.NameKind.local),
                (PySem.Str.ofString "len", PySem.NameKind.globalImplicit),
                (PySem.Str.ofString "enumerate", PySem.NameKind.globalImplicit),
                (PySem.Str.ofString "is_step", PySem.NameKind.globalImplicit),
                (PySem.Str.ofString "LAST", PySem.NameKind.globalImplicit)],
              isGenerator := false,
              isCoroutine := false,
              more := [] : PySem.Scope })
            (tscope := none)
            (bind := "bad_step")
            (pos := ⟨111, 0, 118, 15⟩))
def s_is_handler : Stmt :=
  (PySem.Stmt.FunctionDef
            (name := "is_handler")
            (args := {
              posonlyargs := [],
              args := [
                { arg := "classes", annotation := none, pos := ⟨119, 15, 119, 22⟩ : PySem.Arg },
                { arg := "many", annotation := none, pos := ⟨119, 24, 119, 28⟩ : PySem.Arg },
                { arg := "row", annotation := none, pos := ⟨119, 30, 119, 33⟩ : PySem.Arg }],
              vararg := none,
              kwonlyargs := [],
              kw_defaults := [],
              kwarg := none,
              defaults := [] : PySem.Arguments })
            (body := [
              (PySem.Stmt.If
                (test := (PySem.Expr.BoolOp
                  (op := PySem.BoolOp.Or)
                  (values := [
                    (PySem.Expr.UnaryOp
                      (op := PySem.UnaryOp.Not)
                      (operand := (PySem.Expr.Call
                        (func := (PySem.Expr.Name "is_tuple" ⟨120, 11, 120, 19⟩))
                        (args := [
                          (PySem.Expr.Name "row" ⟨120, 20, 120, 23⟩),
                          (PySem.Expr.Constant (PySem.Const.int 4) 0 ⟨120, 25, 120, 26⟩),
                          (PySem.Expr.Constant (PySem.Const.int 4) 0 ⟨120, 28, 120, 29⟩)])
                        (keywords := [])
                        (pos := ⟨120, 11, 120, 30⟩)))
                      (pos := ⟨120, 7, 120, 30⟩)),
                    (PySem.Expr.UnaryOp
                      (op := PySem.UnaryOp.Not)
                      (operand := (PySem.Expr.Call
                        (func := (PySem.Expr.Name "is_number" ⟨120, 38, 120, 47⟩))
                        (args := [
                          (PySem.Expr.Subscript
                            (value := (PySem.Expr.Name "row" ⟨120, 48, 120, 51⟩))
                            (slice := (PySem.Expr.Constant (PySem.Const.int 0) 0 ⟨120, 52, 120, 53⟩))
                            (pos := ⟨120, 48, 120, 54⟩)),
                          (PySem.Expr.BinOp
                            (left := (PySem.Expr.Name "many" ⟨120, 56, 120, 60⟩))
                            (op := PySem.Operator.Sub)
                            (right := (PySem.Expr.Constant (PySem.Const.int 1) 0 ⟨120, 63, 120, 64⟩))
                            (pos := ⟨120, 56, 120, 64⟩))])
                        (keywords := [])
                        (pos := ⟨120, 38, 120, 65⟩)))
                      (pos := ⟨120, 34, 120, 65⟩)),
                    (PySem.Expr.UnaryOp
                      (op := PySem.UnaryOp.Not)
                      (operand := (PySem.Expr.Call
                        (func := (PySem.Expr.Name "is_number" ⟨120, 74, 120, 83⟩))
                        (args := [
                          (PySem.Expr.Subscript
                            (value := (PySem.Expr.Name "row" ⟨120, 84, 120, 87⟩))
                            (slice := (PySem.Expr.Constant (PySem.Const.int 1) 0 ⟨120, 88, 120, 89⟩))
                            (pos := ⟨120, 84, 120, 90⟩)),
                          (PySem.Expr.Name "many" ⟨120, 92, 120, 96⟩)])
                        (keywords := [])
                        (pos := ⟨120, 74, 120, 97⟩)))
                      (pos := ⟨120, 70, 120, 97⟩))])
                  (pos := ⟨120, 7, 120, 98⟩)))
                (body := [
                  (PySem.Stmt.Return
                    (value := (some (PySem.Expr.Constant (PySem.Const.bool false) 0 ⟨121, 15, 121, 20⟩)))
                    (pos := ⟨121, 8, 121, 20⟩))])
                (orelse := [])
                (pos := ⟨120, 4, 121, 20⟩)),
              (PySem.Stmt.Return
                (value := (some
                  (PySem.Expr.BoolOp
                    (op := PySem.BoolOp.And)
                    (values := [
                      (PySem.Expr.Compare
                        (left := (PySem.Expr.Subscript
                          (value := (PySem.Expr.Name "row" ⟨122, 11, 122, 14⟩))
                          (slice := (PySem.Expr.Constant (PySem.Const.int 0) 0 ⟨122, 15, 122, 16⟩))
                          (pos := ⟨122, 11, 122, 17⟩)))
                        (ops := [PySem.CmpOp.Lt])
                        (comparators := [
                          (PySem.Expr.Subscript
                            (value := (PySem.Expr.Name "row" ⟨122, 20, 122, 23⟩))
                            (slice := (PySem.Expr.Constant (PySem.Const.int 1) 0 ⟨122, 24, 122, 25⟩))
                            (pos := ⟨122, 20, 122, 26⟩))])
                        (pos := ⟨122, 11, 122, 26⟩)),
                      (PySem.Expr.Call
                        (func := (PySem.Expr.Name "is_class" ⟨122, 31, 122, 39⟩))
                        (args := [
                          (PySem.Expr.Name "classes" ⟨122, 40, 122, 47⟩),
                          (PySem.Expr.Subscript
                            (value := (PySem.Expr.Name "row" ⟨122, 49, 122, 52⟩))
                            (slice := (PySem.Expr.Constant (PySem.Const.int 2) 0 ⟨122, 53, 122, 54⟩))
                            (pos := ⟨122, 49, 122, 55⟩))])
                        (keywords := [])
                        (pos := ⟨122, 31, 122, 56⟩)),
                      (PySem.Expr.Call
                        (func := (PySem.Expr.Name "is_number" ⟨122, 61, 122, 70⟩))
                        (args := [
                          (PySem.Expr.Subscript
                            (value := (PySem.Expr.Name "row" ⟨122, 71, 122, 74⟩))
                            (slice := (PySem.Expr.Constant (PySem.Const.int 3) 0 ⟨122, 75, 122, 76⟩))
                            (pos := ⟨122, 71, 122, 77⟩)),
                          (PySem.Expr.BinOp
                            (left := (PySem.Expr.Name "many" ⟨122, 79, 122, 83⟩))
                            (op := PySem.Operator.Sub)
                            (right := (PySem.Expr.Constant (PySem.Const.int 1) 0 ⟨122, 86, 122, 87⟩))
                            (pos := ⟨122, 79, 122, 87⟩))])
                        (keywords := [])
                        (pos := ⟨122, 61, 122, 88⟩))])
                    (pos := ⟨122, 11, 122, 88⟩))))
                (pos := ⟨122, 4, 122, 88⟩))])
            (decorator_list := [])
            (returns := none)
            (type_params := [])
            (scope := {
              kind := PySem.ScopeKind.function,
              names := [
                (PySem.Str.ofString "classes", PySem.NameKind.local),
                (PySem.Str.ofString "many", PySem.NameKind.local),
                (PySem.Str.ofString "row", PySem.NameKind.local),
                (PySem.Str.ofString "is_tuple", PySem.NameKind.globalImplicit),
                (PySem.Str.ofString "is_number", PySem.NameKind.globalImplicit),
                (PySem.Str.ofString "is_class", PySem.NameKind.globalImplicit)],
              isGenerator := false,
              isCoroutine := false,
              more := [] : PySem.Scope })
            (tscope := none)
            (bind := "is_handler")
            (pos := ⟨119, 0, 122, 88⟩))
def s_bad_handler : Stmt :=
  (PySem.Stmt.FunctionDef
            (name := "bad_handler")
            (args := {
              posonlyargs := [],
              args := [
                { arg := "classes", annotation := none, pos := ⟨123, 16, 123, 23⟩ : PySem.Arg },
                { arg := "many", annotation := none, pos := ⟨123, 25, 123, 29⟩ : PySem.Arg },
                { arg := "handlers", annotation := none, pos := ⟨123, 31, 123, 39⟩ : PySem.Arg }],
              vararg := none,
              kwonlyargs := [],
              kw_defaults := [],
              kwarg := none,
              defaults := [] : PySem.Arguments })
            (body := [
              (PySem.Stmt.For
                (target := (PySem.Expr.Tuple
                  (elts := [(PySem.Expr.Name "index" ⟨124, 8, 124, 13⟩), (PySem.Expr.Name "row" ⟨124, 15, 124, 18⟩)])
                  (k := 0)
                  (pos := ⟨124, 8, 124, 18⟩)))
                (iter := (PySem.Expr.Call
                  (func := (PySem.Expr.Name "enumerate" ⟨124, 22, 124, 31⟩))
                  (args := [(PySem.Expr.Name "handlers" ⟨124, 32, 124, 40⟩)])
                  (keywords := [])
                  (pos := ⟨124, 22, 124, 41⟩)))
                (body := [
                  (PySem.Stmt.If
                    (test := (PySem.Expr.UnaryOp
                      (op := PySem.UnaryOp.Not)
                      (operand := (PySem.Expr.Call
                        (func := (PySem.Expr.Name "is_handler" ⟨125, 15, 125, 25⟩))
                        (args := [
                          (PySem.Expr.Name "classes" ⟨125, 26, 125, 33⟩),
                          (PySem.Expr.Name "many" ⟨125, 35, 125, 39⟩),
                          (PySem.Expr.Name "row" ⟨125, 41, 125, 44⟩)])
                        (keywords := [])
                        (pos := ⟨125, 15, 125, 45⟩)))
                      (pos := ⟨125, 11, 125, 45⟩)))
                    (body := [(PySem.Stmt.Return (some (PySem.Expr.Name "index" ⟨126, 19, 126, 24⟩)) ⟨126, 12, 126, 24⟩)])
                    (orelse := [])
                    (pos := ⟨125, 8, 126, 24⟩))])
                (orelse := [])
                (pos := ⟨124, 4, 126, 24⟩)),
              (PySem.Stmt.Return (some (PySem.Expr.Constant PySem.Const.none 0 ⟨127, 11, 127, 15⟩)) ⟨127, 4, 127, 15⟩)])
            (decorator_list := [])
            (returns := none)
            (type_params := [])
            (scope := {
              kind := PySem.ScopeKind.function,
              names := [
                (PySem.Str.ofString "classes", PySem.NameKind.local),
                (PySem.Str.ofString "many", PySem.NameKind.local),
                (PySem.Str.ofString "handlers", PySem.NameKind.local),
                (PySem.Str.ofString "index", PySem.NameKind.local),
                (PySem.Str.ofString "row", PySem.NameKind.local),
                (PySem.Str.ofString "enumerate", PySem.NameKind.globalImplicit),
                (PySem.Str.ofString "is_handler", PySem.NameKind.globalImplicit)],
              isGenerator := false,
              isCoroutine := false,
              more := [] : PySem.Scope })
            (tscope := none)
            (bind := "bad_handler")
            (pos := ⟨123, 0, 127, 15⟩))
def s_is_new_class : Stmt :=
  (PySem.Stmt.FunctionDef
            (name := "is_new_class")
            (args := {
              posonlyargs := [],
              args := [
                { arg := "earlier", annotation := none, pos := ⟨130, 17, 130, 24⟩ : PySem.Arg },
                { arg := "row", annotation := none, pos := ⟨130, 26, 130, 29⟩ : PySem.Arg }],
              vararg := none,
              kwonlyargs := [],
              kw_defaults := [],
              kwarg := none,
              defaults := [] : PySem.Arguments })
            (body := [
              (PySem.Stmt.If
                (test := (PySem.Expr.BoolOp
                  (op := PySem.BoolOp.Or)
                  (values := [
                    (PySem.Expr.UnaryOp
                      (op := PySem.UnaryOp.Not)
                      (operand := (PySem.Expr.Call
                        (func := (PySem.Expr.Name "is_tuple" ⟨131, 11, 131, 19⟩))
                        (args := [
                          (PySem.Expr.Name "row" ⟨131, 20, 131, 23⟩),
                          (PySem.Expr.Constant (PySem.Const.int 4) 0 ⟨131, 25, 131, 26⟩),
                          (PySem.Expr.Constant (PySem.Const.int 4) 0 ⟨131, 28, 131, 29⟩)])
                        (keywords := [])
                        (pos := ⟨131, 11, 131, 30⟩)))
                      (pos := ⟨131, 7, 131, 30⟩)),
                    (PySem.Expr.UnaryOp
                      (op := PySem.UnaryOp.Not)
                      (operand := (PySem.Expr.Call
                        (func := (PySem.Expr.Name "is_word" ⟨131, 38, 131, 45⟩))
                        (args := [
                          (PySem.Expr.Subscript
                            (value := (PySem.Expr.Name "row" ⟨131, 46, 131, 49⟩))
                            (slice := (PySem.Expr.Constant (PySem.Const.int 0) 0 ⟨131, 50, 131, 51⟩))
                            (pos := ⟨131, 46, 131, 52⟩))])
                        (keywords := [])
                        (pos := ⟨131, 38, 131, 53⟩)))
                      (pos := ⟨131, 34, 131, 53⟩)),
                    (PySem.Expr.Compare
                      (left := (PySem.Expr.Subscript
                        (value := (PySem.Expr.Name "row" ⟨131, 57, 131, 60⟩))
                        (slice := (PySem.Expr.Constant (PySem.Const.int 0) 0 ⟨131, 61, 131, 62⟩))
                        (pos := ⟨131, 57, 131, 63⟩)))
                      (ops := [PySem.CmpOp.In])
                      (comparators := [(PySem.Expr.Name "TAKEN_NAMES" ⟨131, 67, 131, 78⟩)])
                      (pos := ⟨131, 57, 131, 78⟩)),
                    (PySem.Expr.Compare
                      (left := (PySem.Expr.Subscript
                        (value := (PySem.Expr.Name "row" ⟨131, 83, 131, 86⟩))
                        (slice := (PySem.Expr.Constant (PySem.Const.int 0) 0 ⟨131, 87, 131, 88⟩))
                        (pos := ⟨131, 83, 131, 89⟩)))
                      (ops := [PySem.CmpOp.In])
                      (comparators := [(PySem.Expr.Name "earlier" ⟨131, 93, 131, 100⟩)])
                      (pos := ⟨131, 83, 131, 100⟩))])
                  (pos := ⟨131, 7, 131, 101⟩)))
                (body := [
                  (PySem.Stmt.Return
                    (value := (some (PySem.Expr.Constant (PySem.Const.bool false) 0 ⟨132, 15, 132, 20⟩)))
                    (pos := ⟨132, 8, 132, 20⟩))])
                (orelse := [])
                (pos := ⟨131, 4, 132, 20⟩)),
              (PySem.Stmt.Return
                (value := (some
                  (PySem.Expr.BoolOp
                    (op := PySem.BoolOp.Or)
                    (values := [
                      (PySem.Expr.Compare
                        (left := (PySem.Expr.Subscript
                          (value := (PySem.Expr.Name "row" ⟨133, 11, 133, 14⟩))
                          (slice := (PySem.Expr.Constant (PySem.Const.int 1) 0 ⟨133, 15, 133, 16⟩))
                          (pos := ⟨133, 11, 133, 17⟩)))
                        (ops := [PySem.CmpOp.Eq])
                        (comparators := [(PySem.Expr.Constant (PySem.Const.str "top") 0 ⟨133, 21, 133, 26⟩)])
                        (pos := ⟨133, 11, 133, 26⟩)),
                      (PySem.Expr.Compare
                        (left := (PySem.Expr.Subscript
                          (value := (PySem.Expr.Name "row" ⟨133, 30, 133, 33⟩))
                          (slice := (PySem.Expr.Constant (PySem.Const.int 1) 0 ⟨133, 34, 133, 35⟩))
                          (pos := ⟨133, 30, 133, 36⟩)))
                        (ops := [PySem.CmpOp.In])
                        (comparators := [(PySem.Expr.Name "earlier" ⟨133, 40, 133, 47⟩)])
                        (pos := ⟨133, 30, 133, 47⟩))])
                    (pos := ⟨133, 11, 133, 47⟩))))
                (pos := ⟨133, 4, 133, 47⟩))])
            (decorator_list := [])
            (returns := none)
            (type_params := [])
            (scope := {
              kind := PySem.ScopeKind.function,
              names := [
                (PySem.Str.ofString "earlier", PySem.NameKind.local),
                (PySem.Str.ofString "row", PySem.NameKind.local),
                (PySem.Str.ofString "is_tuple", PySem.NameKind.globalImplicit),
                (PySem.Str.ofString "is_word", PySem.NameKind.globalImplicit),
                (PySem.Str.ofString "TAKEN_NAMES", PySem.NameKind.globalImplicit)],
              isGenerator := false,
              isCoroutine := false,
              more := [] : PySem.Scope })
            (tscope := none)
            (bind := "is_new_class")
            (pos := ⟨130, 0, 133, 47⟩))
def s_check_names : Stmt :=
  (PySem.Stmt.FunctionDef
            (name := "check_names")
            (args := {
              posonlyargs := [],
              args := [{ arg := "classes", annotation := none, pos := ⟨134, 16, 134, 23⟩ : PySem.Arg }],
              vararg := none,
              kwonlyargs := [],
              kw_defaults := [],
              kwarg := none,
              defaults := [] : PySem.Arguments })
            (body := [
              (PySem.Stmt.If
                (test := (PySem.Expr.UnaryOp
                  (op := PySem.UnaryOp.Not)
                  (operand := (PySem.Expr.Call
                    (func := (PySem.Expr.Name "is_tuple" ⟨135, 11, 135, 19⟩))
                    (args := [
                      (PySem.Expr.Name "classes" ⟨135, 20, 135, 27⟩),
                      (PySem.Expr.Constant (PySem.Const.int 1) 0 ⟨135, 29, 135, 30⟩),
                      (PySem.Expr.Constant (PySem.Const.int 8) 0 ⟨135, 32, 135, 33⟩)])
                    (keywords := [])
                    (pos := ⟨135, 11, 135, 34⟩)))
                  (pos := ⟨135, 7, 135, 34⟩)))
                (body := [
                  (PySem.Stmt.Raise
                    (exc := (some
                      (PySem.Expr.Call
                        (func := (PySem.Expr.Name "BadClasses" ⟨136, 14, 136, 24⟩))
                        (args := [(PySem.Expr.Constant PySem.Const.none 0 ⟨136, 25, 136, 29⟩)])
                        (keywords := [])
                        (pos := ⟨136, 14, 136, 30⟩))))
                    (cause := none)
                    (pos := ⟨136, 8, 136, 30⟩))])
                (orelse := [])
                (pos := ⟨135, 4, 136, 30⟩)),
              (PySem.Stmt.Assign
                (targets := [(PySem.Expr.Name "earlier" ⟨137, 4, 137, 11⟩)])
                (value := (PySem.Expr.List [] ⟨137, 14, 137, 16⟩))
                (pos := ⟨137, 4, 137, 16⟩)),
              (PySem.Stmt.For
                (target := (PySem.Expr.Tuple
                  (elts := [(PySem.Expr.Name "index" ⟨138, 8, 138, 13⟩), (PySem.Expr.Name "row" ⟨138, 15, 138, 18⟩)])
                  (k := 0)
                  (pos := ⟨138, 8, 138, 18⟩)))
                (iter := (PySem.Expr.Call
                  (func := (PySem.Expr.Name "enumerate" ⟨138, 22, 138, 31⟩))
                  (args := [(PySem.Expr.Name "classes" ⟨138, 32, 138, 39⟩)])
                  (keywords := [])
                  (pos := ⟨138, 22, 138, 40⟩)))
                (body := [
                  (PySem.Stmt.If
                    (test := (PySem.Expr.UnaryOp
                      (op := PySem.UnaryOp.Not)
                      (operand := (PySem.Expr.Call
                        (func := (PySem.Expr.Name "is_new_class" ⟨139, 15, 139, 27⟩))
                        (args := [(PySem.Expr.Name "earlier" ⟨139, 28, 139, 35⟩), (PySem.Expr.Name "row" ⟨139, 37, 139, 40⟩)])
                        (keywords := [])
                        (pos := ⟨139, 15, 139, 41⟩)))
                      (pos := ⟨139, 11, 139, 41⟩)))
                    (body := [
                      (PySem.Stmt.Raise
                        (exc := (some
                          (PySem.Expr.Call
                            (func := (PySem.Expr.Name "BadClasses" ⟨140, 18, 140, 28⟩))
                            (args := [(PySem.Expr.Name "index" ⟨140, 29, 140, 34⟩)])
                            (keywords := [])
                            (pos := ⟨140, 18, 140, 35⟩))))
                        (cause := none)
                        (pos := ⟨140, 12, 140, 35⟩))])
                    (orelse := [])
                    (pos := ⟨139, 8, 140, 35⟩)),
                  (PySem.Stmt.Expr
                    (value := (PySem.Expr.Call
                      (func := (PySem.Expr.Attribute (PySem.Expr.Name "earlier" ⟨141, 8, 141, 15⟩) "append" ⟨141, 8, 141, 22⟩))
                      (args := [
                        (PySem.Expr.Subscript
                          (value := (PySem.Expr.Name "row" ⟨141, 23, 141, 26⟩))
                          (slice := (PySem.Expr.Constant (PySem.Const.int 0) 0 ⟨141, 27, 141, 28⟩))
                          (pos := ⟨141, 23, 141, 29⟩))])
                      (keywords := [])
                      (pos := ⟨141, 8, 141, 30⟩)))
                    (pos := ⟨141, 8, 141, 30⟩))])
                (orelse := [])
                (pos := ⟨138, 4, 141, 30⟩))])
            (decorator_list := [])
            (returns := none)
            (type_params := [])
            (scope := {
              kind := PySem.ScopeKind.function,
              names := [
                (PySem.Str.ofString "classes", PySem.NameKind.local),
                (PySem.Str.ofString "earlier", PySem.NameKind.local),
                (PySem.Str.ofString "index", PySem.NameKind.local),
                (PySem.Str.ofString "row", PySem.NameKind.local),
                (PySem.Str.ofString "is_tuple", PySem.NameKind.globalImplicit),
                (PySem.Str.ofString "BadClasses", PySem.NameKind.globalImplicit),
                (PySem.Str.ofString "enumerate", PySem.NameKind.globalImplicit),
                (PySem.Str.ofString "is_new_class", PySem.NameKind.globalImplicit)],
              isGenerator := false,
              isCoroutine := false,
              more := [] : PySem.Scope })
            (tscope := none)
            (bind := "check_names")
            (pos := ⟨134, 0, 141, 30⟩))
def s_is_told_kind : Stmt :=
  (PySem.Stmt.FunctionDef
            (name := "is_told_kind")
            (args := {
              posonlyargs := [],
              args := [
                { arg := "classes", annotation := none, pos := ⟨142, 17, 142, 24⟩ : PySem.Arg },
                { arg := "value", annotation := none, pos := ⟨142, 26, 142, 31⟩ : PySem.Arg }],
              vararg := none,
              kwonlyargs := [],
              kw_defaults := [],
              kwarg := none,
              defaults := [] : PySem.Arguments })
            (body := [
              (PySem.Stmt.Return
                (value := (some
                  (PySem.Expr.BoolOp
                    (op := PySem.BoolOp.Or)
                    (values := [
                      (PySem.Expr.Compare
                        (left := (PySem.Expr.Name "value" ⟨143, 11, 143, 16⟩))
                        (ops := [PySem.CmpOp.Eq])
                        (comparators := [(PySem.Expr.Constant (PySem.Const.str "num") 0 ⟨143, 20, 143, 25⟩)])
                        (pos := ⟨143, 11, 143, 25⟩)),
                      (PySem.Expr.Call
                        (func := (PySem.Expr.Name "is_class" ⟨143, 29, 143, 37⟩))
                        (args := [(PySem.Expr.Name "classes" ⟨143, 38, 143, 45⟩), (PySem.Expr.Name "value" ⟨143, 47, 143, 52⟩)])
                        (keywords := [])
                        (pos := ⟨143, 29, 143, 53⟩))])
                    (pos := ⟨143, 11, 143, 53⟩))))
                (pos := ⟨143, 4, 143, 53⟩))])
            (decorator_list := [])
            (returns := none)
            (type_params := [])
            (scope := {
              kind := PySem.ScopeKind.function,
              names := [
                (PySem.Str.ofString "classes", PySem.NameKind.local),
                (PySem.Str.ofString "value", PySem.NameKind.local),
                (PySem.Str.ofString "is_class", PySem.NameKind.globalImplicit)],
              isGenerator := false,
              isCoroutine := false,
              more := [] : PySem.Scope })
            (tscope := none)
            (bind := "is_told_kind")
            (pos := ⟨142, 0, 143, 53⟩))
def s_are_fields : Stmt :=
  (PySem.Stmt.FunctionDef
            (name := "are_fields")
            (args := {
              posonlyargs := [],
              args := [
                { arg := "classes", annotation := none, pos := ⟨144, 15, 144, 22⟩ : PySem.Arg },
                { arg := "upper", annotation := none, pos := ⟨144, 24, 144, 29⟩ : PySem.Arg },
                { arg := "fields", annotation := none, pos := ⟨144, 31, 144, 37⟩ : PySem.Arg }],
              vararg := none,
              kwonlyargs := [],
              kw_defaults := [],
              kwarg := none,
              defaults := [] : PySem.Arguments })
            (body := [
              (PySem.Stmt.If
                (test := (PySem.Expr.UnaryOp
                  (op := PySem.UnaryOp.Not)
                  (operand := (PySem.Expr.Call
                    (func := (PySem.Expr.Name "is_tuple" ⟨145, 11, 145, 19⟩))
                    (args := [
                      (PySem.Expr.Name "fields" ⟨145, 20, 145, 26⟩),
                      (PySem.Expr.Constant (PySem.Const.int 0) 0 ⟨145, 28, 145, 29⟩),
                      (PySem.Expr.Constant (PySem.Const.int 4) 0 ⟨145, 31, 145, 32⟩)])
                    (keywords := [])
                    (pos := ⟨145, 11, 145, 33⟩)))
                  (pos := ⟨145, 7, 145, 33⟩)))
                (body := [
                  (PySem.Stmt.Return
                    (value := (some (PySem.Expr.Constant (PySem.Const.bool false) 0 ⟨146, 15, 146, 20⟩)))
                    (pos := ⟨146, 8, 146, 20⟩))])
                (orelse := [])
                (pos := ⟨145, 4, 146, 20⟩)),
              (PySem.Stmt.Assign
                (targets := [(PySem.Expr.Name "words" ⟨147, 4, 147, 9⟩)])
                (value := (PySem.Expr.ListComp
                  (elt := (PySem.Expr.Name "word" ⟨147, 13, 147, 17⟩))
                  (generators := [
                    {
                      target := (PySem.Expr.Tuple
                        (elts := [(PySem.Expr.Name "word" ⟨147, 22, 147, 26⟩), (PySem.Expr.Name "_" ⟨147, 28, 147, 29⟩)])
                        (k := 0)
                        (pos := ⟨147, 22, 147, 29⟩)),
                      iter := (PySem.Expr.Call
                        (func := (PySem.Expr.Name "fields_up" ⟨147, 33, 147, 42⟩))
                        (args := [(PySem.Expr.Name "classes" ⟨147, 43, 147, 50⟩), (PySem.Expr.Name "upper" ⟨147, 52, 147, 57⟩)])
                        (keywords := [])
                        (pos := ⟨147, 33, 147, 58⟩)),
                      ifs := [],
                      is_async := 0 : PySem.Comprehension }])
                  (scope := {
                    kind := PySem.ScopeKind.function,
                    names := [
                      (PySem.Str.ofString ".0", PySem.NameKind.local),
                      (PySem.Str.ofString "word", PySem.NameKind.local),
                      (PySem.Str.ofString "_", PySem.NameKind.local)],
                    isGenerator := false,
                    isCoroutine := false,
                    more := [] : PySem.Scope })
                  (pos := ⟨147, 12, 147, 59⟩)))
                (pos := ⟨147, 4, 147, 59⟩)),
              (PySem.Stmt.For
                (target := (PySem.Expr.Name "pair" ⟨148, 8, 148, 12⟩))
                (iter := (PySem.Expr.Name "fields" ⟨148, 16, 148, 22⟩))
                (body := [
                  (PySem.Stmt.If
                    (test := (PySem.Expr.BoolOp
                      (op := PySem.BoolOp.Or)
                      (values := [
                        (PySem.Expr.UnaryOp
                          (op := PySem.UnaryOp.Not)
                          (operand := (PySem.Expr.Call
                            (func := (PySem.Expr.Name "is_tuple" ⟨149, 15, 149, 23⟩))
                            (args := [
                              (PySem.Expr.Name "pair" ⟨149, 24, 149, 28⟩),
                              (PySem.Expr.Constant (PySem.Const.int 2) 0 ⟨149, 30, 149, 31⟩),
                              (PySem.Expr.Constant (PySem.Const.int 2) 0 ⟨149, 33, 149, 34⟩)])
                            (keywords := [])
                            (pos := ⟨149, 15, 149, 35⟩)))
                          (pos := ⟨149, 11, 149, 35⟩)),
                        (PySem.Expr.UnaryOp
                          (op := PySem.UnaryOp.Not)
                          (operand := (PySem.Expr.Call
                            (func := (PySem.Expr.Name "is_word" ⟨149, 43, 149, 50⟩))
                            (args := [
                              (PySem.Expr.Subscript
                                (value := (PySem.Expr.Name "pair" ⟨149, 51, 149, 55⟩))
                                (slice := (PySem.Expr.Constant (PySem.Const.int 0) 0 ⟨149, 56, 149, 57⟩))
                                (pos := ⟨149, 51, 149, 58⟩))])
                            (keywords := [])
                            (pos := ⟨149, 43, 149, 59⟩)))
                          (pos := ⟨149, 39, 149, 59⟩)),
                        (PySem.Expr.Compare
                          (left := (PySem.Expr.Subscript
                            (value := (PySem.Expr.Name "pair" ⟨149, 63, 149, 67⟩))
                            (slice := (PySem.Expr.Constant (PySem.Const.int 0) 0 ⟨149, 68, 149, 69⟩))
                            (pos := ⟨149, 63, 149, 70⟩)))
                          (ops := [PySem.CmpOp.In])
                          (comparators := [(PySem.Expr.Name "words" ⟨149, 74, 149, 79⟩)])
                          (pos := ⟨149, 63, 149, 79⟩))])
                      (pos := ⟨149, 11, 149, 79⟩)))
                    (body := [
                      (PySem.Stmt.Return
                        (value := (some (PySem.Expr.Constant (PySem.Const.bool false) 0 ⟨150, 19, 150, 24⟩)))
                        (pos := ⟨150, 12, 150, 24⟩))])
                    (orelse := [])
                    (pos := ⟨149, 8, 150, 24⟩)),
                  (PySem.Stmt.If
                    (test := (PySem.Expr.UnaryOp
                      (op := PySem.UnaryOp.Not)
                      (operand := (PySem.Expr.Call
                        (func := (PySem.Expr.Name "is_told_kind" ⟨151, 15, 151, 27⟩))
                        (args := [
                          (PySem.Expr.Name "classes" ⟨151, 28, 151, 35⟩),
                          (PySem.Expr.Subscript
                            (value := (PySem.Expr.Name "pair" ⟨151, 37, 151, 41⟩))
                            (slice := (PySem.Expr.Constant (PySem.Const.int 1) 0 ⟨151, 42, 151, 43⟩))
                            (pos := ⟨151, 37, 151, 44⟩))])
                        (keywords := [])
                        (pos := ⟨151, 15, 151, 45⟩)))
                      (pos := ⟨151, 11, 151, 45⟩)))
                    (body := [
                      (PySem.Stmt.Return
                        (value := (some (PySem.Expr.Constant (PySem.Const.bool false) 0 ⟨152, 19, 152, 24⟩)))
                        (pos := ⟨152, 12, 152, 24⟩))])
                    (orelse := [])
                    (pos := ⟨151, 8, 152, 24⟩)),
                  (PySem.Stmt.Expr
                    (value := (PySem.Expr.Call
                      (func := (PySem.Expr.Attribute (PySem.Expr.Name "words" ⟨153, 8, 153, 13⟩) "append" ⟨153, 8, 153, 20⟩))
                      (args := [
                        (PySem.Expr.Subscript
                          (value := (PySem.Expr.Name "pair" ⟨153, 21, 153, 25⟩))
                          (slice := (PySem.Expr.Constant (PySem.Const.int 0) 0 ⟨153, 26, 153, 27⟩))
                          (pos := ⟨153, 21, 153, 28⟩))])
                      (keywords := [])
                      (pos := ⟨153, 8, 153, 29⟩)))
                    (pos := ⟨153, 8, 153, 29⟩))])
                (orelse := [])
                (pos := ⟨148, 4, 153, 29⟩)),
              (PySem.Stmt.Return
                (value := (some (PySem.Expr.Constant (PySem.Const.bool true) 0 ⟨154, 11, 154, 15⟩)))
                (pos := ⟨154, 4, 154, 15⟩))])
            (decorator_list := [])
            (returns := none)
            (type_params := [])
            (scope := {
              kind := PySem.ScopeKind.function,
              names := [
                (PySem.Str.ofString "classes", PySem.NameKind.local),
                (PySem.Str.ofString "upper", PySem.NameKind.local),
                (PySem.Str.ofString "fields", PySem.NameKind.local),
                (PySem.Str.ofString "words", PySem.NameKind.local),
                (PySem.Str.ofString "pair", PySem.NameKind.local),
                (PySem.Str.ofString "is_tuple", PySem.NameKind.globalImplicit),
                (PySem.Str.ofString "fields_up", PySem.NameKind.globalImplicit),
                (PySem.Str.ofString "is_word", PySem.NameKind.globalImplicit),
                (PySem.Str.ofString "is_told_kind", PySem.NameKind.globalImplicit)],
              isGenerator := false,
              isCoroutine := false,
              more := [
                (PySem.Str.ofString "fast", (PySem.Const.str "classes")),
                (PySem.Str.ofString "fast", (PySem.Const.str "upper")),
                (PySem.Str.ofString "fast", (PySem.Const.str "fields")),
                (PySem.Str.ofString "fast", (PySem.Const.str "word")),
                (PySem.Str.ofString "fast", (PySem.Const.str "_")),
                (PySem.Str.ofString "fast", (PySem.Const.str "words")),
                (PySem.Str.ofString "fast", (PySem.Const.str "pair"))] : PySem.Scope })
            (tscope := none)
            (bind := "are_fields")
            (pos := ⟨144, 0, 154, 15⟩))
def s_is_method : Stmt :=
  (PySem.Stmt.FunctionDef
            (name := "is_method")
            (args := {
              posonlyargs := [],
              args := [
                { arg := "classes", annotation := none, pos := ⟨155, 14, 155, 21⟩ : PySem.Arg },
                { arg := "upper", annotation := none, pos := ⟨155, 23, 155, 28⟩ : PySem.Arg },
                { arg := "words", annotation := none, pos := ⟨155, 30, 155, 35⟩ : PySem.Arg },
                { arg := "method", annotation := none, pos := ⟨155, 37, 155, 43⟩ : PySem.Arg },
                { arg := "parts", annotation := none, pos := ⟨155, 45, 155, 50⟩ : PySem.Arg }],
              vararg := none,
              kwonlyargs := [],
              kw_defaults := [],
              kwarg := none,
              defaults := [] : PySem.Arguments })
            (body := [
              (PySem.Stmt.If
                (test := (PySem.Expr.BoolOp
                  (op := PySem.BoolOp.Or)
                  (values := [
                    (PySem.Expr.UnaryOp
                      (op := PySem.UnaryOp.Not)
                      (operand := (PySem.Expr.Call
                        (func := (PySem.Expr.Name "is_tuple" ⟨156, 11, 156, 19⟩))
                        (args := [
                          (PySem.Expr.Name "method" ⟨156, 20, 156, 26⟩),
                          (PySem.Expr.Name "parts" ⟨156, 28, 156, 33⟩),
                          (PySem.Expr.Name "parts" ⟨156, 35, 156, 40⟩)])
                        (keywords := [])
                        (pos := ⟨156, 11, 156, 41⟩)))
                      (pos := ⟨156, 7, 156, 41⟩)),
                    (PySem.Expr.UnaryOp
                      (op := PySem.UnaryOp.Not)
                      (operand := (PySem.Expr.Call
                        (func := (PySem.Expr.Name "is_word" ⟨156, 49, 156, 56⟩))
                        (args := [
                          (PySem.Expr.Subscript
                            (value := (PySem.Expr.Name "method" ⟨156, 57, 156, 63⟩))
                            (slice := (PySem.Expr.Constant (PySem.Const.int 0) 0 ⟨156, 64, 156, 65⟩))
                            (pos := ⟨156, 57, 156, 66⟩))])
                        (keywords := [])
                        (pos := ⟨156, 49, 156, 67⟩)))
                      (pos := ⟨156, 45, 156, 67⟩)),
                    (PySem.Expr.Compare
                      (left := (PySem.Expr.Subscript
                        (value := (PySem.Expr.Name "method" ⟨156, 71, 156, 77⟩))
                        (slice := (PySem.Expr.Constant (PySem.Const.int 0) 0 ⟨156, 78, 156, 79⟩))
                        (pos := ⟨156, 71, 156, 80⟩)))
                      (ops := [PySem.CmpOp.In])
                      (comparators := [(PySem.Expr.Name "words" ⟨156, 84, 156, 89⟩)])
                      (pos := ⟨156, 71, 156, 89⟩))])
                  (pos := ⟨156, 7, 156, 89⟩)))
                (body := [
                  (PySem.Stmt.Return
                    (value := (some (PySem.Expr.Constant (PySem.Const.bool false) 0 ⟨157, 15, 157, 20⟩)))
                    (pos := ⟨157, 8, 157, 20⟩))])
                (orelse := [])
                (pos := ⟨156, 4, 157, 20⟩)),
              (PySem.Stmt.Assign
                (targets := [
                  (PySem.Expr.Tuple
                    (elts := [
                      (PySem.Expr.Name "word" ⟨158, 4, 158, 8⟩),
                      (PySem.Expr.Name "ins" ⟨158, 10, 158, 13⟩),
                      (PySem.Expr.Name "out" ⟨158, 15, 158, 18⟩)])
                    (k := 0)
                    (pos := ⟨158, 4, 158, 18⟩))])
                (value := (PySem.Expr.Subscript
                  (value := (PySem.Expr.Name "method" ⟨158, 21, 158, 27⟩))
                  (slice := (PySem.Expr.Slice
                    (lower := none)
                    (upper := (some (PySem.Expr.Constant (PySem.Const.int 3) 0 ⟨158, 29, 158, 30⟩)))
                    (step := none)
                    (pos := ⟨158, 28, 158, 30⟩)))
                  (pos := ⟨158, 21, 158, 31⟩)))
                (pos := ⟨158, 4, 158, 31⟩)),
              (PySem.Stmt.If
                (test := (PySem.Expr.BoolOp
                  (op := PySem.BoolOp.Or)
                  (values := [
                    (PySem.Expr.UnaryOp
                      (op := PySem.UnaryOp.Not)
                      (operand := (PySem.Expr.Call
                        (func := (PySem.Expr.Name "is_tuple" ⟨159, 11, 159, 19⟩))
                        (args := [
                          (PySem.Expr.Name "ins" ⟨159, 20, 159, 23⟩),
                          (PySem.Expr.Constant (PySem.Const.int 0) 0 ⟨159, 25, 159, 26⟩),
                          (PySem.Expr.Constant (PySem.Const.int 3) 0 ⟨159, 28, 159, 29⟩)])
                        (keywords := [])
                        (pos := ⟨159, 11, 159, 30⟩)))
                      (pos := ⟨159, 7, 159, 30⟩)),
                    (PySem.Expr.UnaryOp
                      (op := PySem.UnaryOp.Not)
                      (operand := (PySem.Expr.Call
                        (func := (PySem.Expr.Name "all" ⟨159, 38, 159, 41⟩))
                        (args := [
                          (PySem.Expr.ListComp
                            (elt := (PySem.Expr.Call
                              (func := (PySem.Expr.Name "is_told_kind" ⟨159, 43, 159, 55⟩))
                              (args := [(PySem.Expr.Name "classes" ⟨159, 56, 159, 63⟩), (PySem.Expr.Name "kind" ⟨159, 65, 159, 69⟩)])
                              (keywords := [])
                              (pos := ⟨159, 43, 159, 70⟩)))
                            (generators := [
                              {
                                target := (PySem.Expr.Name "kind" ⟨159, 75, 159, 79⟩),
                                iter := (PySem.Expr.Name "ins" ⟨159, 83, 159, 86⟩),
                                ifs := [],
                                is_async := 0 : PySem.Comprehension }])
                            (scope := {
                              kind := PySem.ScopeKind.function,
                              names := [
                                (PySem.Str.ofString ".0", PySem.NameKind.local),
                                (PySem.Str.ofString "kind", PySem.NameKind.local),
                                (PySem.Str.ofString "is_told_kind", PySem.NameKind.globalImplicit),
                                (PySem.Str.ofString "classes", PySem.NameKind.free)],
                              isGenerator := false,
                              isCoroutine := false,
                              more := [] : PySem.Scope })
                            (pos := ⟨159, 42, 159, 87⟩))])
                        (keywords := [])
                        (pos := ⟨159, 38, 159, 88⟩)))
                      (pos := ⟨159, 34, 159, 88⟩))])
                  (pos := ⟨159, 7, 159, 88⟩)))
                (body := [
                  (PySem.Stmt.Return
                    (value := (some (PySem.Expr.Constant (PySem.Const.bool false) 0 ⟨160, 15, 160, 20⟩)))
                    (pos := ⟨160, 8, 160, 20⟩))])
                (orelse := [])
                (pos := ⟨159, 4, 160, 20⟩)),
              (PySem.Stmt.If
                (test := (PySem.Expr.UnaryOp
                  (op := PySem.UnaryOp.Not)
                  (operand := (PySem.Expr.Call
                    (func := (PySem.Expr.Name "is_told_kind" ⟨161, 11, 161, 23⟩))
                    (args := [(PySem.Expr.Name "classes" ⟨161, 24, 161, 31⟩), (PySem.Expr.Name "out" ⟨161, 33, 161, 36⟩)])
                    (keywords := [])
                    (pos := ⟨161, 11, 161, 37⟩)))
                  (pos := ⟨161, 7, 161, 37⟩)))
                (body := [
                  (PySem.Stmt.Return
                    (value := (some (PySem.Expr.Constant (PySem.Const.bool false) 0 ⟨162, 15, 162, 20⟩)))
                    (pos := ⟨162, 8, 162, 20⟩))])
                (orelse := [])
                (pos := ⟨161, 4, 162, 20⟩)),
              (PySem.Stmt.If
                (test := (PySem.Expr.Compare
                  (left := (PySem.Expr.Call
                    (func := (PySem.Expr.Name "nearest" ⟨163, 7, 163, 14⟩))
                    (args := [
                      (PySem.Expr.Name "classes" ⟨163, 15, 163, 22⟩),
                      (PySem.Expr.Name "upper" ⟨163, 24, 163, 29⟩),
                      (PySem.Expr.Name "word" ⟨163, 31, 163, 35⟩)])
                    (keywords := [])
                    (pos := ⟨163, 7, 163, 36⟩)))
                  (ops := [PySem.CmpOp.Is])
                  (comparators := [(PySem.Expr.Constant PySem.Const.none 0 ⟨163, 40, 163, 44⟩)])
                  (pos := ⟨163, 7, 163, 44⟩)))
                (body := [
                  (PySem.Stmt.Return
                    (value := (some (PySem.Expr.Constant (PySem.Const.bool true) 0 ⟨164, 15, 164, 19⟩)))
                    (pos := ⟨164, 8, 164, 19⟩))])
                (orelse := [])
                (pos := ⟨163, 4, 164, 19⟩)),
              (PySem.Stmt.Return
                (value := (some
                  (PySem.Expr.Compare
                    (left := (PySem.Expr.Subscript
                      (value := (PySem.Expr.Call
                        (func := (PySem.Expr.Name "nearest_method" ⟨165, 11, 165, 25⟩))
                        (args := [
                          (PySem.Expr.Name "classes" ⟨165, 26, 165, 33⟩),
                          (PySem.Expr.Name "upper" ⟨165, 35, 165, 40⟩),
                          (PySem.Expr.Name "word" ⟨165, 42, 165, 46⟩)])
                        (keywords := [])
                        (pos := ⟨165, 11, 165, 47⟩)))
                      (slice := (PySem.Expr.Slice
                        (lower := (some (PySem.Expr.Constant (PySem.Const.int 1) 0 ⟨165, 48, 165, 49⟩)))
                        (upper := (some (PySem.Expr.Constant (PySem.Const.int 3) 0 ⟨165, 50, 165, 51⟩)))
                        (step := none)
                        (pos := ⟨165, 48, 165, 51⟩)))
                      (pos := ⟨165, 11, 165, 52⟩)))
                    (ops := [PySem.CmpOp.Eq])
                    (comparators := [
                      (PySem.Expr.Tuple
                        (elts := [(PySem.Expr.Name "ins" ⟨165, 57, 165, 60⟩), (PySem.Expr.Name "out" ⟨165, 62, 165, 65⟩)])
                        (k := 0)
                        (pos := ⟨165, 56, 165, 66⟩))])
                    (pos := ⟨165, 11, 165, 66⟩))))
                (pos := ⟨165, 4, 165, 66⟩))])
            (decorator_list := [])
            (returns := none)
            (type_params := [])
            (scope := {
              kind := PySem.ScopeKind.function,
              names := [
                (PySem.Str.ofString "classes", PySem.NameKind.cell),
                (PySem.Str.ofString "upper", PySem.NameKind.local),
                (PySem.Str.ofString "words", PySem.NameKind.local),
                (PySem.Str.ofString "method", PySem.NameKind.local),
                (PySem.Str.ofString "parts", PySem.NameKind.local),
                (PySem.Str.ofString "word", PySem.NameKind.local),
                (PySem.Str.ofString "ins", PySem.NameKind.local),
                (PySem.Str.ofString "out", PySem.NameKind.local),
                (PySem.Str.ofString "is_tuple", PySem.NameKind.globalImplicit),
                (PySem.Str.ofString "is_word", PySem.NameKind.globalImplicit),
                (PySem.Str.ofString "all", PySem.NameKind.globalImplicit),
                (PySem.Str.ofString "is_told_kind", PySem.NameKind.globalImplicit),
                (PySem.Str.ofString "nearest", PySem.NameKind.globalImplicit),
                (PySem.Str.ofString "nearest_method", PySem.NameKind.globalImplicit)],
              isGenerator := false,
              isCoroutine := false,
              more := [
                (PySem.Str.ofString "fast", (PySem.Const.str "classes")),
                (PySem.Str.ofString "fast", (PySem.Const.str "upper")),
                (PySem.Str.ofString "fast", (PySem.Const.str "words")),
                (PySem.Str.ofString "fast", (PySem.Const.str "method")),
                (PySem.Str.ofString "fast", (PySem.Const.str "parts")),
                (PySem.Str.ofString "fast", (PySem.Const.str "word")),
                (PySem.Str.ofString "fast", (PySem.Const.str "ins")),
                (PySem.Str.ofString "fast", (PySem.Const.str "out")),
                (PySem.Str.ofString "fast", (PySem.Const.str "kind"))] : PySem.Scope })
            (tscope := none)
            (bind := "is_method")
            (pos := ⟨155, 0, 165, 66⟩))
def s_check_methods : Stmt :=
  (PySem.Stmt.FunctionDef
            (name := "check_methods")
            (args := {
              posonlyargs := [],
              args := [
                { arg := "classes", annotation := none, pos := ⟨166, 18, 166, 25⟩ : PySem.Arg },
                { arg := "index", annotation := none, pos := ⟨166, 27, 166, 32⟩ : PySem.Arg },
                { arg := "parts", annotation := none, pos := ⟨166, 34, 166, 39⟩ : PySem.Arg }],
              vararg := none,
              kwonlyargs := [],
              kw_defaults := [],
              kwarg := none,
              defaults := [] : PySem.Arguments })
            (body := [
              (PySem.Stmt.Assign
                (targets := [
                  (PySem.Expr.Tuple
                    (elts := [
                      (PySem.Expr.Name "_" ⟨167, 4, 167, 5⟩),
                      (PySem.Expr.Name "upper" ⟨167, 7, 167, 12⟩),
                      (PySem.Expr.Name "_" ⟨167, 14, 167, 15⟩),
                      (PySem.Expr.Name "methods" ⟨167, 17, 167, 24⟩)])
                    (k := 0)
                    (pos := ⟨167, 4, 167, 24⟩))])
                (value := (PySem.Expr.Subscript
                  (value := (PySem.Expr.Name "classes" ⟨167, 27, 167, 34⟩))
                  (slice := (PySem.Expr.Name "index" ⟨167, 35, 167, 40⟩))
                  (pos := ⟨167, 27, 167, 41⟩)))
                (pos := ⟨167, 4, 167, 41⟩)),
              (PySem.Stmt.If
                (test := (PySem.Expr.UnaryOp
                  (op := PySem.UnaryOp.Not)
                  (operand := (PySem.Expr.Call
                    (func := (PySem.Expr.Name "is_tuple" ⟨168, 11, 168, 19⟩))
                    (args := [
                      (PySem.Expr.Name "methods" ⟨168, 20, 168, 27⟩),
                      (PySem.Expr.Constant (PySem.Const.int 0) 0 ⟨168, 29, 168, 30⟩),
                      (PySem.Expr.Constant (PySem.Const.int 4) 0 ⟨168, 32, 168, 33⟩)])
                    (keywords := [])
                    (pos := ⟨168, 11, 168, 34⟩)))
                  (pos := ⟨168, 7, 168, 34⟩)))
                (body := [
                  (PySem.Stmt.Raise
                    (exc := (some
                      (PySem.Expr.Call
                        (func := (PySem.Expr.Name "BadMethods" ⟨169, 14, 169, 24⟩))
                        (args := [(PySem.Expr.Name "index" ⟨169, 25, 169, 30⟩), (PySem.Expr.Constant PySem.Const.none 0 ⟨169, 32, 169, 36⟩)])
                        (keywords := [])
                        (pos := ⟨169, 14, 169, 37⟩))))
                    (cause := none)
                    (pos := ⟨169, 8, 169, 37⟩))])
                (orelse := [])
                (pos := ⟨168, 4, 169, 37⟩)),
              (PySem.Stmt.Assign
                (targets := [(PySem.Expr.Name "words" ⟨170, 4, 170, 9⟩)])
                (value := (PySem.Expr.List [] ⟨170, 12, 170, 14⟩))
                (pos := ⟨170, 4, 170, 14⟩)),
              (PySem.Stmt.For
                (target := (PySem.Expr.Tuple
                  (elts := [(PySem.Expr.Name "place" ⟨171, 8, 171, 13⟩), (PySem.Expr.Name "method" ⟨171, 15, 171, 21⟩)])
                  (k := 0)
                  (pos := ⟨171, 8, 171, 21⟩)))
                (iter := (PySem.Expr.Call
                  (func := (PySem.Expr.Name "enumerate" ⟨171, 25, 171, 34⟩))
                  (args := [(PySem.Expr.Name "methods" ⟨171, 35, 171, 42⟩)])
                  (keywords := [])
                  (pos := ⟨171, 25, 171, 43⟩)))
                (body := [
                  (PySem.Stmt.If
                    (test := (PySem.Expr.UnaryOp
                      (op := PySem.UnaryOp.Not)
                      (operand := (PySem.Expr.Call
                        (func := (PySem.Expr.Name "is_method" ⟨172, 15, 172, 24⟩))
                        (args := [
                          (PySem.Expr.Name "classes" ⟨172, 25, 172, 32⟩),
                          (PySem.Expr.Name "upper" ⟨172, 34, 172, 39⟩),
                          (PySem.Expr.Name "words" ⟨172, 41, 172, 46⟩),
                          (PySem.Expr.Name "method" ⟨172, 48, 172, 54⟩),
                          (PySem.Expr.Name "parts" ⟨172, 56, 172, 61⟩)])
                        (keywords := [])
                        (pos := ⟨172, 15, 172, 62⟩)))
                      (pos := ⟨172, 11, 172, 62⟩)))
                    (body := [
                      (PySem.Stmt.Raise
                        (exc := (some
                          (PySem.Expr.Call
                            (func := (PySem.Expr.Name "BadMethods" ⟨173, 18, 173, 28⟩))
                            (args := [(PySem.Expr.Name "index" ⟨173, 29, 173, 34⟩), (PySem.Expr.Name "place" ⟨173, 36, 173, 41⟩)])
                            (keywords := [])
                            (pos := ⟨173, 18, 173, 42⟩))))
                        (cause := none)
                        (pos := ⟨173, 12, 173, 42⟩))])
                    (orelse := [])
                    (pos := ⟨172, 8, 173, 42⟩)),
                  (PySem.Stmt.Expr
                    (value := (PySem.Expr.Call
                      (func := (PySem.Expr.Attribute (PySem.Expr.Name "words" ⟨174, 8, 174, 13⟩) "append" ⟨174, 8, 174, 20⟩))
                      (args := [
                        (PySem.Expr.Subscript
                          (value := (PySem.Expr.Name "method" ⟨174, 21, 174, 27⟩))
                          (slice := (PySem.Expr.Constant (PySem.Const.int 0) 0 ⟨174, 28, 174, 29⟩))
                          (pos := ⟨174, 21, 174, 30⟩))])
                      (keywords := [])
                      (pos := ⟨174, 8, 174, 31⟩)))
                    (pos := ⟨174, 8, 174, 31⟩))])
                (orelse := [])
                (pos := ⟨171, 4, 174, 31⟩))])
            (decorator_list := [])
            (returns := none)
            (type_params := [])
            (scope := {
              kind := PySem.ScopeKind.function,
              names := [
                (PySem.Str.ofString "classes", PySem.NameKind.local),
                (PySem.Str.ofString "index", PySem.NameKind.local),
                (PySem.Str.ofString "parts", PySem.NameKind.local),
                (PySem.Str.ofString "_", PySem.NameKind.local),
                (PySem.Str.ofString "upper", PySem.NameKind.local),
                (PySem.Str.ofString "methods", PySem.NameKind.local),
                (PySem.Str.ofString "words", PySem.NameKind.local),
                (PySem.Str.ofString "place", PySem.NameKind.local),
                (PySem.Str.ofString "method", PySem.NameKind.local),
                (PySem.Str.ofString "is_tuple", PySem.NameKind.globalImplicit),
                (PySem.Str.ofString "BadMethods", PySem.NameKind.globalImplicit),
                (PySem.Str.ofString "enumerate", PySem.NameKind.globalImplicit),
                (PySem.Str.ofString "is_method", PySem.NameKind.globalImplicit)],
              isGenerator := false,
              isCoroutine := false,
              more := [] : PySem.Scope })
            (tscope := none)
            (bind := "check_methods")
            (pos := ⟨166, 0, 174, 31⟩))
def s_check_code : Stmt :=
  (PySem.Stmt.FunctionDef
            (name := "check_code")
            (args := {
              posonlyargs := [],
              args := [
                { arg := "classes", annotation := none, pos := ⟨175, 15, 175, 22⟩ : PySem.Arg },
                { arg := "index", annotation := none, pos := ⟨175, 24, 175, 29⟩ : PySem.Arg },
                { arg := "place", annotation := none, pos := ⟨175, 31, 175, 36⟩ : PySem.Arg }],
              vararg := none,
              kwonlyargs := [],
              kw_defaults := [],
              kwarg := none,
              defaults := [] : PySem.Arguments })
            (body := [
              (PySem.Stmt.Assign
                (targets := [
                  (PySem.Expr.Tuple
                    (elts := [(PySem.Expr.Name "code" ⟨176, 4, 176, 8⟩), (PySem.Expr.Name "handlers" ⟨176, 10, 176, 18⟩)])
                    (k := 0)
                    (pos := ⟨176, 4, 176, 18⟩))])
                (value := (PySem.Expr.Subscript
                  (value := (PySem.Expr.Subscript
                    (value := (PySem.Expr.Subscript
                      (value := (PySem.Expr.Subscript
                        (value := (PySem.Expr.Name "classes" ⟨176, 21, 176, 28⟩))
                        (slice := (PySem.Expr.Name "index" ⟨176, 29, 176, 34⟩))
                        (pos := ⟨176, 21, 176, 35⟩)))
                      (slice := (PySem.Expr.Constant (PySem.Const.int 3) 0 ⟨176, 36, 176, 37⟩))
                      (pos := ⟨176, 21, 176, 38⟩)))
                    (slice := (PySem.Expr.Name "place" ⟨176, 39, 176, 44⟩))
                    (pos := ⟨176, 21, 176, 45⟩)))
                  (slice := (PySem.Expr.Slice
                    (lower := (some (PySem.Expr.Constant (PySem.Const.int 3) 0 ⟨176, 46, 176, 47⟩)))
                    (upper := none)
                    (step := none)
                    (pos := ⟨176, 46, 176, 48⟩)))
                  (pos := ⟨176, 21, 176, 49⟩)))
                (pos := ⟨176, 4, 176, 49⟩)),
              (PySem.Stmt.If
                (test := (PySem.Expr.UnaryOp
                  (op := PySem.UnaryOp.Not)
                  (operand := (PySem.Expr.Call
                    (func := (PySem.Expr.Name "is_tuple" ⟨177, 11, 177, 19⟩))
                    (args := [
                      (PySem.Expr.Name "code" ⟨177, 20, 177, 24⟩),
                      (PySem.Expr.Constant (PySem.Const.int 1) 0 ⟨177, 26, 177, 27⟩),
                      (PySem.Expr.Constant (PySem.Const.int 20) 0 ⟨177, 29, 177, 31⟩)])
                    (keywords := [])
                    (pos := ⟨177, 11, 177, 32⟩)))
                  (pos := ⟨177, 7, 177, 32⟩)))
                (body := [
                  (PySem.Stmt.Raise
                    (exc := (some
                      (PySem.Expr.Call
                        (func := (PySem.Expr.Name "BadCode" ⟨178, 14, 178, 21⟩))
                        (args := [
                          (PySem.Expr.Name "index" ⟨178, 22, 178, 27⟩),
                          (PySem.Expr.Name "place" ⟨178, 29, 178, 34⟩),
                          (PySem.Expr.Constant PySem.Const.none 0 ⟨178, 36, 178, 40⟩)])
                        (keywords := [])
                        (pos := ⟨178, 14, 178, 41⟩))))
                    (cause := none)
                    (pos := ⟨178, 8, 178, 41⟩))])
                (orelse := [])
                (pos := ⟨177, 4, 178, 41⟩)),
              (PySem.Stmt.Assign
                (targets := [(PySem.Expr.Name "step" ⟨179, 4, 179, 8⟩)])
                (value := (PySem.Expr.Call
                  (func := (PySem.Expr.Name "bad_step" ⟨179, 11, 179, 19⟩))
                  (args := [(PySem.Expr.Name "classes" ⟨179, 20, 179, 27⟩), (PySem.Expr.Name "code" ⟨179, 29, 179, 33⟩)])
                  (keywords := [])
                  (pos := ⟨179, 11, 179, 34⟩)))
                (pos := ⟨179, 4, 179, 34⟩)),
              (PySem.Stmt.If
                (test := (PySem.Expr.Compare
                  (left := (PySem.Expr.Name "step" ⟨180, 7, 180, 11⟩))
                  (ops := [PySem.CmpOp.IsNot])
                  (comparators := [(PySem.Expr.Constant PySem.Const.none 0 ⟨180, 19, 180, 23⟩)])
                  (pos := ⟨180, 7, 180, 23⟩)))
                (body := [
                  (PySem.Stmt.Raise
                    (exc := (some
                      (PySem.Expr.Call
                        (func := (PySem.Expr.Name "BadCode" ⟨181, 14, 181, 21⟩))
                        (args := [
                          (PySem.Expr.Name "index" ⟨181, 22, 181, 27⟩),
                          (PySem.Expr.Name "place" ⟨181, 29, 181, 34⟩),
                          (PySem.Expr.Name "step" ⟨181, 36, 181, 40⟩)])
                        (keywords := [])
                        (pos := ⟨181, 14, 181, 41⟩))))
                    (cause := none)
                    (pos := ⟨181, 8, 181, 41⟩))])
                (orelse := [])
                (pos := ⟨180, 4, 181, 41⟩)),
              (PySem.Stmt.If
                (test := (PySem.Expr.UnaryOp
                  (op := PySem.UnaryOp.Not)
                  (operand := (PySem.Expr.Call
                    (func := (PySem.Expr.Name "is_tuple" ⟨182, 11, 182, 19⟩))
                    (args := [
                      (PySem.Expr.Name "handlers" ⟨182, 20, 182, 28⟩),
                      (PySem.Expr.Constant (PySem.Const.int 0) 0 ⟨182, 30, 182, 31⟩),
                      (PySem.Expr.Constant (PySem.Const.int 4) 0 ⟨182, 33, 182, 34⟩)])
                    (keywords := [])
                    (pos := ⟨182, 11, 182, 35⟩)))
                  (pos := ⟨182, 7, 182, 35⟩)))
                (body := [
                  (PySem.Stmt.Raise
                    (exc := (some
                      (PySem.Expr.Call
                        (func := (PySem.Expr.Name "BadHandlers" ⟨183, 14, 183, 25⟩))
                        (args := [
                          (PySem.Expr.Name "index" ⟨183, 26, 183, 31⟩),
                          (PySem.Expr.Name "place" ⟨183, 33, 183, 38⟩),
                          (PySem.Expr.Constant PySem.Const.none 0 ⟨183, 40, 183, 44⟩)])
                        (keywords := [])
                        (pos := ⟨183, 14, 183, 45⟩))))
                    (cause := none)
                    (pos := ⟨183, 8, 183, 45⟩))])
                (orelse := [])
                (pos := ⟨182, 4, 183, 45⟩)),
              (PySem.Stmt.Assign
                (targets := [(PySem.Expr.Name "row" ⟨184, 4, 184, 7⟩)])
                (value := (PySem.Expr.Call
                  (func := (PySem.Expr.Name "bad_handler" ⟨184, 10, 184, 21⟩))
                  (args := [
                    (PySem.Expr.Name "classes" ⟨184, 22, 184, 29⟩),
                    (PySem.Expr.Call
                      (func := (PySem.Expr.Name "len" ⟨184, 31, 184, 34⟩))
                      (args := [(PySem.Expr.Name "code" ⟨184, 35, 184, 39⟩)])
                      (keywords := [])
                      (pos := ⟨184, 31, 184, 40⟩)),
                    (PySem.Expr.Name "handlers" ⟨184, 42, 184, 50⟩)])
                  (keywords := [])
                  (pos := ⟨184, 10, 184, 51⟩)))
                (pos := ⟨184, 4, 184, 51⟩)),
              (PySem.Stmt.If
                (test := (PySem.Expr.Compare
                  (left := (PySem.Expr.Name "row" ⟨185, 7, 185, 10⟩))
                  (ops := [PySem.CmpOp.IsNot])
                  (comparators := [(PySem.Expr.Constant PySem.Const.none 0 ⟨185, 18, 185, 22⟩)])
                  (pos := ⟨185, 7, 185, 22⟩)))
                (body := [
                  (PySem.Stmt.Raise
                    (exc := (some
                      (PySem.Expr.Call
                        (func := (PySem.Expr.Name "BadHandlers" ⟨186, 14, 186, 25⟩))
                        (args := [
                          (PySem.Expr.Name "index" ⟨186, 26, 186, 31⟩),
                          (PySem.Expr.Name "place" ⟨186, 33, 186, 38⟩),
                          (PySem.Expr.Name "row" ⟨186, 40, 186, 43⟩)])
                        (keywords := [])
                        (pos := ⟨186, 14, 186, 44⟩))))
                    (cause := none)
                    (pos := ⟨186, 8, 186, 44⟩))])
                (orelse := [])
                (pos := ⟨185, 4, 186, 44⟩))])
            (decorator_list := [])
            (returns := none)
            (type_params := [])
            (scope := {
              kind := PySem.ScopeKind.function,
              names := [
                (PySem.Str.ofString "classes", PySem.NameKind.local),
                (PySem.Str.ofString "index", PySem.NameKind.local),
                (PySem.Str.ofString "place", PySem.NameKind.local),
                (PySem.Str.ofString "code", PySem.NameKind.local),
                (PySem.Str.ofString "handlers", PySem.NameKind.local),
                (PySem.Str.ofString "step", PySem.NameKind.local),
                (PySem.Str.ofString "row", PySem.NameKind.local),
                (PySem.Str.ofString "is_tuple", PySem.NameKind.globalImplicit),
                (PySem.Str.ofString "BadCode", PySem.NameKind.globalImplicit),
                (PySem.Str.ofString "bad_step", PySem.NameKind.globalImplicit),
                (PySem.Str.ofString "BadHandlers", PySem.NameKind.globalImplicit),
                (PySem.Str.ofString "bad_handler", PySem.NameKind.globalImplicit),
                (PySem.Str.ofString "len", PySem.NameKind.globalImplicit)],
              isGenerator := false,
              isCoroutine := false,
              more := [] : PySem.Scope })
            (tscope := none)
            (bind := "check_code")
            (pos := ⟨175, 0, 186, 44⟩))
def s_check_shells : Stmt :=
  (PySem.Stmt.FunctionDef
            (name := "check_shells")
            (args := {
              posonlyargs := [],
              args := [
                { arg := "classes", annotation := none, pos := ⟨187, 17, 187, 24⟩ : PySem.Arg },
                { arg := "parts", annotation := none, pos := ⟨187, 26, 187, 31⟩ : PySem.Arg }],
              vararg := none,
              kwonlyargs := [],
              kw_defaults := [],
              kwarg := none,
              defaults := [] : PySem.Arguments })
            (body := [
              (PySem.Stmt.Expr
                (value := (PySem.Expr.Call
                  (func := (PySem.Expr.Name "check_names" ⟨188, 4, 188, 15⟩))
                  (args := [(PySem.Expr.Name "classes" ⟨188, 16, 188, 23⟩)])
                  (keywords := [])
                  (pos := ⟨188, 4, 188, 24⟩)))
                (pos := ⟨188, 4, 188, 24⟩)),
              (PySem.Stmt.For
                (target := (PySem.Expr.Tuple
                  (elts := [(PySem.Expr.Name "index" ⟨189, 8, 189, 13⟩), (PySem.Expr.Name "row" ⟨189, 15, 189, 18⟩)])
                  (k := 0)
                  (pos := ⟨189, 8, 189, 18⟩)))
                (iter := (PySem.Expr.Call
                  (func := (PySem.Expr.Name "enumerate" ⟨189, 22, 189, 31⟩))
                  (args := [(PySem.Expr.Name "classes" ⟨189, 32, 189, 39⟩)])
                  (keywords := [])
                  (pos := ⟨189, 22, 189, 40⟩)))
                (body := [
                  (PySem.Stmt.If
                    (test := (PySem.Expr.UnaryOp
                      (op := PySem.UnaryOp.Not)
                      (operand := (PySem.Expr.Call
                        (func := (PySem.Expr.Name "are_fields" ⟨190, 15, 190, 25⟩))
                        (args := [
                          (PySem.Expr.Name "classes" ⟨190, 26, 190, 33⟩),
                          (PySem.Expr.Subscript
                            (value := (PySem.Expr.Name "row" ⟨190, 35, 190, 38⟩))
                            (slice := (PySem.Expr.Constant (PySem.Const.int 1) 0 ⟨190, 39, 190, 40⟩))
                            (pos := ⟨190, 35, 190, 41⟩)),
                          (PySem.Expr.Subscript
                            (value := (PySem.Expr.Name "row" ⟨190, 43, 190, 46⟩))
                            (slice := (PySem.Expr.Constant (PySem.Const.int 2) 0 ⟨190, 47, 190, 48⟩))
                            (pos := ⟨190, 43, 190, 49⟩))])
                        (keywords := [])
                        (pos := ⟨190, 15, 190, 50⟩)))
                      (pos := ⟨190, 11, 190, 50⟩)))
                    (body := [
                      (PySem.Stmt.Raise
                        (exc := (some
                          (PySem.Expr.Call
                            (func := (PySem.Expr.Name "BadFields" ⟨191, 18, 191, 27⟩))
                            (args := [(PySem.Expr.Name "index" ⟨191, 28, 191, 33⟩)])
                            (keywords := [])
                            (pos := ⟨191, 18, 191, 34⟩))))
                        (cause := none)
                        (pos := ⟨191, 12, 191, 34⟩))])
                    (orelse := [])
                    (pos := ⟨190, 8, 191, 34⟩)),
                  (PySem.Stmt.Expr
                    (value := (PySem.Expr.Call
                      (func := (PySem.Expr.Name "check_methods" ⟨192, 8, 192, 21⟩))
                      (args := [
                        (PySem.Expr.Name "classes" ⟨192, 22, 192, 29⟩),
                        (PySem.Expr.Name "index" ⟨192, 31, 192, 36⟩),
                        (PySem.Expr.Name "parts" ⟨192, 38, 192, 43⟩)])
                      (keywords := [])
                      (pos := ⟨192, 8, 192, 44⟩)))
                    (pos := ⟨192, 8, 192, 44⟩))])
                (orelse := [])
                (pos := ⟨189, 4, 192, 44⟩))])
            (decorator_list := [])
            (returns := none)
            (type_params := [])
            (scope := {
              kind := PySem.ScopeKind.function,
              names := [
                (PySem.Str.ofString "classes", PySem.NameKind.local),
                (PySem.Str.ofString "parts", PySem.NameKind.local),
                (PySem.Str.ofString "index", PySem.NameKind.local),
                (PySem.Str.ofString "row", PySem.NameKind.local),
                (PySem.Str.ofString "check_names", PySem.NameKind.globalImplicit),
                (PySem.Str.ofString "enumerate", PySem.NameKind.globalImplicit),
                (PySem.Str.ofString "are_fields", PySem.NameKind.globalImplicit),
                (PySem.Str.ofString "BadFields", PySem.NameKind.globalImplicit),
                (PySem.Str.ofString "check_methods", PySem.NameKind.globalImplicit)],
              isGenerator := false,
              isCoroutine := false,
              more := [] : PySem.Scope })
            (tscope := none)
            (bind := "check_shells")
            (pos := ⟨187, 0, 192, 44⟩))
def s_check_classes : Stmt :=
  (PySem.Stmt.FunctionDef
            (name := "check_classes")
            (args := {
              posonlyargs := [],
              args := [{ arg := "classes", annotation := none, pos := ⟨193, 18, 193, 25⟩ : PySem.Arg }],
              vararg := none,
              kwonlyargs := [],
              kw_defaults := [],
              kwarg := none,
              defaults := [] : PySem.Arguments })
            (body := [
              (PySem.Stmt.Expr
                (value := (PySem.Expr.Call
                  (func := (PySem.Expr.Name "check_shells" ⟨194, 4, 194, 16⟩))
                  (args := [
                    (PySem.Expr.Name "classes" ⟨194, 17, 194, 24⟩),
                    (PySem.Expr.Constant (PySem.Const.int 5) 0 ⟨194, 26, 194, 27⟩)])
                  (keywords := [])
                  (pos := ⟨194, 4, 194, 28⟩)))
                (pos := ⟨194, 4, 194, 28⟩)),
              (PySem.Stmt.For
                (target := (PySem.Expr.Tuple
                  (elts := [(PySem.Expr.Name "index" ⟨195, 8, 195, 13⟩), (PySem.Expr.Name "row" ⟨195, 15, 195, 18⟩)])
                  (k := 0)
                  (pos := ⟨195, 8, 195, 18⟩)))
                (iter := (PySem.Expr.Call
                  (func := (PySem.Expr.Name "enumerate" ⟨195, 22, 195, 31⟩))
                  (args := [(PySem.Expr.Name "classes" ⟨195, 32, 195, 39⟩)])
                  (keywords := [])
                  (pos := ⟨195, 22, 195, 40⟩)))
                (body := [
                  (PySem.Stmt.For
                    (target := (PySem.Expr.Name "place" ⟨196, 12, 196, 17⟩))
                    (iter := (PySem.Expr.Call
                      (func := (PySem.Expr.Name "range" ⟨196, 21, 196, 26⟩))
                      (args := [
                        (PySem.Expr.Call
                          (func := (PySem.Expr.Name "len" ⟨196, 27, 196, 30⟩))
                          (args := [
                            (PySem.Expr.Subscript
                              (value := (PySem.Expr.Name "row" ⟨196, 31, 196, 34⟩))
                              (slice := (PySem.Expr.Constant (PySem.Const.int 3) 0 ⟨196, 35, 196, 36⟩))
                              (pos := ⟨196, 31, 196, 37⟩))])
                          (keywords := [])
                          (pos := ⟨196, 27, 196, 38⟩))])
                      (keywords := [])
                      (pos := ⟨196, 21, 196, 39⟩)))
                    (body := [
                      (PySem.Stmt.Expr
                        (value := (PySem.Expr.Call
                          (func := (PySem.Expr.Name "check_code" ⟨197, 12, 197, 22⟩))
                          (args := [
                            (PySem.Expr.Name "classes" ⟨197, 23, 197, 30⟩),
                            (PySem.Expr.Name "index" ⟨197, 32, 197, 37⟩),
                            (PySem.Expr.Name "place" ⟨197, 39, 197, 44⟩)])
                          (keywords := [])
                          (pos := ⟨197, 12, 197, 45⟩)))
                        (pos := ⟨197, 12, 197, 45⟩))])
                    (orelse := [])
                    (pos := ⟨196, 8, 197, 45⟩))])
                (orelse := [])
                (pos := ⟨195, 4, 197, 45⟩))])
            (decorator_list := [])
            (returns := none)
            (type_params := [])
            (scope := {
              kind := PySem.ScopeKind.function,
              names := [
                (PySem.Str.ofString "classes", PySem.NameKind.local),
                (PySem.Str.ofString "index", PySem.NameKind.local),
                (PySem.Str.ofString "row", PySem.NameKind.local),
                (PySem.Str.ofString "place", PySem.NameKind.local),
                (PySem.Str.ofString "check_shells", PySem.NameKind.globalImplicit),
                (PySem.Str.ofString "enumerate", PySem.NameKind.globalImplicit),
                (PySem.Str.ofString "range", PySem.NameKind.globalImplicit),
                (PySem.Str.ofString "len", PySem.NameKind.globalImplicit),
                (PySem.Str.ofString "check_code", PySem.NameKind.globalImplicit)],
              isGenerator := false,
              isCoroutine := false,
              more := [] : PySem.Scope })
            (tscope := none)
            (bind := "check_classes")
            (pos := ⟨193, 0, 197, 45⟩))
abbrev s_House___init__ : Stmt := inClass s_House 0
abbrev s_House_classes : Stmt := inClass s_House 1
def s_check_house : Stmt :=
  (PySem.Stmt.FunctionDef
            (name := "check_house")
            (args := {
              posonlyargs := [],
              args := [{ arg := "house", annotation := none, pos := ⟨211, 16, 211, 21⟩ : PySem.Arg }],
              vararg := none,
              kwonlyargs := [],
              kw_defaults := [],
              kwarg := none,
              defaults := [] : PySem.Arguments })
            (body := [
              (PySem.Stmt.If
                (test := (PySem.Expr.UnaryOp
                  (op := PySem.UnaryOp.Not)
                  (operand := (PySem.Expr.Call
                    (func := (PySem.Expr.Name "isinstance" ⟨212, 11, 212, 21⟩))
                    (args := [(PySem.Expr.Name "house" ⟨212, 22, 212, 27⟩), (PySem.Expr.Name "House" ⟨212, 29, 212, 34⟩)])
                    (keywords := [])
                    (pos := ⟨212, 11, 212, 35⟩)))
                  (pos := ⟨212, 7, 212, 35⟩)))
                (body := [
                  (PySem.Stmt.Raise
                    (exc := (some
                      (PySem.Expr.Call
                        (func := (PySem.Expr.Name "NoHouse" ⟨213, 14, 213, 21⟩))
                        (args := [(PySem.Expr.Constant (PySem.Const.str "no House") 0 ⟨213, 22, 213, 32⟩)])
                        (keywords := [])
                        (pos := ⟨213, 14, 213, 33⟩))))
                    (cause := none)
                    (pos := ⟨213, 8, 213, 33⟩))])
                (orelse := [])
                (pos := ⟨212, 4, 213, 33⟩))])
            (decorator_list := [])
            (returns := none)
            (type_params := [])
            (scope := {
              kind := PySem.ScopeKind.function,
              names := [
                (PySem.Str.ofString "house", PySem.NameKind.local),
                (PySem.Str.ofString "isinstance", PySem.NameKind.globalImplicit),
                (PySem.Str.ofString "House", PySem.NameKind.globalImplicit),
                (PySem.Str.ofString "NoHouse", PySem.NameKind.globalImplicit)],
              isGenerator := false,
              isCoroutine := false,
              more := [] : PySem.Scope })
            (tscope := none)
            (bind := "check_house")
            (pos := ⟨211, 0, 213, 33⟩))
def s_check_name : Stmt :=
  (PySem.Stmt.FunctionDef
            (name := "check_name")
            (args := {
              posonlyargs := [],
              args := [
                { arg := "house", annotation := none, pos := ⟨214, 15, 214, 20⟩ : PySem.Arg },
                { arg := "name", annotation := none, pos := ⟨214, 22, 214, 26⟩ : PySem.Arg }],
              vararg := none,
              kwonlyargs := [],
              kw_defaults := [],
              kwarg := none,
              defaults := [] : PySem.Arguments })
            (body := [
              (PySem.Stmt.Expr
                (value := (PySem.Expr.Call
                  (func := (PySem.Expr.Name "check_house" ⟨215, 4, 215, 15⟩))
                  (args := [(PySem.Expr.Name "house" ⟨215, 16, 215, 21⟩)])
                  (keywords := [])
                  (pos := ⟨215, 4, 215, 22⟩)))
                (pos := ⟨215, 4, 215, 22⟩)),
              (PySem.Stmt.If
                (test := (PySem.Expr.UnaryOp
                  (op := PySem.UnaryOp.Not)
                  (operand := (PySem.Expr.Call
                    (func := (PySem.Expr.Name "is_class" ⟨216, 11, 216, 19⟩))
                    (args := [
                      (PySem.Expr.Attribute (PySem.Expr.Name "house" ⟨216, 20, 216, 25⟩) "classes" ⟨216, 20, 216, 33⟩),
                      (PySem.Expr.Name "name" ⟨216, 35, 216, 39⟩)])
                    (keywords := [])
                    (pos := ⟨216, 11, 216, 40⟩)))
                  (pos := ⟨216, 7, 216, 40⟩)))
                (body := [
                  (PySem.Stmt.Raise
                    (exc := (some
                      (PySem.Expr.Call
                        (func := (PySem.Expr.Name "BadName" ⟨217, 14, 217, 21⟩))
                        (args := [(PySem.Expr.Constant (PySem.Const.str "no class of the house") 0 ⟨217, 22, 217, 45⟩)])
                        (keywords := [])
                        (pos := ⟨217, 14, 217, 46⟩))))
                    (cause := none)
                    (pos := ⟨217, 8, 217, 46⟩))])
                (orelse := [])
                (pos := ⟨216, 4, 217, 46⟩))])
            (decorator_list := [])
            (returns := none)
            (type_params := [])
            (scope := {
              kind := PySem.ScopeKind.function,
              names := [
                (PySem.Str.ofString "house", PySem.NameKind.local),
                (PySem.Str.ofString "name", PySem.NameKind.local),
                (PySem.Str.ofString "check_house", PySem.NameKind.globalImplicit),
                (PySem.Str.ofString "is_class", PySem.NameKind.globalImplicit),
                (PySem.Str.ofString "BadName", PySem.NameKind.globalImplicit)],
              isGenerator := false,
              isCoroutine := false,
              more := [] : PySem.Scope })
            (tscope := none)
            (bind := "check_name")
            (pos := ⟨214, 0, 217, 46⟩))
def s_fields_of : Stmt :=
  (PySem.Stmt.FunctionDef
            (name := "fields_of")
            (args := {
              posonlyargs := [],
              args := [
                { arg := "house", annotation := none, pos := ⟨219, 14, 219, 19⟩ : PySem.Arg },
                { arg := "name", annotation := none, pos := ⟨219, 21, 219, 25⟩ : PySem.Arg }],
              vararg := none,
              kwonlyargs := [],
              kw_defaults := [],
              kwarg := none,
              defaults := [] : PySem.Arguments })
            (body := [
              (PySem.Stmt.Expr
                (value := (PySem.Expr.Call
                  (func := (PySem.Expr.Name "check_name" ⟨220, 4, 220, 14⟩))
                  (args := [(PySem.Expr.Name "house" ⟨220, 15, 220, 20⟩), (PySem.Expr.Name "name" ⟨220, 22, 220, 26⟩)])
                  (keywords := [])
                  (pos := ⟨220, 4, 220, 27⟩)))
                (pos := ⟨220, 4, 220, 27⟩)),
              (PySem.Stmt.Return
                (value := (some
                  (PySem.Expr.Call
                    (func := (PySem.Expr.Name "fields_up" ⟨221, 11, 221, 20⟩))
                    (args := [
                      (PySem.Expr.Attribute (PySem.Expr.Name "house" ⟨221, 21, 221, 26⟩) "classes" ⟨221, 21, 221, 34⟩),
                      (PySem.Expr.Name "name" ⟨221, 36, 221, 40⟩)])
                    (keywords := [])
                    (pos := ⟨221, 11, 221, 41⟩))))
                (pos := ⟨221, 4, 221, 41⟩))])
            (decorator_list := [])
            (returns := none)
            (type_params := [])
            (scope := {
              kind := PySem.ScopeKind.function,
              names := [
                (PySem.Str.ofString "house", PySem.NameKind.local),
                (PySem.Str.ofString "name", PySem.NameKind.local),
                (PySem.Str.ofString "check_name", PySem.NameKind.globalImplicit),
                (PySem.Str.ofString "fields_up", PySem.NameKind.globalImplicit)],
              isGenerator := false,
              isCoroutine := false,
              more := [] : PySem.Scope })
            (tscope := none)
            (bind := "fields_of")
            (pos := ⟨219, 0, 221, 41⟩))
def s__law_taken : Stmt :=
  (PySem.Stmt.FunctionDef
            (name := "_law_taken")
            (args := {
              posonlyargs := [],
              args := [
                { arg := "row", annotation := none, pos := ⟨223, 15, 223, 18⟩ : PySem.Arg },
                { arg := "many", annotation := none, pos := ⟨223, 20, 223, 24⟩ : PySem.Arg }],
              vararg := none,
              kwonlyargs := [],
              kw_defaults := [],
              kwarg := none,
              defaults := [] : PySem.Arguments })
            (body := [
              (PySem.Stmt.If
                (test := (PySem.Expr.Compare
                  (left := (PySem.Expr.Subscript
                    (value := (PySem.Expr.Name "row" ⟨224, 7, 224, 10⟩))
                    (slice := (PySem.Expr.Constant (PySem.Const.int 3) 0 ⟨224, 11, 224, 12⟩))
                    (pos := ⟨224, 7, 224, 13⟩)))
                  (ops := [PySem.CmpOp.Gt])
                  (comparators := [(PySem.Expr.Constant (PySem.Const.int 0) 0 ⟨224, 16, 224, 17⟩)])
                  (pos := ⟨224, 7, 224, 17⟩)))
                (body := [
                  (PySem.Stmt.Assign
                    (targets := [(PySem.Expr.Name "found" ⟨225, 8, 225, 13⟩)])
                    (value := (PySem.Expr.BinOp
                      (left := (PySem.Expr.Call
                        (func := (PySem.Expr.Name "int" ⟨225, 16, 225, 19⟩))
                        (args := [
                          (PySem.Expr.Subscript
                            (value := (PySem.Expr.Name "row" ⟨225, 20, 225, 23⟩))
                            (slice := (PySem.Expr.Constant (PySem.Const.int 3) 0 ⟨225, 24, 225, 25⟩))
                            (pos := ⟨225, 20, 225, 26⟩))])
                        (keywords := [])
                        (pos := ⟨225, 16, 225, 27⟩)))
                      (op := PySem.Operator.Mod)
                      (right := (PySem.Expr.Name "many" ⟨225, 30, 225, 34⟩))
                      (pos := ⟨225, 16, 225, 34⟩)))
                    (pos := ⟨225, 8, 225, 34⟩)),
                  (PySem.Stmt.Assign
                    (targets := [
                      (PySem.Expr.Subscript
                        (value := (PySem.Expr.Name "row" ⟨226, 8, 226, 11⟩))
                        (slice := (PySem.Expr.Constant (PySem.Const.int 3) 0 ⟨226, 12, 226, 13⟩))
                        (pos := ⟨226, 8, 226, 14⟩))])
                    (value := (PySem.Expr.BinOp
                      (left := (PySem.Expr.Subscript
                        (value := (PySem.Expr.Name "row" ⟨226, 17, 226, 20⟩))
                        (slice := (PySem.Expr.Constant (PySem.Const.int 3) 0 ⟨226, 21, 226, 22⟩))
                        (pos := ⟨226, 17, 226, 23⟩)))
                      (op := PySem.Operator.FloorDiv)
                      (right := (PySem.Expr.Name "many" ⟨226, 27, 226, 31⟩))
                      (pos := ⟨226, 17, 226, 31⟩)))
                    (pos := ⟨226, 8, 226, 31⟩)),
                  (PySem.Stmt.Return (some (PySem.Expr.Name "found" ⟨227, 15, 227, 20⟩)) ⟨227, 8, 227, 20⟩)])
                (orelse := [])
                (pos := ⟨224, 4, 227, 20⟩)),
              (PySem.Stmt.Assign
                (targets := [
                  (PySem.Expr.Subscript
                    (value := (PySem.Expr.Name "row" ⟨228, 4, 228, 7⟩))
                    (slice := (PySem.Expr.Constant (PySem.Const.int 1) 0 ⟨228, 8, 228, 9⟩))
                    (pos := ⟨228, 4, 228, 10⟩))])
                (value := (PySem.Expr.BinOp
                  (left := (PySem.Expr.Subscript
                    (value := (PySem.Expr.Name "row" ⟨228, 13, 228, 16⟩))
                    (slice := (PySem.Expr.Constant (PySem.Const.int 1) 0 ⟨228, 17, 228, 18⟩))
                    (pos := ⟨228, 13, 228, 19⟩)))
                  (op := PySem.Operator.Add)
                  (right := (PySem.Expr.Constant (PySem.Const.int 1) 0 ⟨228, 22, 228, 23⟩))
                  (pos := ⟨228, 13, 228, 23⟩)))
                (pos := ⟨228, 4, 228, 23⟩)),
              (PySem.Stmt.If
                (test := (PySem.Expr.Compare
                  (left := (PySem.Expr.Subscript
                    (value := (PySem.Expr.Name "row" ⟨229, 7, 229, 10⟩))
                    (slice := (PySem.Expr.Constant (PySem.Const.int 1) 0 ⟨229, 11, 229, 12⟩))
                    (pos := ⟨229, 7, 229, 13⟩)))
                  (ops := [PySem.CmpOp.Gt])
                  (comparators := [
                    (PySem.Expr.Call
                      (func := (PySem.Expr.Name "len" ⟨229, 16, 229, 19⟩))
                      (args := [
                        (PySem.Expr.Subscript
                          (value := (PySem.Expr.Name "row" ⟨229, 20, 229, 23⟩))
                          (slice := (PySem.Expr.Constant (PySem.Const.int 0) 0 ⟨229, 24, 229, 25⟩))
                          (pos := ⟨229, 20, 229, 26⟩))])
                      (keywords := [])
                      (pos := ⟨229, 16, 229, 27⟩))])
                  (pos := ⟨229, 7, 229, 27⟩)))
                (body := [
                  (PySem.Stmt.Assign
                    (targets := [
                      (PySem.Expr.Subscript
                        (value := (PySem.Expr.Name "row" ⟨230, 8, 230, 11⟩))
                        (slice := (PySem.Expr.Constant (PySem.Const.int 2) 0 ⟨230, 12, 230, 13⟩))
                        (pos := ⟨230, 8, 230, 14⟩))])
                    (value := (PySem.Expr.BinOp
                      (left := (PySem.Expr.Call
                        (func := (PySem.Expr.Name "int" ⟨230, 17, 230, 20⟩))
                        (args := [
                          (PySem.Expr.BinOp
                            (left := (PySem.Expr.BinOp
                              (left := (PySem.Expr.Subscript
                                (value := (PySem.Expr.Name "row" ⟨230, 21, 230, 24⟩))
                                (slice := (PySem.Expr.Constant (PySem.Const.int 2) 0 ⟨230, 25, 230, 26⟩))
                                (pos := ⟨230, 21, 230, 27⟩)))
                              (op := PySem.Operator.Mult)
                              (right := (PySem.Expr.Constant (PySem.Const.int 48271) 0 ⟨230, 30, 230, 35⟩))
                              (pos := ⟨230, 21, 230, 35⟩)))
                            (op := PySem.Operator.Add)
                            (right := (PySem.Expr.Constant (PySem.Const.int 11) 0 ⟨230, 38, 230, 40⟩))
                            (pos := ⟨230, 21, 230, 40⟩))])
                        (keywords := [])
                        (pos := ⟨230, 17, 230, 41⟩)))
                      (op := PySem.Operator.Mod)
                      (right := (PySem.Expr.Constant (PySem.Const.int 2147483647) 0 ⟨230, 44, 230, 54⟩))
                      (pos := ⟨230, 17, 230, 54⟩)))
                    (pos := ⟨230, 8, 230, 54⟩)),
                  (PySem.Stmt.Return
                    (value := (some
                      (PySem.Expr.BinOp
                        (left := (PySem.Expr.Call
                          (func := (PySem.Expr.Name "int" ⟨231, 15, 231, 18⟩))
                          (args := [
                            (PySem.Expr.BinOp
                              (left := (PySem.Expr.Subscript
                                (value := (PySem.Expr.Name "row" ⟨231, 19, 231, 22⟩))
                                (slice := (PySem.Expr.Constant (PySem.Const.int 2) 0 ⟨231, 23, 231, 24⟩))
                                (pos := ⟨231, 19, 231, 25⟩)))
                              (op := PySem.Operator.FloorDiv)
                              (right := (PySem.Expr.Constant (PySem.Const.int 7) 0 ⟨231, 29, 231, 30⟩))
                              (pos := ⟨231, 19, 231, 30⟩))])
                          (keywords := [])
                          (pos := ⟨231, 15, 231, 31⟩)))
                        (op := PySem.Operator.Mod)
                        (right := (PySem.Expr.Name "many" ⟨231, 34, 231, 38⟩))
                        (pos := ⟨231, 15, 231, 38⟩))))
                    (pos := ⟨231, 8, 231, 38⟩))])
                (orelse := [])
                (pos := ⟨229, 4, 231, 38⟩)),
              (PySem.Stmt.Assign
                (targets := [(PySem.Expr.Name "cell" ⟨232, 4, 232, 8⟩)])
                (value := (PySem.Expr.Subscript
                  (value := (PySem.Expr.Subscript
                    (value := (PySem.Expr.Name "row" ⟨232, 11, 232, 14⟩))
                    (slice := (PySem.Expr.Constant (PySem.Const.int 0) 0 ⟨232, 15, 232, 16⟩))
                    (pos := ⟨232, 11, 232, 17⟩)))
                  (slice := (PySem.Expr.BinOp
                    (left := (PySem.Expr.Subscript
                      (value := (PySem.Expr.Name "row" ⟨232, 18, 232, 21⟩))
                      (slice := (PySem.Expr.Constant (PySem.Const.int 1) 0 ⟨232, 22, 232, 23⟩))
                      (pos := ⟨232, 18, 232, 24⟩)))
                    (op := PySem.Operator.Sub)
                    (right := (PySem.Expr.Constant (PySem.Const.int 1) 0 ⟨232, 27, 232, 28⟩))
                    (pos := ⟨232, 18, 232, 28⟩)))
                  (pos := ⟨232, 11, 232, 29⟩)))
                (pos := ⟨232, 4, 232, 29⟩)),
              (PySem.Stmt.Assign
                (targets := [
                  (PySem.Expr.Subscript
                    (value := (PySem.Expr.Name "row" ⟨233, 4, 233, 7⟩))
                    (slice := (PySem.Expr.Constant (PySem.Const.int 2) 0 ⟨233, 8, 233, 9⟩))
                    (pos := ⟨233, 4, 233, 10⟩))])
                (value := (PySem.Expr.BinOp
                  (left := (PySem.Expr.Call
                    (func := (PySem.Expr.Name "int" ⟨233, 13, 233, 16⟩))
                    (args := [
                      (PySem.Expr.BinOp
                        (left := (PySem.Expr.BinOp
                          (left := (PySem.Expr.BinOp
                            (left := (PySem.Expr.Subscript
                              (value := (PySem.Expr.Name "row" ⟨233, 17, 233, 20⟩))
                              (slice := (PySem.Expr.Constant (PySem.Const.int 2) 0 ⟨233, 21, 233, 22⟩))
                              (pos := ⟨233, 17, 233, 23⟩)))
                            (op := PySem.Operator.Mult)
                            (right := (PySem.Expr.Constant (PySem.Const.int 48271) 0 ⟨233, 26, 233, 31⟩))
                            (pos := ⟨233, 17, 233, 31⟩)))
                          (op := PySem.Operator.Add)
                          (right := (PySem.Expr.Name "cell" ⟨233, 34, 233, 38⟩))
                          (pos := ⟨233, 17, 233, 38⟩)))
                        (op := PySem.Operator.Add)
                        (right := (PySem.Expr.Constant (PySem.Const.int 11) 0 ⟨233, 41, 233, 43⟩))
                        (pos := ⟨233, 17, 233, 43⟩))])
                    (keywords := [])
                    (pos := ⟨233, 13, 233, 44⟩)))
                  (op := PySem.Operator.Mod)
                  (right := (PySem.Expr.Constant (PySem.Const.int 2147483647) 0 ⟨233, 47, 233, 57⟩))
                  (pos := ⟨233, 13, 233, 57⟩)))
                (pos := ⟨233, 4, 233, 57⟩)),
              (PySem.Stmt.If
                (test := (PySem.Expr.Compare
                  (left := (PySem.Expr.Name "cell" ⟨234, 7, 234, 11⟩))
                  (ops := [PySem.CmpOp.GtE])
                  (comparators := [
                    (PySem.Expr.BinOp
                      (left := (PySem.Expr.Constant (PySem.Const.int 10) 0 ⟨234, 15, 234, 17⟩))
                      (op := PySem.Operator.Pow)
                      (right := (PySem.Expr.Constant (PySem.Const.int 18) 0 ⟨234, 21, 234, 23⟩))
                      (pos := ⟨234, 15, 234, 23⟩))])
                  (pos := ⟨234, 7, 234, 23⟩)))
                (body := [
                  (PySem.Stmt.Assign
                    (targets := [
                      (PySem.Expr.Subscript
                        (value := (PySem.Expr.Name "row" ⟨235, 8, 235, 11⟩))
                        (slice := (PySem.Expr.Constant (PySem.Const.int 3) 0 ⟨235, 12, 235, 13⟩))
                        (pos := ⟨235, 8, 235, 14⟩))])
                    (value := (PySem.Expr.BinOp
                      (left := (PySem.Expr.Name "cell" ⟨235, 17, 235, 21⟩))
                      (op := PySem.Operator.FloorDiv)
                      (right := (PySem.Expr.Name "many" ⟨235, 25, 235, 29⟩))
                      (pos := ⟨235, 17, 235, 29⟩)))
                    (pos := ⟨235, 8, 235, 29⟩))])
                (orelse := [])
                (pos := ⟨234, 4, 235, 29⟩)),
              (PySem.Stmt.Return
                (value := (some
                  (PySem.Expr.BinOp
                    (left := (PySem.Expr.Call
                      (func := (PySem.Expr.Name "int" ⟨236, 11, 236, 14⟩))
                      (args := [(PySem.Expr.Name "cell" ⟨236, 15, 236, 19⟩)])
                      (keywords := [])
                      (pos := ⟨236, 11, 236, 20⟩)))
                    (op := PySem.Operator.Mod)
                    (right := (PySem.Expr.Name "many" ⟨236, 23, 236, 27⟩))
                    (pos := ⟨236, 11, 236, 27⟩))))
                (pos := ⟨236, 4, 236, 27⟩))])
            (decorator_list := [])
            (returns := none)
            (type_params := [])
            (scope := {
              kind := PySem.ScopeKind.function,
              names := [
                (PySem.Str.ofString "row", PySem.NameKind.local),
                (PySem.Str.ofString "many", PySem.NameKind.local),
                (PySem.Str.ofString "found", PySem.NameKind.local),
                (PySem.Str.ofString "cell", PySem.NameKind.local),
                (PySem.Str.ofString "int", PySem.NameKind.globalImplicit),
                (PySem.Str.ofString "len", PySem.NameKind.globalImplicit)],
              isGenerator := false,
              isCoroutine := false,
              more := [] : PySem.Scope })
            (tscope := none)
            (bind := "_law_taken")
            (pos := ⟨223, 0, 236, 27⟩))
def s__law_pick : Stmt :=
  (PySem.Stmt.FunctionDef
            (name := "_law_pick")
            (args := {
              posonlyargs := [],
              args := [
                { arg := "row", annotation := none, pos := ⟨237, 14, 237, 17⟩ : PySem.Arg },
                { arg := "things", annotation := none, pos := ⟨237, 19, 237, 25⟩ : PySem.Arg }],
              vararg := none,
              kwonlyargs := [],
              kw_defaults := [],
              kwarg := none,
              defaults := [] : PySem.Arguments })
            (body := [
              (PySem.Stmt.Return
                (value := (some
                  (PySem.Expr.Subscript
                    (value := (PySem.Expr.Name "things" ⟨238, 11, 238, 17⟩))
                    (slice := (PySem.Expr.Call
                      (func := (PySem.Expr.Name "_law_taken" ⟨238, 18, 238, 28⟩))
                      (args := [
                        (PySem.Expr.Name "row" ⟨238, 29, 238, 32⟩),
                        (PySem.Expr.Call
                          (func := (PySem.Expr.Name "len" ⟨238, 34, 238, 37⟩))
                          (args := [(PySem.Expr.Name "things" ⟨238, 38, 238, 44⟩)])
                          (keywords := [])
                          (pos := ⟨238, 34, 238, 45⟩))])
                      (keywords := [])
                      (pos := ⟨238, 18, 238, 46⟩)))
                    (pos := ⟨238, 11, 238, 47⟩))))
                (pos := ⟨238, 4, 238, 47⟩))])
            (decorator_list := [])
            (returns := none)
            (type_params := [])
            (scope := {
              kind := PySem.ScopeKind.function,
              names := [
                (PySem.Str.ofString "row", PySem.NameKind.local),
                (PySem.Str.ofString "things", PySem.NameKind.local),
                (PySem.Str.ofString "_law_taken", PySem.NameKind.globalImplicit),
                (PySem.Str.ofString "len", PySem.NameKind.globalImplicit)],
              isGenerator := false,
              isCoroutine := false,
              more := [] : PySem.Scope })
            (tscope := none)
            (bind := "_law_pick")
            (pos := ⟨237, 0, 238, 47⟩))
def s__law_tree : Stmt :=
  (PySem.Stmt.FunctionDef
            (name := "_law_tree")
            (args := {
              posonlyargs := [],
              args := [
                { arg := "row", annotation := none, pos := ⟨239, 14, 239, 17⟩ : PySem.Arg },
                { arg := "many", annotation := none, pos := ⟨239, 19, 239, 23⟩ : PySem.Arg }],
              vararg := none,
              kwonlyargs := [],
              kw_defaults := [],
              kwarg := none,
              defaults := [] : PySem.Arguments })
            (body := [
              (PySem.Stmt.Assign
                (targets := [
                  (PySem.Expr.Tuple
                    (elts := [
                      (PySem.Expr.Name "names" ⟨240, 4, 240, 9⟩),
                      (PySem.Expr.Name "way" ⟨240, 11, 240, 14⟩),
                      (PySem.Expr.Name "found" ⟨240, 16, 240, 21⟩)])
                    (k := 0)
                    (pos := ⟨240, 4, 240, 21⟩))])
                (value := (PySem.Expr.Tuple
                  (elts := [
                    (PySem.Expr.List
                      (elts := [
                        (PySem.Expr.Constant (PySem.Const.str "egg") 0 ⟨240, 26, 240, 31⟩),
                        (PySem.Expr.Constant (PySem.Const.str "box") 0 ⟨240, 33, 240, 38⟩),
                        (PySem.Expr.Constant (PySem.Const.str "red") 0 ⟨240, 40, 240, 45⟩),
                        (PySem.Expr.Constant (PySem.Const.str "blue") 0 ⟨240, 47, 240, 53⟩),
                        (PySem.Expr.Constant (PySem.Const.str "cat") 0 ⟨240, 55, 240, 60⟩),
                        (PySem.Expr.Constant (PySem.Const.str "dog") 0 ⟨240, 62, 240, 67⟩),
                        (PySem.Expr.Constant (PySem.Const.str "sun") 0 ⟨240, 69, 240, 74⟩),
                        (PySem.Expr.Constant (PySem.Const.str "moon") 0 ⟨240, 76, 240, 82⟩)])
                      (pos := ⟨240, 25, 240, 83⟩)),
                    (PySem.Expr.Call
                      (func := (PySem.Expr.Name "_law_taken" ⟨240, 85, 240, 95⟩))
                      (args := [(PySem.Expr.Name "row" ⟨240, 96, 240, 99⟩), (PySem.Expr.Constant (PySem.Const.int 3) 0 ⟨240, 101, 240, 102⟩)])
                      (keywords := [])
                      (pos := ⟨240, 85, 240, 103⟩)),
                    (PySem.Expr.List [] ⟨240, 105, 240, 107⟩)])
                  (k := 0)
                  (pos := ⟨240, 24, 240, 108⟩)))
                (pos := ⟨240, 4, 240, 108⟩)),
              (PySem.Stmt.For
                (target := (PySem.Expr.Name "at" ⟨241, 8, 241, 10⟩))
                (iter := (PySem.Expr.Call
                  (func := (PySem.Expr.Name "range" ⟨241, 14, 241, 19⟩))
                  (args := [(PySem.Expr.Name "many" ⟨241, 20, 241, 24⟩)])
                  (keywords := [])
                  (pos := ⟨241, 14, 241, 25⟩)))
                (body := [
                  (PySem.Stmt.Assign
                    (targets := [(PySem.Expr.Name "some" ⟨242, 8, 242, 12⟩)])
                    (value := (PySem.Expr.BinOp
                      (left := (PySem.Expr.List [(PySem.Expr.Constant (PySem.Const.str "top") 0 ⟨242, 16, 242, 21⟩)] ⟨242, 15, 242, 22⟩))
                      (op := PySem.Operator.Add)
                      (right := (PySem.Expr.ListComp
                        (elt := (PySem.Expr.Subscript
                          (value := (PySem.Expr.Name "told" ⟨242, 26, 242, 30⟩))
                          (slice := (PySem.Expr.Constant (PySem.Const.int 0) 0 ⟨242, 31, 242, 32⟩))
                          (pos := ⟨242, 26, 242, 33⟩)))
                        (generators := [
                          {
                            target := (PySem.Expr.Name "told" ⟨242, 38, 242, 42⟩),
                            iter := (PySem.Expr.Name "found" ⟨242, 46, 242, 51⟩),
                            ifs := [],
                            is_async := 0 : PySem.Comprehension }])
                        (scope := {
                          kind := PySem.ScopeKind.function,
                          names := [(PySem.Str.ofString ".0", PySem.NameKind.local), (PySem.Str.ofString "told", PySem.NameKind.local)],
                          isGenerator := false,
                          isCoroutine := false,
                          more := [] : PySem.Scope })
                        (pos := ⟨242, 25, 242, 52⟩)))
                      (pos := ⟨242, 15, 242, 52⟩)))
                    (pos := ⟨242, 8, 242, 52⟩)),
                  (PySem.Stmt.Assign
                    (targets := [(PySem.Expr.Name "upper" ⟨243, 8, 243, 13⟩)])
                    (value := (PySem.Expr.Subscript
                      (value := (PySem.Expr.List
                        (elts := [
                          (PySem.Expr.Subscript
                            (value := (PySem.Expr.Name "some" ⟨243, 17, 243, 21⟩))
                            (slice := (PySem.Expr.UnaryOp
                              (op := PySem.UnaryOp.USub)
                              (operand := (PySem.Expr.Constant (PySem.Const.int 1) 0 ⟨243, 23, 243, 24⟩))
                              (pos := ⟨243, 22, 243, 24⟩)))
                            (pos := ⟨243, 17, 243, 25⟩)),
                          (PySem.Expr.Subscript
                            (value := (PySem.Expr.Name "some" ⟨243, 27, 243, 31⟩))
                            (slice := (PySem.Expr.BinOp
                              (left := (PySem.Expr.Call
                                (func := (PySem.Expr.Name "_law_taken" ⟨243, 32, 243, 42⟩))
                                (args := [(PySem.Expr.Name "row" ⟨243, 43, 243, 46⟩), (PySem.Expr.Constant (PySem.Const.int 2) 0 ⟨243, 48, 243, 49⟩)])
                                (keywords := [])
                                (pos := ⟨243, 32, 243, 50⟩)))
                              (op := PySem.Operator.Mod)
                              (right := (PySem.Expr.Call
                                (func := (PySem.Expr.Name "len" ⟨243, 53, 243, 56⟩))
                                (args := [(PySem.Expr.Name "some" ⟨243, 57, 243, 61⟩)])
                                (keywords := [])
                                (pos := ⟨243, 53, 243, 62⟩)))
                              (pos := ⟨243, 32, 243, 62⟩)))
                            (pos := ⟨243, 27, 243, 63⟩)),
                          (PySem.Expr.Call
                            (func := (PySem.Expr.Name "_law_pick" ⟨243, 65, 243, 74⟩))
                            (args := [(PySem.Expr.Name "row" ⟨243, 75, 243, 78⟩), (PySem.Expr.Name "some" ⟨243, 80, 243, 84⟩)])
                            (keywords := [])
                            (pos := ⟨243, 65, 243, 85⟩))])
                        (pos := ⟨243, 16, 243, 86⟩)))
                      (slice := (PySem.Expr.Name "way" ⟨243, 87, 243, 90⟩))
                      (pos := ⟨243, 16, 243, 91⟩)))
                    (pos := ⟨243, 8, 243, 91⟩)),
                  (PySem.Stmt.Expr
                    (value := (PySem.Expr.Call
                      (func := (PySem.Expr.Attribute (PySem.Expr.Name "found" ⟨244, 8, 244, 13⟩) "append" ⟨244, 8, 244, 20⟩))
                      (args := [
                        (PySem.Expr.Tuple
                          (elts := [
                            (PySem.Expr.Subscript
                              (value := (PySem.Expr.Name "names" ⟨244, 22, 244, 27⟩))
                              (slice := (PySem.Expr.Name "at" ⟨244, 28, 244, 30⟩))
                              (pos := ⟨244, 22, 244, 31⟩)),
                            (PySem.Expr.Name "upper" ⟨244, 33, 244, 38⟩)])
                          (k := 0)
                          (pos := ⟨244, 21, 244, 39⟩))])
                      (keywords := [])
                      (pos := ⟨244, 8, 244, 40⟩)))
                    (pos := ⟨244, 8, 244, 40⟩))])
                (orelse := [])
                (pos := ⟨241, 4, 244, 40⟩)),
              (PySem.Stmt.Return (some (PySem.Expr.Name "found" ⟨245, 11, 245, 16⟩)) ⟨245, 4, 245, 16⟩)])
            (decorator_list := [])
            (returns := none)
            (type_params := [])
            (scope := {
              kind := PySem.ScopeKind.function,
              names := [
                (PySem.Str.ofString "row", PySem.NameKind.local),
                (PySem.Str.ofString "many", PySem.NameKind.local),
                (PySem.Str.ofString "names", PySem.NameKind.local),
                (PySem.Str.ofString "way", PySem.NameKind.local),
                (PySem.Str.ofString "found", PySem.NameKind.local),
                (PySem.Str.ofString "at", PySem.NameKind.local),
                (PySem.Str.ofString "some", PySem.NameKind.local),
                (PySem.Str.ofString "upper", PySem.NameKind.local),
                (PySem.Str.ofString "_law_taken", PySem.NameKind.globalImplicit),
                (PySem.Str.ofString "range", PySem.NameKind.globalImplicit),
                (PySem.Str.ofString "len", PySem.NameKind.globalImplicit),
                (PySem.Str.ofString "_law_pick", PySem.NameKind.globalImplicit)],
              isGenerator := false,
              isCoroutine := false,
              more := [
                (PySem.Str.ofString "fast", (PySem.Const.str "row")),
                (PySem.Str.ofString "fast", (PySem.Const.str "many")),
                (PySem.Str.ofString "fast", (PySem.Const.str "names")),
                (PySem.Str.ofString "fast", (PySem.Const.str "way")),
                (PySem.Str.ofString "fast", (PySem.Const.str "found")),
                (PySem.Str.ofString "fast", (PySem.Const.str "at")),
                (PySem.Str.ofString "fast", (PySem.Const.str "told")),
                (PySem.Str.ofString "fast", (PySem.Const.str "some")),
                (PySem.Str.ofString "fast", (PySem.Const.str "upper"))] : PySem.Scope })
            (tscope := none)
            (bind := "_law_tree")
            (pos := ⟨239, 0, 245, 16⟩))
def s__law_signs : Stmt :=
  (PySem.Stmt.FunctionDef
            (name := "_law_signs")
            (args := {
              posonlyargs := [],
              args := [
                { arg := "row", annotation := none, pos := ⟨246, 15, 246, 18⟩ : PySem.Arg },
                { arg := "names", annotation := none, pos := ⟨246, 20, 246, 25⟩ : PySem.Arg }],
              vararg := none,
              kwonlyargs := [],
              kw_defaults := [],
              kwarg := none,
              defaults := [] : PySem.Arguments })
            (body := [
              (PySem.Stmt.Assign
                (targets := [
                  (PySem.Expr.Tuple
                    (elts := [(PySem.Expr.Name "kinds" ⟨247, 4, 247, 9⟩), (PySem.Expr.Name "found" ⟨247, 11, 247, 16⟩)])
                    (k := 0)
                    (pos := ⟨247, 4, 247, 16⟩))])
                (value := (PySem.Expr.Tuple
                  (elts := [
                    (PySem.Expr.BinOp
                      (left := (PySem.Expr.List
                        (elts := [
                          (PySem.Expr.Constant (PySem.Const.str "num") 0 ⟨247, 21, 247, 26⟩),
                          (PySem.Expr.Constant (PySem.Const.str "num") 0 ⟨247, 28, 247, 33⟩),
                          (PySem.Expr.Constant (PySem.Const.str "top") 0 ⟨247, 35, 247, 40⟩)])
                        (pos := ⟨247, 20, 247, 41⟩)))
                      (op := PySem.Operator.Add)
                      (right := (PySem.Expr.Name "names" ⟨247, 44, 247, 49⟩))
                      (pos := ⟨247, 20, 247, 49⟩)),
                    (PySem.Expr.Dict [] [] ⟨247, 51, 247, 53⟩)])
                  (k := 0)
                  (pos := ⟨247, 19, 247, 54⟩)))
                (pos := ⟨247, 4, 247, 54⟩)),
              (PySem.Stmt.For
                (target := (PySem.Expr.Name "word" ⟨248, 8, 248, 12⟩))
                (iter := (PySem.Expr.List
                  (elts := [
                    (PySem.Expr.Constant (PySem.Const.str "ma") 0 ⟨248, 17, 248, 21⟩),
                    (PySem.Expr.Constant (PySem.Const.str "mb") 0 ⟨248, 23, 248, 27⟩),
                    (PySem.Expr.Constant (PySem.Const.str "mc") 0 ⟨248, 29, 248, 33⟩)])
                  (pos := ⟨248, 16, 248, 34⟩)))
                (body := [
                  (PySem.Stmt.Assign
                    (targets := [(PySem.Expr.Name "ins" ⟨249, 8, 249, 11⟩)])
                    (value := (PySem.Expr.Call
                      (func := (PySem.Expr.Name "tuple" ⟨249, 14, 249, 19⟩))
                      (args := [
                        (PySem.Expr.ListComp
                          (elt := (PySem.Expr.Call
                            (func := (PySem.Expr.Name "_law_pick" ⟨249, 21, 249, 30⟩))
                            (args := [(PySem.Expr.Name "row" ⟨249, 31, 249, 34⟩), (PySem.Expr.Name "kinds" ⟨249, 36, 249, 41⟩)])
                            (keywords := [])
                            (pos := ⟨249, 21, 249, 42⟩)))
                          (generators := [
                            {
                              target := (PySem.Expr.Name "at" ⟨249, 47, 249, 49⟩),
                              iter := (PySem.Expr.Call
                                (func := (PySem.Expr.Name "range" ⟨249, 53, 249, 58⟩))
                                (args := [
                                  (PySem.Expr.Call
                                    (func := (PySem.Expr.Name "_law_taken" ⟨249, 59, 249, 69⟩))
                                    (args := [(PySem.Expr.Name "row" ⟨249, 70, 249, 73⟩), (PySem.Expr.Constant (PySem.Const.int 3) 0 ⟨249, 75, 249, 76⟩)])
                                    (keywords := [])
                                    (pos := ⟨249, 59, 249, 77⟩))])
                                (keywords := [])
                                (pos := ⟨249, 53, 249, 78⟩)),
                              ifs := [],
                              is_async := 0 : PySem.Comprehension }])
                          (scope := {
                            kind := PySem.ScopeKind.function,
                            names := [
                              (PySem.Str.ofString ".0", PySem.NameKind.local),
                              (PySem.Str.ofString "at", PySem.NameKind.local),
                              (PySem.Str.ofString "_law_pick", PySem.NameKind.globalImplicit),
                              (PySem.Str.ofString "kinds", PySem.NameKind.free),
                              (PySem.Str.ofString "row", PySem.NameKind.free)],
                            isGenerator := false,
                            isCoroutine := false,
                            more := [] : PySem.Scope })
                          (pos := ⟨249, 20, 249, 79⟩))])
                      (keywords := [])
                      (pos := ⟨249, 14, 249, 80⟩)))
                    (pos := ⟨249, 8, 249, 80⟩)),
                  (PySem.Stmt.Assign
                    (targets := [
                      (PySem.Expr.Subscript
                        (value := (PySem.Expr.Name "found" ⟨250, 8, 250, 13⟩))
                        (slice := (PySem.Expr.Name "word" ⟨250, 14, 250, 18⟩))
                        (pos := ⟨250, 8, 250, 19⟩))])
                    (value := (PySem.Expr.Tuple
                      (elts := [
                        (PySem.Expr.Name "ins" ⟨250, 23, 250, 26⟩),
                        (PySem.Expr.Call
                          (func := (PySem.Expr.Name "_law_pick" ⟨250, 28, 250, 37⟩))
                          (args := [(PySem.Expr.Name "row" ⟨250, 38, 250, 41⟩), (PySem.Expr.Name "kinds" ⟨250, 43, 250, 48⟩)])
                          (keywords := [])
                          (pos := ⟨250, 28, 250, 49⟩))])
                      (k := 0)
                      (pos := ⟨250, 22, 250, 50⟩)))
                    (pos := ⟨250, 8, 250, 50⟩))])
                (orelse := [])
                (pos := ⟨248, 4, 250, 50⟩)),
              (PySem.Stmt.Return (some (PySem.Expr.Name "found" ⟨251, 11, 251, 16⟩)) ⟨251, 4, 251, 16⟩)])
            (decorator_list := [])
            (returns := none)
            (type_params := [])
            (scope := {
              kind := PySem.ScopeKind.function,
              names := [
                (PySem.Str.ofString "row", PySem.NameKind.cell),
                (PySem.Str.ofString "names", PySem.NameKind.local),
                (PySem.Str.ofString "kinds", PySem.NameKind.cell),
                (PySem.Str.ofString "found", PySem.NameKind.local),
                (PySem.Str.ofString "word", PySem.NameKind.local),
                (PySem.Str.ofString "ins", PySem.NameKind.local),
                (PySem.Str.ofString "tuple", PySem.NameKind.globalImplicit),
                (PySem.Str.ofString "range", PySem.NameKind.globalImplicit),
                (PySem.Str.ofString "_law_taken", PySem.NameKind.globalImplicit),
                (PySem.Str.ofString "_law_pick", PySem.NameKind.globalImplicit)],
              isGenerator := false,
              isCoroutine := false,
              more := [
                (PySem.Str.ofString "fast", (PySem.Const.str "row")),
                (PySem.Str.ofString "fast", (PySem.Const.str "names")),
                (PySem.Str.ofString "fast", (PySem.Const.str "kinds")),
                (PySem.Str.ofString "fast", (PySem.Const.str "found")),
                (PySem.Str.ofString "fast", (PySem.Const.str "word")),
                (PySem.Str.ofString "fast", (PySem.Const.str "at")),
                (PySem.Str.ofString "fast", (PySem.Const.str "ins"))] : PySem.Scope })
            (tscope := none)
            (bind := "_law_signs")
            (pos := ⟨246, 0, 251, 16⟩))
def s__law_bare : Stmt :=
  (PySem.Stmt.FunctionDef
            (name := "_law_bare")
            (args := {
              posonlyargs := [],
              args := [
                { arg := "row", annotation := none, pos := ⟨252, 14, 252, 17⟩ : PySem.Arg },
                { arg := "most", annotation := none, pos := ⟨252, 19, 252, 23⟩ : PySem.Arg }],
              vararg := none,
              kwonlyargs := [],
              kw_defaults := [],
              kwarg := none,
              defaults := [] : PySem.Arguments })
            (body := [
              (PySem.Stmt.Assign
                (targets := [(PySem.Expr.Name "tree" ⟨253, 4, 253, 8⟩)])
                (value := (PySem.Expr.Call
                  (func := (PySem.Expr.Name "_law_tree" ⟨253, 11, 253, 20⟩))
                  (args := [
                    (PySem.Expr.Name "row" ⟨253, 21, 253, 24⟩),
                    (PySem.Expr.BinOp
                      (left := (PySem.Expr.Constant (PySem.Const.int 1) 0 ⟨253, 26, 253, 27⟩))
                      (op := PySem.Operator.Add)
                      (right := (PySem.Expr.Call
                        (func := (PySem.Expr.Name "_law_taken" ⟨253, 30, 253, 40⟩))
                        (args := [(PySem.Expr.Name "row" ⟨253, 41, 253, 44⟩), (PySem.Expr.Name "most" ⟨253, 46, 253, 50⟩)])
                        (keywords := [])
                        (pos := ⟨253, 30, 253, 51⟩)))
                      (pos := ⟨253, 26, 253, 51⟩))])
                  (keywords := [])
                  (pos := ⟨253, 11, 253, 52⟩)))
                (pos := ⟨253, 4, 253, 52⟩)),
              (PySem.Stmt.Assign
                (targets := [
                  (PySem.Expr.Tuple
                    (elts := [
                      (PySem.Expr.Name "names" ⟨254, 4, 254, 9⟩),
                      (PySem.Expr.Name "found" ⟨254, 11, 254, 16⟩),
                      (PySem.Expr.Name "many" ⟨254, 18, 254, 22⟩)])
                    (k := 0)
                    (pos := ⟨254, 4, 254, 22⟩))])
                (value := (PySem.Expr.Tuple
                  (elts := [
                    (PySem.Expr.ListComp
                      (elt := (PySem.Expr.Subscript
                        (value := (PySem.Expr.Name "told" ⟨254, 27, 254, 31⟩))
                        (slice := (PySem.Expr.Constant (PySem.Const.int 0) 0 ⟨254, 32, 254, 33⟩))
                        (pos := ⟨254, 27, 254, 34⟩)))
                      (generators := [
                        {
                          target := (PySem.Expr.Name "told" ⟨254, 39, 254, 43⟩),
                          iter := (PySem.Expr.Name "tree" ⟨254, 47, 254, 51⟩),
                          ifs := [],
                          is_async := 0 : PySem.Comprehension }])
                      (scope := {
                        kind := PySem.ScopeKind.function,
                        names := [(PySem.Str.ofString ".0", PySem.NameKind.local), (PySem.Str.ofString "told", PySem.NameKind.local)],
                        isGenerator := false,
                        isCoroutine := false,
                        more := [] : PySem.Scope })
                      (pos := ⟨254, 26, 254, 52⟩)),
                    (PySem.Expr.List [] ⟨254, 54, 254, 56⟩),
                    (PySem.Expr.Constant (PySem.Const.int 0) 0 ⟨254, 58, 254, 59⟩)])
                  (k := 0)
                  (pos := ⟨254, 25, 254, 60⟩)))
                (pos := ⟨254, 4, 254, 60⟩)),
              (PySem.Stmt.Assign
                (targets := [(PySem.Expr.Name "signs" ⟨255, 4, 255, 9⟩)])
                (value := (PySem.Expr.Call
                  (func := (PySem.Expr.Name "_law_signs" ⟨255, 12, 255, 22⟩))
                  (args := [(PySem.Expr.Name "row" ⟨255, 23, 255, 26⟩), (PySem.Expr.Name "names" ⟨255, 28, 255, 33⟩)])
                  (keywords := [])
                  (pos := ⟨255, 12, 255, 34⟩)))
                (pos := ⟨255, 4, 255, 34⟩)),
              (PySem.Stmt.For
                (target := (PySem.Expr.Tuple
                  (elts := [(PySem.Expr.Name "name" ⟨256, 8, 256, 12⟩), (PySem.Expr.Name "upper" ⟨256, 14, 256, 19⟩)])
                  (k := 0)
                  (pos := ⟨256, 8, 256, 19⟩)))
                (iter := (PySem.Expr.Name "tree" ⟨256, 23, 256, 27⟩))
                (body := [
                  (PySem.Stmt.Assign
                    (targets := [(PySem.Expr.Name "fields" ⟨257, 8, 257, 14⟩)])
                    (value := (PySem.Expr.List [] ⟨257, 17, 257, 19⟩))
                    (pos := ⟨257, 8, 257, 19⟩)),
                  (PySem.Stmt.For
                    (target := (PySem.Expr.Name "at" ⟨258, 12, 258, 14⟩))
                    (iter := (PySem.Expr.Call
                      (func := (PySem.Expr.Name "range" ⟨258, 18, 258, 23⟩))
                      (args := [
                        (PySem.Expr.Call
                          (func := (PySem.Expr.Name "_law_taken" ⟨258, 24, 258, 34⟩))
                          (args := [(PySem.Expr.Name "row" ⟨258, 35, 258, 38⟩), (PySem.Expr.Constant (PySem.Const.int 3) 0 ⟨258, 40, 258, 41⟩)])
                          (keywords := [])
                          (pos := ⟨258, 24, 258, 42⟩))])
                      (keywords := [])
                      (pos := ⟨258, 18, 258, 43⟩)))
                    (body := [
                      (PySem.Stmt.Expr
                        (value := (PySem.Expr.Call
                          (func := (PySem.Expr.Attribute (PySem.Expr.Name "fields" ⟨259, 12, 259, 18⟩) "append" ⟨259, 12, 259, 25⟩))
                          (args := [
                            (PySem.Expr.Tuple
                              (elts := [
                                (PySem.Expr.BinOp
                                  (left := (PySem.Expr.Constant (PySem.Const.str "f") 0 ⟨259, 27, 259, 30⟩))
                                  (op := PySem.Operator.Add)
                                  (right := (PySem.Expr.Subscript
                                    (value := (PySem.Expr.Constant (PySem.Const.str "abcdefghijklmnopqrstuvwx") 0 ⟨259, 33, 259, 59⟩))
                                    (slice := (PySem.Expr.Name "many" ⟨259, 60, 259, 64⟩))
                                    (pos := ⟨259, 33, 259, 65⟩)))
                                  (pos := ⟨259, 27, 259, 65⟩)),
                                (PySem.Expr.Call
                                  (func := (PySem.Expr.Name "_law_pick" ⟨259, 67, 259, 76⟩))
                                  (args := [
                                    (PySem.Expr.Name "row" ⟨259, 77, 259, 80⟩),
                                    (PySem.Expr.BinOp
                                      (left := (PySem.Expr.List
                                        (elts := [
                                          (PySem.Expr.Constant (PySem.Const.str "num") 0 ⟨259, 83, 259, 88⟩),
                                          (PySem.Expr.Constant (PySem.Const.str "num") 0 ⟨259, 90, 259, 95⟩),
                                          (PySem.Expr.Constant (PySem.Const.str "top") 0 ⟨259, 97, 259, 102⟩)])
                                        (pos := ⟨259, 82, 259, 103⟩)))
                                      (op := PySem.Operator.Add)
                                      (right := (PySem.Expr.Name "names" ⟨259, 106, 259, 111⟩))
                                      (pos := ⟨259, 82, 259, 111⟩))])
                                  (keywords := [])
                                  (pos := ⟨259, 67, 259, 112⟩))])
                              (k := 0)
                              (pos := ⟨259, 26, 259, 113⟩))])
                          (keywords := [])
                          (pos := ⟨259, 12, 259, 114⟩)))
                        (pos := ⟨259, 12, 259, 114⟩)),
                      (PySem.Stmt.Assign
                        (targets := [(PySem.Expr.Name "many" ⟨260, 12, 260, 16⟩)])
                        (value := (PySem.Expr.BinOp
                          (left := (PySem.Expr.Name "many" ⟨260, 19, 260, 23⟩))
                          (op := PySem.Operator.Add)
                          (right := (PySem.Expr.Constant (PySem.Const.int 1) 0 ⟨260, 26, 260, 27⟩))
                          (pos := ⟨260, 19, 260, 27⟩)))
                        (pos := ⟨260, 12, 260, 27⟩))])
                    (orelse := [])
                    (pos := ⟨258, 8, 260, 27⟩)),
                  (PySem.Stmt.Assign
                    (targets := [(PySem.Expr.Name "methods" ⟨261, 8, 261, 15⟩)])
                    (value := (PySem.Expr.ListComp
                      (elt := (PySem.Expr.BinOp
                        (left := (PySem.Expr.Tuple [(PySem.Expr.Name "word" ⟨261, 20, 261, 24⟩)] 0 ⟨261, 19, 261, 26⟩))
                        (op := PySem.Operator.Add)
                        (right := (PySem.Expr.Subscript
                          (value := (PySem.Expr.Name "signs" ⟨261, 29, 261, 34⟩))
                          (slice := (PySem.Expr.Name "word" ⟨261, 35, 261, 39⟩))
                          (pos := ⟨261, 29, 261, 40⟩)))
                        (pos := ⟨261, 19, 261, 40⟩)))
                      (generators := [
                        {
                          target := (PySem.Expr.Name "word" ⟨261, 45, 261, 49⟩),
                          iter := (PySem.Expr.List
                            (elts := [
                              (PySem.Expr.Constant (PySem.Const.str "ma") 0 ⟨261, 54, 261, 58⟩),
                              (PySem.Expr.Constant (PySem.Const.str "mb") 0 ⟨261, 60, 261, 64⟩),
                              (PySem.Expr.Constant (PySem.Const.str "mc") 0 ⟨261, 66, 261, 70⟩)])
                            (pos := ⟨261, 53, 261, 71⟩)),
                          ifs := [
                            (PySem.Expr.Compare
                              (left := (PySem.Expr.Call
                                (func := (PySem.Expr.Name "_law_taken" ⟨261, 75, 261, 85⟩))
                                (args := [(PySem.Expr.Name "row" ⟨261, 86, 261, 89⟩), (PySem.Expr.Constant (PySem.Const.int 2) 0 ⟨261, 91, 261, 92⟩)])
                                (keywords := [])
                                (pos := ⟨261, 75, 261, 93⟩)))
                              (ops := [PySem.CmpOp.Eq])
                              (comparators := [(PySem.Expr.Constant (PySem.Const.int 0) 0 ⟨261, 97, 261, 98⟩)])
                              (pos := ⟨261, 75, 261, 98⟩))],
                          is_async := 0 : PySem.Comprehension }])
                      (scope := {
                        kind := PySem.ScopeKind.function,
                        names := [
                          (PySem.Str.ofString ".0", PySem.NameKind.local),
                          (PySem.Str.ofString "word", PySem.NameKind.local),
                          (PySem.Str.ofString "_law_taken", PySem.NameKind.globalImplicit),
                          (PySem.Str.ofString "row", PySem.NameKind.free),
                          (PySem.Str.ofString "signs", PySem.NameKind.free)],
                        isGenerator := false,
                        isCoroutine := false,
                        more := [] : PySem.Scope })
                      (pos := ⟨261, 18, 261, 99⟩)))
                    (pos := ⟨261, 8, 261, 99⟩)),
                  (PySem.Stmt.Expr
                    (value := (PySem.Expr.Call
                      (func := (PySem.Expr.Attribute (PySem.Expr.Name "found" ⟨262, 8, 262, 13⟩) "append" ⟨262, 8, 262, 20⟩))
                      (args := [
                        (PySem.Expr.Tuple
                          (elts := [
                            (PySem.Expr.Name "name" ⟨262, 22, 262, 26⟩),
                            (PySem.Expr.Name "upper" ⟨262, 28, 262, 33⟩),
                            (PySem.Expr.Call
                              (func := (PySem.Expr.Name "tuple" ⟨262, 35, 262, 40⟩))
                              (args := [(PySem.Expr.Name "fields" ⟨262, 41, 262, 47⟩)])
                              (keywords := [])
                              (pos := ⟨262, 35, 262, 48⟩)),
                            (PySem.Expr.Call
                              (func := (PySem.Expr.Name "tuple" ⟨262, 50, 262, 55⟩))
                              (args := [(PySem.Expr.Name "methods" ⟨262, 56, 262, 63⟩)])
                              (keywords := [])
                              (pos := ⟨262, 50, 262, 64⟩))])
                          (k := 0)
                          (pos := ⟨262, 21, 262, 65⟩))])
                      (keywords := [])
                      (pos := ⟨262, 8, 262, 66⟩)))
                    (pos := ⟨262, 8, 262, 66⟩))])
                (orelse := [])
                (pos := ⟨256, 4, 262, 66⟩)),
              (PySem.Stmt.Return (some (PySem.Expr.Name "found" ⟨263, 11, 263, 16⟩)) ⟨263, 4, 263, 16⟩)])
            (decorator_list := [])
            (returns := none)
            (type_params := [])
            (scope := {
              kind := PySem.ScopeKind.function,
              names := [
                (PySem.Str.ofString "row", PySem.NameKind.cell),
                (PySem.Str.ofString "most", PySem.NameKind.local),
                (PySem.Str.ofString "tree", PySem.NameKind.local),
                (PySem.Str.ofString "names", PySem.NameKind.local),
                (PySem.Str.ofString "found", PySem.NameKind.local),
                (PySem.Str.ofString "many", PySem.NameKind.local),
                (PySem.Str.ofString "signs", PySem.NameKind.cell),
                (PySem.Str.ofString "name", PySem.NameKind.local),
                (PySem.Str.ofString "upper", PySem.NameKind.local),
                (PySem.Str.ofString "fields", PySem.NameKind.local),
                (PySem.Str.ofString "at", PySem.NameKind.local),
                (PySem.Str.ofString "methods", PySem.NameKind.local),
                (PySem.Str.ofString "_law_tree", PySem.NameKind.globalImplicit),
                (PySem.Str.ofString "_law_taken", PySem.NameKind.globalImplicit),
                (PySem.Str.ofString "_law_signs", PySem.NameKind.globalImplicit),
                (PySem.Str.ofString "range", PySem.NameKind.globalImplicit),
                (PySem.Str.ofString "_law_pick", PySem.NameKind.globalImplicit),
                (PySem.Str.ofString "tuple", PySem.NameKind.globalImplicit)],
              isGenerator := false,
              isCoroutine := false,
              more := [
                (PySem.Str.ofString "fast", (PySem.Const.str "row")),
                (PySem.Str.ofString "fast", (PySem.Const.str "most")),
                (PySem.Str.ofString "fast", (PySem.Const.str "tree")),
                (PySem.Str.ofString "fast", (PySem.Const.str "told")),
                (PySem.Str.ofString "fast", (PySem.Const.str "names")),
                (PySem.Str.ofString "fast", (PySem.Const.str "found")),
                (PySem.Str.ofString "fast", (PySem.Const.str "many")),
                (PySem.Str.ofString "fast", (PySem.Const.str "signs")),
                (PySem.Str.ofString "fast", (PySem.Const.str "name")),
                (PySem.Str.ofString "fast", (PySem.Const.str "upper")),
                (PySem.Str.ofString "fast", (PySem.Const.str "fields")),
                (PySem.Str.ofString "fast", (PySem.Const.str "at")),
                (PySem.Str.ofString "fast", (PySem.Const.str "word")),
                (PySem.Str.ofString "fast", (PySem.Const.str "methods"))] : PySem.Scope })
            (tscope := none)
            (bind := "_law_bare")
            (pos := ⟨252, 0, 263, 16⟩))
def s__law_row_of : Stmt :=
  (PySem.Stmt.FunctionDef
            (name := "_law_row_of")
            (args := {
              posonlyargs := [],
              args := [
                { arg := "classes", annotation := none, pos := ⟨264, 16, 264, 23⟩ : PySem.Arg },
                { arg := "name", annotation := none, pos := ⟨264, 25, 264, 29⟩ : PySem.Arg }],
              vararg := none,
              kwonlyargs := [],
              kw_defaults := [],
              kwarg := none,
              defaults := [] : PySem.Arguments })
            (body := [
              (PySem.Stmt.Assign
                (targets := [(PySem.Expr.Name "found" ⟨265, 4, 265, 9⟩)])
                (value := (PySem.Expr.List [] ⟨265, 12, 265, 14⟩))
                (pos := ⟨265, 4, 265, 14⟩)),
              (PySem.Stmt.For
                (target := (PySem.Expr.Name "told" ⟨266, 8, 266, 12⟩))
                (iter := (PySem.Expr.Subscript
                  (value := (PySem.Expr.Name "classes" ⟨266, 16, 266, 23⟩))
                  (slice := (PySem.Expr.Slice
                    (lower := none)
                    (upper := none)
                    (step := (some
                      (PySem.Expr.UnaryOp
                        (op := PySem.UnaryOp.USub)
                        (operand := (PySem.Expr.Constant (PySem.Const.int 1) 0 ⟨266, 27, 266, 28⟩))
                        (pos := ⟨266, 26, 266, 28⟩))))
                    (pos := ⟨266, 24, 266, 28⟩)))
                  (pos := ⟨266, 16, 266, 29⟩)))
                (body := [
                  (PySem.Stmt.If
                    (test := (PySem.Expr.Compare
                      (left := (PySem.Expr.Subscript
                        (value := (PySem.Expr.Name "told" ⟨267, 11, 267, 15⟩))
                        (slice := (PySem.Expr.Constant (PySem.Const.int 0) 0 ⟨267, 16, 267, 17⟩))
                        (pos := ⟨267, 11, 267, 18⟩)))
                      (ops := [PySem.CmpOp.Eq])
                      (comparators := [(PySem.Expr.Name "name" ⟨267, 22, 267, 26⟩)])
                      (pos := ⟨267, 11, 267, 26⟩)))
                    (body := [
                      (PySem.Stmt.Expr
                        (value := (PySem.Expr.Call
                          (func := (PySem.Expr.Attribute (PySem.Expr.Name "found" ⟨268, 12, 268, 17⟩) "append" ⟨268, 12, 268, 24⟩))
                          (args := [(PySem.Expr.Name "told" ⟨268, 25, 268, 29⟩)])
                          (keywords := [])
                          (pos := ⟨268, 12, 268, 30⟩)))
                        (pos := ⟨268, 12, 268, 30⟩)),
                      (PySem.Stmt.Assign
                        (targets := [(PySem.Expr.Name "name" ⟨269, 12, 269, 16⟩)])
                        (value := (PySem.Expr.Subscript
                          (value := (PySem.Expr.Name "told" ⟨269, 19, 269, 23⟩))
                          (slice := (PySem.Expr.Constant (PySem.Const.int 1) 0 ⟨269, 24, 269, 25⟩))
                          (pos := ⟨269, 19, 269, 26⟩)))
                        (pos := ⟨269, 12, 269, 26⟩))])
                    (orelse := [])
                    (pos := ⟨267, 8, 269, 26⟩))])
                (orelse := [])
                (pos := ⟨266, 4, 269, 26⟩)),
              (PySem.Stmt.Return (some (PySem.Expr.Name "found" ⟨270, 11, 270, 16⟩)) ⟨270, 4, 270, 16⟩)])
            (decorator_list := [])
            (returns := none)
            (type_params := [])
            (scope := {
              kind := PySem.ScopeKind.function,
              names := [
                (PySem.Str.ofString "classes", PySem.NameKind.local),
                (PySem.Str.ofString "name", PySem.NameKind.local),
                (PySem.Str.ofString "found", PySem.NameKind.local),
                (PySem.Str.ofString "told", PySem.NameKind.local)],
              isGenerator := false,
              isCoroutine := false,
              more := [] : PySem.Scope })
            (tscope := none)
            (bind := "_law_row_of")
            (pos := ⟨264, 0, 270, 16⟩))
def s__law_step : Stmt :=
  (PySem.Stmt.FunctionDef
            (name := "_law_step")
            (args := {
              posonlyargs := [],
              args := [
                { arg := "row", annotation := none, pos := ⟨271, 14, 271, 17⟩ : PySem.Arg },
                { arg := "classes", annotation := none, pos := ⟨271, 19, 271, 26⟩ : PySem.Arg },
                { arg := "size", annotation := none, pos := ⟨271, 28, 271, 32⟩ : PySem.Arg }],
              vararg := none,
              kwonlyargs := [],
              kw_defaults := [],
              kwarg := none,
              defaults := [] : PySem.Arguments })
            (body := [
              (PySem.Stmt.Assign
                (targets := [
                  (PySem.Expr.Tuple
                    (elts := [(PySem.Expr.Name "names" ⟨272, 4, 272, 9⟩), (PySem.Expr.Name "way" ⟨272, 11, 272, 14⟩)])
                    (k := 0)
                    (pos := ⟨272, 4, 272, 14⟩))])
                (value := (PySem.Expr.Tuple
                  (elts := [
                    (PySem.Expr.BinOp
                      (left := (PySem.Expr.List [(PySem.Expr.Constant (PySem.Const.str "top") 0 ⟨272, 19, 272, 24⟩)] ⟨272, 18, 272, 25⟩))
                      (op := PySem.Operator.Add)
                      (right := (PySem.Expr.ListComp
                        (elt := (PySem.Expr.Subscript
                          (value := (PySem.Expr.Name "told" ⟨272, 29, 272, 33⟩))
                          (slice := (PySem.Expr.Constant (PySem.Const.int 0) 0 ⟨272, 34, 272, 35⟩))
                          (pos := ⟨272, 29, 272, 36⟩)))
                        (generators := [
                          {
                            target := (PySem.Expr.Name "told" ⟨272, 41, 272, 45⟩),
                            iter := (PySem.Expr.Name "classes" ⟨272, 49, 272, 56⟩),
                            ifs := [],
                            is_async := 0 : PySem.Comprehension }])
                        (scope := {
                          kind := PySem.ScopeKind.function,
                          names := [(PySem.Str.ofString ".0", PySem.NameKind.local), (PySem.Str.ofString "told", PySem.NameKind.local)],
                          isGenerator := false,
                          isCoroutine := false,
                          more := [] : PySem.Scope })
                        (pos := ⟨272, 28, 272, 57⟩)))
                      (pos := ⟨272, 18, 272, 57⟩)),
                    (PySem.Expr.Call
                      (func := (PySem.Expr.Name "_law_taken" ⟨272, 59, 272, 69⟩))
                      (args := [(PySem.Expr.Name "row" ⟨272, 70, 272, 73⟩), (PySem.Expr.Constant (PySem.Const.int 8) 0 ⟨272, 75, 272, 76⟩)])
                      (keywords := [])
                      (pos := ⟨272, 59, 272, 77⟩))])
                  (k := 0)
                  (pos := ⟨272, 17, 272, 78⟩)))
                (pos := ⟨272, 4, 272, 78⟩)),
              (PySem.Stmt.If
                (test := (PySem.Expr.Compare
                  (left := (PySem.Expr.Name "way" ⟨273, 7, 273, 10⟩))
                  (ops := [PySem.CmpOp.Lt])
                  (comparators := [(PySem.Expr.Constant (PySem.Const.int 2) 0 ⟨273, 13, 273, 14⟩)])
                  (pos := ⟨273, 7, 273, 14⟩)))
                (body := [
                  (PySem.Stmt.Assign
                    (targets := [(PySem.Expr.Name "words" ⟨274, 8, 274, 13⟩)])
                    (value := (PySem.Expr.List
                      (elts := [
                        (PySem.Expr.Constant (PySem.Const.str "none") 0 ⟨274, 17, 274, 23⟩),
                        (PySem.Expr.Constant (PySem.Const.str "add") 0 ⟨274, 25, 274, 30⟩),
                        (PySem.Expr.Constant (PySem.Const.str "less") 0 ⟨274, 32, 274, 38⟩),
                        (PySem.Expr.Constant (PySem.Const.str "same") 0 ⟨274, 40, 274, 46⟩),
                        (PySem.Expr.Constant (PySem.Const.str "give") 0 ⟨274, 48, 274, 54⟩),
                        (PySem.Expr.Constant (PySem.Const.str "throw") 0 ⟨274, 56, 274, 63⟩),
                        (PySem.Expr.Constant (PySem.Const.str "enter") 0 ⟨274, 65, 274, 72⟩),
                        (PySem.Expr.Constant (PySem.Const.str "leave") 0 ⟨274, 74, 274, 81⟩),
                        (PySem.Expr.Constant (PySem.Const.str "copy") 0 ⟨274, 83, 274, 89⟩),
                        (PySem.Expr.Constant (PySem.Const.str "drop") 0 ⟨274, 91, 274, 97⟩),
                        (PySem.Expr.Constant (PySem.Const.str "print") 0 ⟨274, 99, 274, 106⟩)])
                      (pos := ⟨274, 16, 274, 107⟩)))
                    (pos := ⟨274, 8, 274, 107⟩)),
                  (PySem.Stmt.Return
                    (value := (some
                      (PySem.Expr.Tuple
                        (elts := [
                          (PySem.Expr.Call
                            (func := (PySem.Expr.Name "_law_pick" ⟨275, 16, 275, 25⟩))
                            (args := [(PySem.Expr.Name "row" ⟨275, 26, 275, 29⟩), (PySem.Expr.Name "words" ⟨275, 31, 275, 36⟩)])
                            (keywords := [])
                            (pos := ⟨275, 16, 275, 37⟩))])
                        (k := 0)
                        (pos := ⟨275, 15, 275, 39⟩))))
                    (pos := ⟨275, 8, 275, 39⟩))])
                (orelse := [])
                (pos := ⟨273, 4, 275, 39⟩)),
              (PySem.Stmt.If
                (test := (PySem.Expr.Compare
                  (left := (PySem.Expr.Name "way" ⟨276, 7, 276, 10⟩))
                  (ops := [PySem.CmpOp.Eq])
                  (comparators := [(PySem.Expr.Constant (PySem.Const.int 2) 0 ⟨276, 14, 276, 15⟩)])
                  (pos := ⟨276, 7, 276, 15⟩)))
                (body := [
                  (PySem.Stmt.Return
                    (value := (some
                      (PySem.Expr.Tuple
                        (elts := [
                          (PySem.Expr.Constant (PySem.Const.str "push") 0 ⟨277, 16, 277, 22⟩),
                          (PySem.Expr.Call
                            (func := (PySem.Expr.Name "_law_taken" ⟨277, 24, 277, 34⟩))
                            (args := [(PySem.Expr.Name "row" ⟨277, 35, 277, 38⟩), (PySem.Expr.Constant (PySem.Const.int 16) 0 ⟨277, 40, 277, 42⟩)])
                            (keywords := [])
                            (pos := ⟨277, 24, 277, 43⟩))])
                        (k := 0)
                        (pos := ⟨277, 15, 277, 44⟩))))
                    (pos := ⟨277, 8, 277, 44⟩))])
                (orelse := [])
                (pos := ⟨276, 4, 277, 44⟩)),
              (PySem.Stmt.If
                (test := (PySem.Expr.Compare
                  (left := (PySem.Expr.Name "way" ⟨278, 7, 278, 10⟩))
                  (ops := [PySem.CmpOp.Eq])
                  (comparators := [(PySem.Expr.Constant (PySem.Const.int 3) 0 ⟨278, 14, 278, 15⟩)])
                  (pos := ⟨278, 7, 278, 15⟩)))
                (body := [
                  (PySem.Stmt.Return
                    (value := (some
                      (PySem.Expr.Tuple
                        (elts := [
                          (PySem.Expr.Call
                            (func := (PySem.Expr.Name "_law_pick" ⟨279, 16, 279, 25⟩))
                            (args := [
                              (PySem.Expr.Name "row" ⟨279, 26, 279, 29⟩),
                              (PySem.Expr.List
                                (elts := [
                                  (PySem.Expr.Constant (PySem.Const.str "take") 0 ⟨279, 32, 279, 38⟩),
                                  (PySem.Expr.Constant (PySem.Const.str "take") 0 ⟨279, 40, 279, 46⟩),
                                  (PySem.Expr.Constant (PySem.Const.str "keep") 0 ⟨279, 48, 279, 54⟩)])
                                (pos := ⟨279, 31, 279, 55⟩))])
                            (keywords := [])
                            (pos := ⟨279, 16, 279, 56⟩)),
                          (PySem.Expr.Call
                            (func := (PySem.Expr.Name "_law_taken" ⟨279, 58, 279, 68⟩))
                            (args := [(PySem.Expr.Name "row" ⟨279, 69, 279, 72⟩), (PySem.Expr.Constant (PySem.Const.int 4) 0 ⟨279, 74, 279, 75⟩)])
                            (keywords := [])
                            (pos := ⟨279, 58, 279, 76⟩))])
                        (k := 0)
                        (pos := ⟨279, 15, 279, 77⟩))))
                    (pos := ⟨279, 8, 279, 77⟩))])
                (orelse := [])
                (pos := ⟨278, 4, 279, 77⟩)),
              (PySem.Stmt.If
                (test := (PySem.Expr.Compare
                  (left := (PySem.Expr.Name "way" ⟨280, 7, 280, 10⟩))
                  (ops := [PySem.CmpOp.Eq])
                  (comparators := [(PySem.Expr.Constant (PySem.Const.int 4) 0 ⟨280, 14, 280, 15⟩)])
                  (pos := ⟨280, 7, 280, 15⟩)))
                (body := [
                  (PySem.Stmt.Return
                    (value := (some
                      (PySem.Expr.Tuple
                        (elts := [
                          (PySem.Expr.Call
                            (func := (PySem.Expr.Name "_law_pick" ⟨281, 16, 281, 25⟩))
                            (args := [
                              (PySem.Expr.Name "row" ⟨281, 26, 281, 29⟩),
                              (PySem.Expr.List
                                (elts := [
                                  (PySem.Expr.Constant (PySem.Const.str "go") 0 ⟨281, 32, 281, 36⟩),
                                  (PySem.Expr.Constant (PySem.Const.str "if") 0 ⟨281, 38, 281, 42⟩),
                                  (PySem.Expr.Constant (PySem.Const.str "if") 0 ⟨281, 44, 281, 48⟩)])
                                (pos := ⟨281, 31, 281, 49⟩))])
                            (keywords := [])
                            (pos := ⟨281, 16, 281, 50⟩)),
                          (PySem.Expr.Call
                            (func := (PySem.Expr.Name "_law_taken" ⟨281, 52, 281, 62⟩))
                            (args := [(PySem.Expr.Name "row" ⟨281, 63, 281, 66⟩), (PySem.Expr.Name "size" ⟨281, 68, 281, 72⟩)])
                            (keywords := [])
                            (pos := ⟨281, 52, 281, 73⟩))])
                        (k := 0)
                        (pos := ⟨281, 15, 281, 74⟩))))
                    (pos := ⟨281, 8, 281, 74⟩))])
                (orelse := [])
                (pos := ⟨280, 4, 281, 74⟩)),
              (PySem.Stmt.If
                (test := (PySem.Expr.Compare
                  (left := (PySem.Expr.Name "way" ⟨282, 7, 282, 10⟩))
                  (ops := [PySem.CmpOp.Eq])
                  (comparators := [(PySem.Expr.Constant (PySem.Const.int 5) 0 ⟨282, 14, 282, 15⟩)])
                  (pos := ⟨282, 7, 282, 15⟩)))
                (body := [
                  (PySem.Stmt.Return
                    (value := (some
                      (PySem.Expr.Tuple
                        (elts := [
                          (PySem.Expr.Call
                            (func := (PySem.Expr.Name "_law_pick" ⟨283, 16, 283, 25⟩))
                            (args := [
                              (PySem.Expr.Name "row" ⟨283, 26, 283, 29⟩),
                              (PySem.Expr.List
                                (elts := [
                                  (PySem.Expr.Constant (PySem.Const.str "new") 0 ⟨283, 32, 283, 37⟩),
                                  (PySem.Expr.Constant (PySem.Const.str "new") 0 ⟨283, 39, 283, 44⟩),
                                  (PySem.Expr.Constant (PySem.Const.str "cast") 0 ⟨283, 46, 283, 52⟩),
                                  (PySem.Expr.Constant (PySem.Const.str "is") 0 ⟨283, 54, 283, 58⟩)])
                                (pos := ⟨283, 31, 283, 59⟩))])
                            (keywords := [])
                            (pos := ⟨283, 16, 283, 60⟩)),
                          (PySem.Expr.Call
                            (func := (PySem.Expr.Name "_law_pick" ⟨283, 62, 283, 71⟩))
                            (args := [(PySem.Expr.Name "row" ⟨283, 72, 283, 75⟩), (PySem.Expr.Name "names" ⟨283, 77, 283, 82⟩)])
                            (keywords := [])
                            (pos := ⟨283, 62, 283, 83⟩))])
                        (k := 0)
                        (pos := ⟨283, 15, 283, 84⟩))))
                    (pos := ⟨283, 8, 283, 84⟩))])
                (orelse := [])
                (pos := ⟨282, 4, 283, 84⟩)),
              (PySem.Stmt.Assign
                (targets := [(PySem.Expr.Name "name" ⟨284, 4, 284, 8⟩)])
                (value := (PySem.Expr.Call
                  (func := (PySem.Expr.Name "_law_pick" ⟨284, 11, 284, 20⟩))
                  (args := [(PySem.Expr.Name "row" ⟨284, 21, 284, 24⟩), (PySem.Expr.Name "names" ⟨284, 26, 284, 31⟩)])
                  (keywords := [])
                  (pos := ⟨284, 11, 284, 32⟩)))
                (pos := ⟨284, 4, 284, 32⟩)),
              (PySem.Stmt.Assign
                (targets := [
                  (PySem.Expr.Tuple
                    (elts := [(PySem.Expr.Name "fields" ⟨285, 4, 285, 10⟩), (PySem.Expr.Name "words" ⟨285, 12, 285, 17⟩)])
                    (k := 0)
                    (pos := ⟨285, 4, 285, 17⟩))])
                (value := (PySem.Expr.Tuple
                  (elts := [(PySem.Expr.List [] ⟨285, 21, 285, 23⟩), (PySem.Expr.List [] ⟨285, 25, 285, 27⟩)])
                  (k := 0)
                  (pos := ⟨285, 20, 285, 28⟩)))
                (pos := ⟨285, 4, 285, 28⟩)),
              (PySem.Stmt.For
                (target := (PySem.Expr.Name "told" ⟨286, 8, 286, 12⟩))
                (iter := (PySem.Expr.Call
                  (func := (PySem.Expr.Name "_law_row_of" ⟨286, 16, 286, 27⟩))
                  (args := [(PySem.Expr.Name "classes" ⟨286, 28, 286, 35⟩), (PySem.Expr.Name "name" ⟨286, 37, 286, 41⟩)])
                  (keywords := [])
                  (pos := ⟨286, 16, 286, 42⟩)))
                (body := [
                  (PySem.Stmt.Assign
                    (targets := [
                      (PySem.Expr.Tuple
                        (elts := [(PySem.Expr.Name "fields" ⟨287, 8, 287, 14⟩), (PySem.Expr.Name "words" ⟨287, 16, 287, 21⟩)])
                        (k := 0)
                        (pos := ⟨287, 8, 287, 21⟩))])
                    (value := (PySem.Expr.Tuple
                      (elts := [
                        (PySem.Expr.BinOp
                          (left := (PySem.Expr.Name "fields" ⟨287, 25, 287, 31⟩))
                          (op := PySem.Operator.Add)
                          (right := (PySem.Expr.ListComp
                            (elt := (PySem.Expr.Subscript
                              (value := (PySem.Expr.Name "field" ⟨287, 35, 287, 40⟩))
                              (slice := (PySem.Expr.Constant (PySem.Const.int 0) 0 ⟨287, 41, 287, 42⟩))
                              (pos := ⟨287, 35, 287, 43⟩)))
                            (generators := [
                              {
                                target := (PySem.Expr.Name "field" ⟨287, 48, 287, 53⟩),
                                iter := (PySem.Expr.Subscript
                                  (value := (PySem.Expr.Name "told" ⟨287, 57, 287, 61⟩))
                                  (slice := (PySem.Expr.Constant (PySem.Const.int 2) 0 ⟨287, 62, 287, 63⟩))
                                  (pos := ⟨287, 57, 287, 64⟩)),
                                ifs := [],
                                is_async := 0 : PySem.Comprehension }])
                            (scope := {
                              kind := PySem.ScopeKind.function,
                              names := [(PySem.Str.ofString ".0", PySem.NameKind.local), (PySem.Str.ofString "field", PySem.NameKind.local)],
                              isGenerator := false,
                              isCoroutine := false,
                              more := [] : PySem.Scope })
                            (pos := ⟨287, 34, 287, 65⟩)))
                          (pos := ⟨287, 25, 287, 65⟩)),
                        (PySem.Expr.BinOp
                          (left := (PySem.Expr.Name "words" ⟨287, 67, 287, 72⟩))
                          (op := PySem.Operator.Add)
                          (right := (PySem.Expr.ListComp
                            (elt := (PySem.Expr.Subscript
                              (value := (PySem.Expr.Name "method" ⟨287, 76, 287, 82⟩))
                              (slice := (PySem.Expr.Constant (PySem.Const.int 0) 0 ⟨287, 83, 287, 84⟩))
                              (pos := ⟨287, 76, 287, 85⟩)))
                            (generators := [
                              {
                                target := (PySem.Expr.Name "method" ⟨287, 90, 287, 96⟩),
                                iter := (PySem.Expr.Subscript
                                  (value := (PySem.Expr.Name "told" ⟨287, 100, 287, 104⟩))
                                  (slice := (PySem.Expr.Constant (PySem.Const.int 3) 0 ⟨287, 105, 287, 106⟩))
                                  (pos := ⟨287, 100, 287, 107⟩)),
                                ifs := [],
                                is_async := 0 : PySem.Comprehension }])
                            (scope := {
                              kind := PySem.ScopeKind.function,
                              names := [(PySem.Str.ofString ".0", PySem.NameKind.local), (PySem.Str.ofString "method", PySem.NameKind.local)],
                              isGenerator := false,
                              isCoroutine := false,
                              more := [] : PySem.Scope })
                            (pos := ⟨287, 75, 287, 108⟩)))
                          (pos := ⟨287, 67, 287, 108⟩))])
                      (k := 0)
                      (pos := ⟨287, 24, 287, 109⟩)))
                    (pos := ⟨287, 8, 287, 109⟩))])
                (orelse := [])
                (pos := ⟨286, 4, 287, 109⟩)),
              (PySem.Stmt.Assign
                (targets := [(PySem.Expr.Name "some" ⟨288, 4, 288, 8⟩)])
                (value := (PySem.Expr.BinOp
                  (left := (PySem.Expr.ListComp
                    (elt := (PySem.Expr.Tuple
                      (elts := [
                        (PySem.Expr.Constant (PySem.Const.str "get") 0 ⟨288, 13, 288, 18⟩),
                        (PySem.Expr.Name "name" ⟨288, 20, 288, 24⟩),
                        (PySem.Expr.Name "field" ⟨288, 26, 288, 31⟩)])
                      (k := 0)
                      (pos := ⟨288, 12, 288, 32⟩)))
                    (generators := [
                      {
                        target := (PySem.Expr.Name "field" ⟨288, 37, 288, 42⟩),
                        iter := (PySem.Expr.Name "fields" ⟨288, 46, 288, 52⟩),
                        ifs := [],
                        is_async := 0 : PySem.Comprehension }])
                    (scope := {
                      kind := PySem.ScopeKind.function,
                      names := [
                        (PySem.Str.ofString ".0", PySem.NameKind.local),
                        (PySem.Str.ofString "field", PySem.NameKind.local),
                        (PySem.Str.ofString "name", PySem.NameKind.free)],
                      isGenerator := false,
                      isCoroutine := false,
                      more := [] : PySem.Scope })
                    (pos := ⟨288, 11, 288, 53⟩)))
                  (op := PySem.Operator.Add)
                  (right := (PySem.Expr.ListComp
                    (elt := (PySem.Expr.Tuple
                      (elts := [
                        (PySem.Expr.Constant (PySem.Const.str "put") 0 ⟨288, 58, 288, 63⟩),
                        (PySem.Expr.Name "name" ⟨288, 65, 288, 69⟩),
                        (PySem.Expr.Name "field" ⟨288, 71, 288, 76⟩)])
                      (k := 0)
                      (pos := ⟨288, 57, 288, 77⟩)))
                    (generators := [
                      {
                        target := (PySem.Expr.Name "field" ⟨288, 82, 288, 87⟩),
                        iter := (PySem.Expr.Name "fields" ⟨288, 91, 288, 97⟩),
                        ifs := [],
                        is_async := 0 : PySem.Comprehension }])
                    (scope := {
                      kind := PySem.ScopeKind.function,
                      names := [
                        (PySem.Str.ofString ".0", PySem.NameKind.local),
                        (PySem.Str.ofString "field", PySem.NameKind.local),
                        (PySem.Str.ofString "name", PySem.NameKind.free)],
                      isGenerator := false,
                      isCoroutine := false,
                      more := [] : PySem.Scope })
                    (pos := ⟨288, 56, 288, 98⟩)))
                  (pos := ⟨288, 11, 288, 98⟩)))
                (pos := ⟨288, 4, 288, 98⟩)),
              (PySem.Stmt.Assign
                (targets := [(PySem.Expr.Name "some" ⟨289, 4, 289, 8⟩)])
                (value := (PySem.Expr.BinOp
                  (left := (PySem.Expr.Name "some" ⟨289, 11, 289, 15⟩))
                  (op := PySem.Operator.Add)
                  (right := (PySem.Expr.ListComp
                    (elt := (PySem.Expr.Tuple
                      (elts := [
                        (PySem.Expr.Constant (PySem.Const.str "call") 0 ⟨289, 20, 289, 26⟩),
                        (PySem.Expr.Name "name" ⟨289, 28, 289, 32⟩),
                        (PySem.Expr.Name "word" ⟨289, 34, 289, 38⟩)])
                      (k := 0)
                      (pos := ⟨289, 19, 289, 39⟩)))
                    (generators := [
                      {
                        target := (PySem.Expr.Name "word" ⟨289, 44, 289, 48⟩),
                        iter := (PySem.Expr.Name "words" ⟨289, 52, 289, 57⟩),
                        ifs := [],
                        is_async := 0 : PySem.Comprehension }])
                    (scope := {
                      kind := PySem.ScopeKind.function,
                      names := [
                        (PySem.Str.ofString ".0", PySem.NameKind.local),
                        (PySem.Str.ofString "word", PySem.NameKind.local),
                        (PySem.Str.ofString "name", PySem.NameKind.free)],
                      isGenerator := false,
                      isCoroutine := false,
                      more := [] : PySem.Scope })
                    (pos := ⟨289, 18, 289, 58⟩)))
                  (pos := ⟨289, 11, 289, 58⟩)))
                (pos := ⟨289, 4, 289, 58⟩)),
              (PySem.Stmt.Return
                (value := (some
                  (PySem.Expr.IfExp
                    (test := (PySem.Expr.Compare
                      (left := (PySem.Expr.Name "some" ⟨290, 35, 290, 39⟩))
                      (ops := [PySem.CmpOp.NotEq])
                      (comparators := [(PySem.Expr.List [] ⟨290, 43, 290, 45⟩)])
                      (pos := ⟨290, 35, 290, 45⟩)))
                    (body := (PySem.Expr.Call
                      (func := (PySem.Expr.Name "_law_pick" ⟨290, 11, 290, 20⟩))
                      (args := [(PySem.Expr.Name "row" ⟨290, 21, 290, 24⟩), (PySem.Expr.Name "some" ⟨290, 26, 290, 30⟩)])
                      (keywords := [])
                      (pos := ⟨290, 11, 290, 31⟩)))
                    (orelse := (PySem.Expr.Tuple
                      (elts := [
                        (PySem.Expr.Constant (PySem.Const.str "push") 0 ⟨290, 52, 290, 58⟩),
                        (PySem.Expr.Call
                          (func := (PySem.Expr.Name "_law_taken" ⟨290, 60, 290, 70⟩))
                          (args := [(PySem.Expr.Name "row" ⟨290, 71, 290, 74⟩), (PySem.Expr.Constant (PySem.Const.int 3) 0 ⟨290, 76, 290, 77⟩)])
                          (keywords := [])
                          (pos := ⟨290, 60, 290, 78⟩))])
                      (k := 0)
                      (pos := ⟨290, 51, 290, 79⟩)))
                    (pos := ⟨290, 11, 290, 79⟩))))
                (pos := ⟨290, 4, 290, 79⟩))])
            (decorator_list := [])
            (returns := none)
            (type_params := [])
            (scope := {
              kind := PySem.ScopeKind.function,
              names := [
                (PySem.Str.ofString "row", PySem.NameKind.local),
                (PySem.Str.ofString "classes", PySem.NameKind.local),
                (PySem.Str.ofString "size", PySem.NameKind.local),
                (PySem.Str.ofString "told", PySem.NameKind.local),
                (PySem.Str.ofString "names", PySem.NameKind.local),
                (PySem.Str.ofString "way", PySem.NameKind.local),
                (PySem.Str.ofString "words", PySem.NameKind.local),
                (PySem.Str.ofString "name", PySem.NameKind.cell),
                (PySem.Str.ofString "fields", PySem.NameKind.local),
                (PySem.Str.ofString "some", PySem.NameKind.local),
                (PySem.Str.ofString "_law_taken", PySem.NameKind.globalImplicit),
                (PySem.Str.ofString "_law_pick", PySem.NameKind.globalImplicit),
                (PySem.Str.ofString "_law_row_of", PySem.NameKind.globalImplicit)],
              isGenerator := false,
              isCoroutine := false,
              more := [
                (PySem.Str.ofString "fast", (PySem.Const.str "row")),
                (PySem.Str.ofString "fast", (PySem.Const.str "classes")),
                (PySem.Str.ofString "fast", (PySem.Const.str "size")),
                (PySem.Str.ofString "fast", (PySem.Const.str "told")),
                (PySem.Str.ofString "fast", (PySem.Const.str "names")),
                (PySem.Str.ofString "fast", (PySem.Const.str "way")),
                (PySem.Str.ofString "fast", (PySem.Const.str "words")),
                (PySem.Str.ofString "fast", (PySem.Const.str "name")),
                (PySem.Str.ofString "fast", (PySem.Const.str "fields")),
                (PySem.Str.ofString "fast", (PySem.Const.str "field")),
                (PySem.Str.ofString "fast", (PySem.Const.str "method")),
                (PySem.Str.ofString "fast", (PySem.Const.str "some")),
                (PySem.Str.ofString "fast", (PySem.Const.str "word"))] : PySem.Scope })
            (tscope := none)
            (bind := "_law_step")
            (pos := ⟨271, 0, 290, 79⟩))
def s__law_code : Stmt :=
  (PySem.Stmt.FunctionDef
            (name := "_law_code")
            (args := {
              posonlyargs := [],
              args := [
                { arg := "row", annotation := none, pos := ⟨291, 14, 291, 17⟩ : PySem.Arg },
                { arg := "classes", annotation := none, pos := ⟨291, 19, 291, 26⟩ : PySem.Arg },
                { arg := "most", annotation := none, pos := ⟨291, 28, 291, 32⟩ : PySem.Arg }],
              vararg := none,
              kwonlyargs := [],
              kw_defaults := [],
              kwarg := none,
              defaults := [] : PySem.Arguments })
            (body := [
              (PySem.Stmt.Assign
                (targets := [(PySem.Expr.Name "size" ⟨292, 4, 292, 8⟩)])
                (value := (PySem.Expr.BinOp
                  (left := (PySem.Expr.Constant (PySem.Const.int 1) 0 ⟨292, 11, 292, 12⟩))
                  (op := PySem.Operator.Add)
                  (right := (PySem.Expr.Call
                    (func := (PySem.Expr.Name "_law_taken" ⟨292, 15, 292, 25⟩))
                    (args := [(PySem.Expr.Name "row" ⟨292, 26, 292, 29⟩), (PySem.Expr.Name "most" ⟨292, 31, 292, 35⟩)])
                    (keywords := [])
                    (pos := ⟨292, 15, 292, 36⟩)))
                  (pos := ⟨292, 11, 292, 36⟩)))
                (pos := ⟨292, 4, 292, 36⟩)),
              (PySem.Stmt.Assign
                (targets := [(PySem.Expr.Name "found" ⟨293, 4, 293, 9⟩)])
                (value := (PySem.Expr.ListComp
                  (elt := (PySem.Expr.Call
                    (func := (PySem.Expr.Name "_law_step" ⟨293, 13, 293, 22⟩))
                    (args := [
                      (PySem.Expr.Name "row" ⟨293, 23, 293, 26⟩),
                      (PySem.Expr.Name "classes" ⟨293, 28, 293, 35⟩),
                      (PySem.Expr.Name "size" ⟨293, 37, 293, 41⟩)])
                    (keywords := [])
                    (pos := ⟨293, 13, 293, 42⟩)))
                  (generators := [
                    {
                      target := (PySem.Expr.Name "at" ⟨293, 47, 293, 49⟩),
                      iter := (PySem.Expr.Call
                        (func := (PySem.Expr.Name "range" ⟨293, 53, 293, 58⟩))
                        (args := [
                          (PySem.Expr.BinOp
                            (left := (PySem.Expr.Name "size" ⟨293, 59, 293, 63⟩))
                            (op := PySem.Operator.Sub)
                            (right := (PySem.Expr.Constant (PySem.Const.int 1) 0 ⟨293, 66, 293, 67⟩))
                            (pos := ⟨293, 59, 293, 67⟩))])
                        (keywords := [])
                        (pos := ⟨293, 53, 293, 68⟩)),
                      ifs := [],
                      is_async := 0 : PySem.Comprehension }])
                  (scope := {
                    kind := PySem.ScopeKind.function,
                    names := [
                      (PySem.Str.ofString ".0", PySem.NameKind.local),
                      (PySem.Str.ofString "at", PySem.NameKind.local),
                      (PySem.Str.ofString "_law_step", PySem.NameKind.globalImplicit),
                      (PySem.Str.ofString "classes", PySem.NameKind.free),
                      (PySem.Str.ofString "row", PySem.NameKind.free),
                      (PySem.Str.ofString "size", PySem.NameKind.free)],
                    isGenerator := false,
                    isCoroutine := false,
                    more := [] : PySem.Scope })
                  (pos := ⟨293, 12, 293, 69⟩)))
                (pos := ⟨293, 4, 293, 69⟩)),
              (PySem.Stmt.Return
                (value := (some
                  (PySem.Expr.Call
                    (func := (PySem.Expr.Name "tuple" ⟨294, 11, 294, 16⟩))
                    (args := [
                      (PySem.Expr.BinOp
                        (left := (PySem.Expr.Name "found" ⟨294, 17, 294, 22⟩))
                        (op := PySem.Operator.Add)
                        (right := (PySem.Expr.List
                          (elts := [
                            (PySem.Expr.Call
                              (func := (PySem.Expr.Name "_law_pick" ⟨294, 26, 294, 35⟩))
                              (args := [
                                (PySem.Expr.Name "row" ⟨294, 36, 294, 39⟩),
                                (PySem.Expr.List
                                  (elts := [
                                    (PySem.Expr.Tuple [(PySem.Expr.Constant (PySem.Const.str "give") 0 ⟨294, 43, 294, 49⟩)] 0 ⟨294, 42, 294, 51⟩),
                                    (PySem.Expr.Tuple [(PySem.Expr.Constant (PySem.Const.str "give") 0 ⟨294, 54, 294, 60⟩)] 0 ⟨294, 53, 294, 62⟩),
                                    (PySem.Expr.Tuple [(PySem.Expr.Constant (PySem.Const.str "throw") 0 ⟨294, 65, 294, 72⟩)] 0 ⟨294, 64, 294, 74⟩),
                                    (PySem.Expr.Tuple
                                      (elts := [
                                        (PySem.Expr.Constant (PySem.Const.str "go") 0 ⟨294, 77, 294, 81⟩),
                                        (PySem.Expr.Call
                                          (func := (PySem.Expr.Name "_law_taken" ⟨294, 83, 294, 93⟩))
                                          (args := [(PySem.Expr.Name "row" ⟨294, 94, 294, 97⟩), (PySem.Expr.Name "size" ⟨294, 99, 294, 103⟩)])
                                          (keywords := [])
                                          (pos := ⟨294, 83, 294, 104⟩))])
                                      (k := 0)
                                      (pos := ⟨294, 76, 294, 105⟩))])
                                  (pos := ⟨294, 41, 294, 106⟩))])
                              (keywords := [])
                              (pos := ⟨294, 26, 294, 107⟩))])
                          (pos := ⟨294, 25, 294, 108⟩)))
                        (pos := ⟨294, 17, 294, 108⟩))])
                    (keywords := [])
                    (pos := ⟨294, 11, 294, 109⟩))))
                (pos := ⟨294, 4, 294, 109⟩))])
            (decorator_list := [])
            (returns := none)
            (type_params := [])
            (scope := {
              kind := PySem.ScopeKind.function,
              names := [
                (PySem.Str.ofString "row", PySem.NameKind.cell),
                (PySem.Str.ofString "classes", PySem.NameKind.cell),
                (PySem.Str.ofString "most", PySem.NameKind.local),
                (PySem.Str.ofString "size", PySem.NameKind.cell),
                (PySem.Str.ofString "found", PySem.NameKind.local),
                (PySem.Str.ofString "_law_taken", PySem.NameKind.globalImplicit),
                (PySem.Str.ofString "range", PySem.NameKind.globalImplicit),
                (PySem.Str.ofString "tuple", PySem.NameKind.globalImplicit),
                (PySem.Str.ofString "_law_pick", PySem.NameKind.globalImplicit)],
              isGenerator := false,
              isCoroutine := false,
              more := [
                (PySem.Str.ofString "fast", (PySem.Const.str "row")),
                (PySem.Str.ofString "fast", (PySem.Const.str "classes")),
                (PySem.Str.ofString "fast", (PySem.Const.str "most")),
                (PySem.Str.ofString "fast", (PySem.Const.str "size")),
                (PySem.Str.ofString "fast", (PySem.Const.str "at")),
                (PySem.Str.ofString "fast", (PySem.Const.str "found"))] : PySem.Scope })
            (tscope := none)
            (bind := "_law_code")
            (pos := ⟨291, 0, 294, 109⟩))
def s__law_handlers : Stmt :=
  (PySem.Stmt.FunctionDef
            (name := "_law_handlers")
            (args := {
              posonlyargs := [],
              args := [
                { arg := "row", annotation := none, pos := ⟨295, 18, 295, 21⟩ : PySem.Arg },
                { arg := "names", annotation := none, pos := ⟨295, 23, 295, 28⟩ : PySem.Arg },
                { arg := "size", annotation := none, pos := ⟨295, 30, 295, 34⟩ : PySem.Arg }],
              vararg := none,
              kwonlyargs := [],
              kw_defaults := [],
              kwarg := none,
              defaults := [] : PySem.Arguments })
            (body := [
              (PySem.Stmt.Assign
                (targets := [(PySem.Expr.Name "found" ⟨296, 4, 296, 9⟩)])
                (value := (PySem.Expr.List [] ⟨296, 12, 296, 14⟩))
                (pos := ⟨296, 4, 296, 14⟩)),
              (PySem.Stmt.For
                (target := (PySem.Expr.Name "at" ⟨297, 8, 297, 10⟩))
                (iter := (PySem.Expr.Call
                  (func := (PySem.Expr.Name "range" ⟨297, 14, 297, 19⟩))
                  (args := [
                    (PySem.Expr.Call
                      (func := (PySem.Expr.Name "_law_pick" ⟨297, 20, 297, 29⟩))
                      (args := [
                        (PySem.Expr.Name "row" ⟨297, 30, 297, 33⟩),
                        (PySem.Expr.List
                          (elts := [
                            (PySem.Expr.Constant (PySem.Const.int 0) 0 ⟨297, 36, 297, 37⟩),
                            (PySem.Expr.Constant (PySem.Const.int 0) 0 ⟨297, 39, 297, 40⟩),
                            (PySem.Expr.Constant (PySem.Const.int 1) 0 ⟨297, 42, 297, 43⟩),
                            (PySem.Expr.Constant (PySem.Const.int 2) 0 ⟨297, 45, 297, 46⟩)])
                          (pos := ⟨297, 35, 297, 47⟩))])
                      (keywords := [])
                      (pos := ⟨297, 20, 297, 48⟩))])
                  (keywords := [])
                  (pos := ⟨297, 14, 297, 49⟩)))
                (body := [
                  (PySem.Stmt.Assign
                    (targets := [(PySem.Expr.Name "begin" ⟨298, 8, 298, 13⟩)])
                    (value := (PySem.Expr.Call
                      (func := (PySem.Expr.Name "_law_taken" ⟨298, 16, 298, 26⟩))
                      (args := [(PySem.Expr.Name "row" ⟨298, 27, 298, 30⟩), (PySem.Expr.Name "size" ⟨298, 32, 298, 36⟩)])
                      (keywords := [])
                      (pos := ⟨298, 16, 298, 37⟩)))
                    (pos := ⟨298, 8, 298, 37⟩)),
                  (PySem.Stmt.Assign
                    (targets := [(PySem.Expr.Name "end" ⟨299, 8, 299, 11⟩)])
                    (value := (PySem.Expr.BinOp
                      (left := (PySem.Expr.BinOp
                        (left := (PySem.Expr.Name "begin" ⟨299, 14, 299, 19⟩))
                        (op := PySem.Operator.Add)
                        (right := (PySem.Expr.Constant (PySem.Const.int 1) 0 ⟨299, 22, 299, 23⟩))
                        (pos := ⟨299, 14, 299, 23⟩)))
                      (op := PySem.Operator.Add)
                      (right := (PySem.Expr.Call
                        (func := (PySem.Expr.Name "_law_taken" ⟨299, 26, 299, 36⟩))
                        (args := [
                          (PySem.Expr.Name "row" ⟨299, 37, 299, 40⟩),
                          (PySem.Expr.BinOp
                            (left := (PySem.Expr.Name "size" ⟨299, 42, 299, 46⟩))
                            (op := PySem.Operator.Sub)
                            (right := (PySem.Expr.Name "begin" ⟨299, 49, 299, 54⟩))
                            (pos := ⟨299, 42, 299, 54⟩))])
                        (keywords := [])
                        (pos := ⟨299, 26, 299, 55⟩)))
                      (pos := ⟨299, 14, 299, 55⟩)))
                    (pos := ⟨299, 8, 299, 55⟩)),
                  (PySem.Stmt.Expr
                    (value := (PySem.Expr.Call
                      (func := (PySem.Expr.Attribute (PySem.Expr.Name "found" ⟨300, 8, 300, 13⟩) "append" ⟨300, 8, 300, 20⟩))
                      (args := [
                        (PySem.Expr.Tuple
                          (elts := [
                            (PySem.Expr.Name "begin" ⟨300, 22, 300, 27⟩),
                            (PySem.Expr.Name "end" ⟨300, 29, 300, 32⟩),
                            (PySem.Expr.Call
                              (func := (PySem.Expr.Name "_law_pick" ⟨300, 34, 300, 43⟩))
                              (args := [
                                (PySem.Expr.Name "row" ⟨300, 44, 300, 47⟩),
                                (PySem.Expr.BinOp
                                  (left := (PySem.Expr.List
                                    (elts := [
                                      (PySem.Expr.Constant (PySem.Const.str "top") 0 ⟨300, 50, 300, 55⟩),
                                      (PySem.Expr.Constant (PySem.Const.str "top") 0 ⟨300, 57, 300, 62⟩)])
                                    (pos := ⟨300, 49, 300, 63⟩)))
                                  (op := PySem.Operator.Add)
                                  (right := (PySem.Expr.Name "names" ⟨300, 66, 300, 71⟩))
                                  (pos := ⟨300, 49, 300, 71⟩))])
                              (keywords := [])
                              (pos := ⟨300, 34, 300, 72⟩)),
                            (PySem.Expr.Call
                              (func := (PySem.Expr.Name "_law_taken" ⟨300, 74, 300, 84⟩))
                              (args := [(PySem.Expr.Name "row" ⟨300, 85, 300, 88⟩), (PySem.Expr.Name "size" ⟨300, 90, 300, 94⟩)])
                              (keywords := [])
                              (pos := ⟨300, 74, 300, 95⟩))])
                          (k := 0)
                          (pos := ⟨300, 21, 300, 96⟩))])
                      (keywords := [])
                      (pos := ⟨300, 8, 300, 97⟩)))
                    (pos := ⟨300, 8, 300, 97⟩))])
                (orelse := [])
                (pos := ⟨297, 4, 300, 97⟩)),
              (PySem.Stmt.Return
                (value := (some
                  (PySem.Expr.Call
                    (func := (PySem.Expr.Name "tuple" ⟨301, 11, 301, 16⟩))
                    (args := [(PySem.Expr.Name "found" ⟨301, 17, 301, 22⟩)])
                    (keywords := [])
                    (pos := ⟨301, 11, 301, 23⟩))))
                (pos := ⟨301, 4, 301, 23⟩))])
            (decorator_list := [])
            (returns := none)
            (type_params := [])
            (scope := {
              kind := PySem.ScopeKind.function,
              names := [
                (PySem.Str.ofString "row", PySem.NameKind.local),
                (PySem.Str.ofString "names", PySem.NameKind.local),
                (PySem.Str.ofString "size", PySem.NameKind.local),
                (PySem.Str.ofString "found", PySem.NameKind.local),
                (PySem.Str.ofString "at", PySem.NameKind.local),
                (PySem.Str.ofString "begin", PySem.NameKind.local),
                (PySem.Str.ofString "end", PySem.NameKind.local),
                (PySem.Str.ofString "range", PySem.NameKind.globalImplicit),
                (PySem.Str.ofString "_law_pick", PySem.NameKind.globalImplicit),
                (PySem.Str.ofString "_law_taken", PySem.NameKind.globalImplicit),
                (PySem.Str.ofString "tuple", PySem.NameKind.globalImplicit)],
              isGenerator := false,
              isCoroutine := false,
              more := [] : PySem.Scope })
            (tscope := none)
            (bind := "_law_handlers")
            (pos := ⟨295, 0, 301, 23⟩))
def s__law_classes : Stmt :=
  (PySem.Stmt.FunctionDef
            (name := "_law_classes")
            (args := {
              posonlyargs := [],
              args := [
                { arg := "row", annotation := none, pos := ⟨302, 17, 302, 20⟩ : PySem.Arg },
                { arg := "most", annotation := none, pos := ⟨302, 22, 302, 26⟩ : PySem.Arg },
                { arg := "steps", annotation := none, pos := ⟨302, 28, 302, 33⟩ : PySem.Arg }],
              vararg := none,
              kwonlyargs := [],
              kw_defaults := [],
              kwarg := none,
              defaults := [] : PySem.Arguments })
            (body := [
              (PySem.Stmt.Assign
                (targets := [
                  (PySem.Expr.Tuple
                    (elts := [(PySem.Expr.Name "bare" ⟨303, 4, 303, 8⟩), (PySem.Expr.Name "found" ⟨303, 10, 303, 15⟩)])
                    (k := 0)
                    (pos := ⟨303, 4, 303, 15⟩))])
                (value := (PySem.Expr.Tuple
                  (elts := [
                    (PySem.Expr.Call
                      (func := (PySem.Expr.Name "_law_bare" ⟨303, 19, 303, 28⟩))
                      (args := [(PySem.Expr.Name "row" ⟨303, 29, 303, 32⟩), (PySem.Expr.Name "most" ⟨303, 34, 303, 38⟩)])
                      (keywords := [])
                      (pos := ⟨303, 19, 303, 39⟩)),
                    (PySem.Expr.List [] ⟨303, 41, 303, 43⟩)])
                  (k := 0)
                  (pos := ⟨303, 18, 303, 44⟩)))
                (pos := ⟨303, 4, 303, 44⟩)),
              (PySem.Stmt.Assign
                (targets := [(PySem.Expr.Name "names" ⟨304, 4, 304, 9⟩)])
                (value := (PySem.Expr.ListComp
                  (elt := (PySem.Expr.Subscript
                    (value := (PySem.Expr.Name "told" ⟨304, 13, 304, 17⟩))
                    (slice := (PySem.Expr.Constant (PySem.Const.int 0) 0 ⟨304, 18, 304, 19⟩))
                    (pos := ⟨304, 13, 304, 20⟩)))
                  (generators := [
                    {
                      target := (PySem.Expr.Name "told" ⟨304, 25, 304, 29⟩),
                      iter := (PySem.Expr.Name "bare" ⟨304, 33, 304, 37⟩),
                      ifs := [],
                      is_async := 0 : PySem.Comprehension }])
                  (scope := {
                    kind := PySem.ScopeKind.function,
                    names := [(PySem.Str.ofString ".0", PySem.NameKind.local), (PySem.Str.ofString "told", PySem.NameKind.local)],
                    isGenerator := false,
                    isCoroutine := false,
                    more := [] : PySem.Scope })
                  (pos := ⟨304, 12, 304, 38⟩)))
                (pos := ⟨304, 4, 304, 38⟩)),
              (PySem.Stmt.For
                (target := (PySem.Expr.Tuple
                  (elts := [
                    (PySem.Expr.Name "name" ⟨305, 8, 305, 12⟩),
                    (PySem.Expr.Name "upper" ⟨305, 14, 305, 19⟩),
                    (PySem.Expr.Name "fields" ⟨305, 21, 305, 27⟩),
                    (PySem.Expr.Name "methods" ⟨305, 29, 305, 36⟩)])
                  (k := 0)
                  (pos := ⟨305, 8, 305, 36⟩)))
                (iter := (PySem.Expr.Name "bare" ⟨305, 40, 305, 44⟩))
                (body := [
                  (PySem.Stmt.Assign
                    (targets := [(PySem.Expr.Name "whole" ⟨306, 8, 306, 13⟩)])
                    (value := (PySem.Expr.List [] ⟨306, 16, 306, 18⟩))
                    (pos := ⟨306, 8, 306, 18⟩)),
                  (PySem.Stmt.For
                    (target := (PySem.Expr.Tuple
                      (elts := [
                        (PySem.Expr.Name "word" ⟨307, 12, 307, 16⟩),
                        (PySem.Expr.Name "ins" ⟨307, 18, 307, 21⟩),
                        (PySem.Expr.Name "out" ⟨307, 23, 307, 26⟩)])
                      (k := 0)
                      (pos := ⟨307, 12, 307, 26⟩)))
                    (iter := (PySem.Expr.Name "methods" ⟨307, 30, 307, 37⟩))
                    (body := [
                      (PySem.Stmt.Assign
                        (targets := [(PySem.Expr.Name "code" ⟨308, 12, 308, 16⟩)])
                        (value := (PySem.Expr.Call
                          (func := (PySem.Expr.Name "_law_code" ⟨308, 19, 308, 28⟩))
                          (args := [
                            (PySem.Expr.Name "row" ⟨308, 29, 308, 32⟩),
                            (PySem.Expr.Name "bare" ⟨308, 34, 308, 38⟩),
                            (PySem.Expr.Name "steps" ⟨308, 40, 308, 45⟩)])
                          (keywords := [])
                          (pos := ⟨308, 19, 308, 46⟩)))
                        (pos := ⟨308, 12, 308, 46⟩)),
                      (PySem.Stmt.Expr
                        (value := (PySem.Expr.Call
                          (func := (PySem.Expr.Attribute (PySem.Expr.Name "whole" ⟨309, 12, 309, 17⟩) "append" ⟨309, 12, 309, 24⟩))
                          (args := [
                            (PySem.Expr.Tuple
                              (elts := [
                                (PySem.Expr.Name "word" ⟨309, 26, 309, 30⟩),
                                (PySem.Expr.Name "ins" ⟨309, 32, 309, 35⟩),
                                (PySem.Expr.Name "out" ⟨309, 37, 309, 40⟩),
                                (PySem.Expr.Name "code" ⟨309, 42, 309, 46⟩),
                                (PySem.Expr.Call
                                  (func := (PySem.Expr.Name "_law_handlers" ⟨309, 48, 309, 61⟩))
                                  (args := [
                                    (PySem.Expr.Name "row" ⟨309, 62, 309, 65⟩),
                                    (PySem.Expr.Name "names" ⟨309, 67, 309, 72⟩),
                                    (PySem.Expr.Call
                                      (func := (PySem.Expr.Name "len" ⟨309, 74, 309, 77⟩))
                                      (args := [(PySem.Expr.Name "code" ⟨309, 78, 309, 82⟩)])
                                      (keywords := [])
                                      (pos := ⟨309, 74, 309, 83⟩))])
                                  (keywords := [])
                                  (pos := ⟨309, 48, 309, 84⟩))])
                              (k := 0)
                              (pos := ⟨309, 25, 309, 85⟩))])
                          (keywords := [])
                          (pos := ⟨309, 12, 309, 86⟩)))
                        (pos := ⟨309, 12, 309, 86⟩))])
                    (orelse := [])
                    (pos := ⟨307, 8, 309, 86⟩)),
                  (PySem.Stmt.Expr
                    (value := (PySem.Expr.Call
                      (func := (PySem.Expr.Attribute (PySem.Expr.Name "found" ⟨310, 8, 310, 13⟩) "append" ⟨310, 8, 310, 20⟩))
                      (args := [
                        (PySem.Expr.Tuple
                          (elts := [
                            (PySem.Expr.Name "name" ⟨310, 22, 310, 26⟩),
                            (PySem.Expr.Name "upper" ⟨310, 28, 310, 33⟩),
                            (PySem.Expr.Name "fields" ⟨310, 35, 310, 41⟩),
                            (PySem.Expr.Call
                              (func := (PySem.Expr.Name "tuple" ⟨310, 43, 310, 48⟩))
                              (args := [(PySem.Expr.Name "whole" ⟨310, 49, 310, 54⟩)])
                              (keywords := [])
                              (pos := ⟨310, 43, 310, 55⟩))])
                          (k := 0)
                          (pos := ⟨310, 21, 310, 56⟩))])
                      (keywords := [])
                      (pos := ⟨310, 8, 310, 57⟩)))
                    (pos := ⟨310, 8, 310, 57⟩))])
                (orelse := [])
                (pos := ⟨305, 4, 310, 57⟩)),
              (PySem.Stmt.Return
                (value := (some
                  (PySem.Expr.Call
                    (func := (PySem.Expr.Name "tuple" ⟨311, 11, 311, 16⟩))
                    (args := [(PySem.Expr.Name "found" ⟨311, 17, 311, 22⟩)])
                    (keywords := [])
                    (pos := ⟨311, 11, 311, 23⟩))))
                (pos := ⟨311, 4, 311, 23⟩))])
            (decorator_list := [])
            (returns := none)
            (type_params := [])
            (scope := {
              kind := PySem.ScopeKind.function,
              names := [
                (PySem.Str.ofString "row", PySem.NameKind.local),
                (PySem.Str.ofString "most", PySem.NameKind.local),
                (PySem.Str.ofString "steps", PySem.NameKind.local),
                (PySem.Str.ofString "bare", PySem.NameKind.local),
                (PySem.Str.ofString "found", PySem.NameKind.local),
                (PySem.Str.ofString "names", PySem.NameKind.local),
                (PySem.Str.ofString "name", PySem.NameKind.local),
                (PySem.Str.ofString "upper", PySem.NameKind.local),
                (PySem.Str.ofString "fields", PySem.NameKind.local),
                (PySem.Str.ofString "methods", PySem.NameKind.local),
                (PySem.Str.ofString "whole", PySem.NameKind.local),
                (PySem.Str.ofString "word", PySem.NameKind.local),
                (PySem.Str.ofString "ins", PySem.NameKind.local),
                (PySem.Str.ofString "out", PySem.NameKind.local),
                (PySem.Str.ofString "code", PySem.NameKind.local),
                (PySem.Str.ofString "_law_bare", PySem.NameKind.globalImplicit),
                (PySem.Str.ofString "_law_code", PySem.NameKind.globalImplicit),
                (PySem.Str.ofString "_law_handlers", PySem.NameKind.globalImplicit),
                (PySem.Str.ofString "len", PySem.NameKind.globalImplicit),
                (PySem.Str.ofString "tuple", PySem.NameKind.globalImplicit)],
              isGenerator := false,
              isCoroutine := false,
              more := [
                (PySem.Str.ofString "fast", (PySem.Const.str "row")),
                (PySem.Str.ofString "fast", (PySem.Const.str "most")),
                (PySem.Str.ofString "fast", (PySem.Const.str "steps")),
                (PySem.Str.ofString "fast", (PySem.Const.str "bare")),
                (PySem.Str.ofString "fast", (PySem.Const.str "found")),
                (PySem.Str.ofString "fast", (PySem.Const.str "told")),
                (PySem.Str.ofString "fast", (PySem.Const.str "names")),
                (PySem.Str.ofString "fast", (PySem.Const.str "name")),
                (PySem.Str.ofString "fast", (PySem.Const.str "upper")),
                (PySem.Str.ofString "fast", (PySem.Const.str "fields")),
                (PySem.Str.ofString "fast", (PySem.Const.str "methods")),
                (PySem.Str.ofString "fast", (PySem.Const.str "whole")),
                (PySem.Str.ofString "fast", (PySem.Const.str "word")),
                (PySem.Str.ofString "fast", (PySem.Const.str "ins")),
                (PySem.Str.ofString "fast", (PySem.Const.str "out")),
                (PySem.Str.ofString "fast", (PySem.Const.str "code"))] : PySem.Scope })
            (tscope := none)
            (bind := "_law_classes")
            (pos := ⟨302, 0, 311, 23⟩))
def s__law_alike : Stmt :=
  (PySem.Stmt.FunctionDef
            (name := "_law_alike")
            (args := {
              posonlyargs := [],
              args := [
                { arg := "found", annotation := none, pos := ⟨312, 15, 312, 20⟩ : PySem.Arg },
                { arg := "due", annotation := none, pos := ⟨312, 22, 312, 25⟩ : PySem.Arg }],
              vararg := none,
              kwonlyargs := [],
              kw_defaults := [],
              kwarg := none,
              defaults := [] : PySem.Arguments })
            (body := [
              (PySem.Stmt.If
                (test := (PySem.Expr.Call
                  (func := (PySem.Expr.Name "isinstance" ⟨313, 7, 313, 17⟩))
                  (args := [
                    (PySem.Expr.Name "due" ⟨313, 18, 313, 21⟩),
                    (PySem.Expr.Tuple
                      (elts := [(PySem.Expr.Name "tuple" ⟨313, 24, 313, 29⟩), (PySem.Expr.Name "list" ⟨313, 31, 313, 35⟩)])
                      (k := 0)
                      (pos := ⟨313, 23, 313, 36⟩))])
                  (keywords := [])
                  (pos := ⟨313, 7, 313, 37⟩)))
                (body := [
                  (PySem.Stmt.If
                    (test := (PySem.Expr.BoolOp
                      (op := PySem.BoolOp.Or)
                      (values := [
                        (PySem.Expr.UnaryOp
                          (op := PySem.UnaryOp.Not)
                          (operand := (PySem.Expr.Call
                            (func := (PySem.Expr.Name "isinstance" ⟨314, 15, 314, 25⟩))
                            (args := [
                              (PySem.Expr.Name "found" ⟨314, 26, 314, 31⟩),
                              (PySem.Expr.Tuple
                                (elts := [(PySem.Expr.Name "tuple" ⟨314, 34, 314, 39⟩), (PySem.Expr.Name "list" ⟨314, 41, 314, 45⟩)])
                                (k := 0)
                                (pos := ⟨314, 33, 314, 46⟩))])
                            (keywords := [])
                            (pos := ⟨314, 15, 314, 47⟩)))
                          (pos := ⟨314, 11, 314, 47⟩)),
                        (PySem.Expr.Compare
                          (left := (PySem.Expr.Call
                            (func := (PySem.Expr.Name "isinstance" ⟨314, 51, 314, 61⟩))
                            (args := [(PySem.Expr.Name "found" ⟨314, 62, 314, 67⟩), (PySem.Expr.Name "list" ⟨314, 69, 314, 73⟩)])
                            (keywords := [])
                            (pos := ⟨314, 51, 314, 74⟩)))
                          (ops := [PySem.CmpOp.NotEq])
                          (comparators := [
                            (PySem.Expr.Call
                              (func := (PySem.Expr.Name "isinstance" ⟨314, 78, 314, 88⟩))
                              (args := [(PySem.Expr.Name "due" ⟨314, 89, 314, 92⟩), (PySem.Expr.Name "list" ⟨314, 94, 314, 98⟩)])
                              (keywords := [])
                              (pos := ⟨314, 78, 314, 99⟩))])
                          (pos := ⟨314, 51, 314, 99⟩))])
                      (pos := ⟨314, 11, 314, 99⟩)))
                    (body := [
                      (PySem.Stmt.Return
                        (value := (some (PySem.Expr.Constant (PySem.Const.bool false) 0 ⟨315, 19, 315, 24⟩)))
                        (pos := ⟨315, 12, 315, 24⟩))])
                    (orelse := [])
                    (pos := ⟨314, 8, 315, 24⟩)),
                  (PySem.Stmt.If
                    (test := (PySem.Expr.Compare
                      (left := (PySem.Expr.Call
                        (func := (PySem.Expr.Name "len" ⟨316, 11, 316, 14⟩))
                        (args := [(PySem.Expr.Name "found" ⟨316, 15, 316, 20⟩)])
                        (keywords := [])
                        (pos := ⟨316, 11, 316, 21⟩)))
                      (ops := [PySem.CmpOp.NotEq])
                      (comparators := [
                        (PySem.Expr.Call
                          (func := (PySem.Expr.Name "len" ⟨316, 25, 316, 28⟩))
                          (args := [(PySem.Expr.Name "due" ⟨316, 29, 316, 32⟩)])
                          (keywords := [])
                          (pos := ⟨316, 25, 316, 33⟩))])
                      (pos := ⟨316, 11, 316, 33⟩)))
                    (body := [
                      (PySem.Stmt.Return
                        (value := (some (PySem.Expr.Constant (PySem.Const.bool false) 0 ⟨317, 19, 317, 24⟩)))
                        (pos := ⟨317, 12, 317, 24⟩))])
                    (orelse := [])
                    (pos := ⟨316, 8, 317, 24⟩)),
                  (PySem.Stmt.Return
                    (value := (some
                      (PySem.Expr.Compare
                        (left := (PySem.Expr.ListComp
                          (elt := (PySem.Expr.Name "k" ⟨318, 16, 318, 17⟩))
                          (generators := [
                            {
                              target := (PySem.Expr.Name "k" ⟨318, 22, 318, 23⟩),
                              iter := (PySem.Expr.Call
                                (func := (PySem.Expr.Name "range" ⟨318, 27, 318, 32⟩))
                                (args := [
                                  (PySem.Expr.Call
                                    (func := (PySem.Expr.Name "len" ⟨318, 33, 318, 36⟩))
                                    (args := [(PySem.Expr.Name "due" ⟨318, 37, 318, 40⟩)])
                                    (keywords := [])
                                    (pos := ⟨318, 33, 318, 41⟩))])
                                (keywords := [])
                                (pos := ⟨318, 27, 318, 42⟩)),
                              ifs := [
                                (PySem.Expr.UnaryOp
                                  (op := PySem.UnaryOp.Not)
                                  (operand := (PySem.Expr.Call
                                    (func := (PySem.Expr.Name "_law_alike" ⟨318, 50, 318, 60⟩))
                                    (args := [
                                      (PySem.Expr.Subscript
                                        (value := (PySem.Expr.Name "found" ⟨318, 61, 318, 66⟩))
                                        (slice := (PySem.Expr.Name "k" ⟨318, 67, 318, 68⟩))
                                        (pos := ⟨318, 61, 318, 69⟩)),
                                      (PySem.Expr.Subscript
                                        (value := (PySem.Expr.Name "due" ⟨318, 71, 318, 74⟩))
                                        (slice := (PySem.Expr.Name "k" ⟨318, 75, 318, 76⟩))
                                        (pos := ⟨318, 71, 318, 77⟩))])
                                    (keywords := [])
                                    (pos := ⟨318, 50, 318, 78⟩)))
                                  (pos := ⟨318, 46, 318, 78⟩))],
                              is_async := 0 : PySem.Comprehension }])
                          (scope := {
                            kind := PySem.ScopeKind.function,
                            names := [
                              (PySem.Str.ofString ".0", PySem.NameKind.local),
                              (PySem.Str.ofString "k", PySem.NameKind.local),
                              (PySem.Str.ofString "_law_alike", PySem.NameKind.globalImplicit),
                              (PySem.Str.ofString "due", PySem.NameKind.free),
                              (PySem.Str.ofString "found", PySem.NameKind.free)],
                            isGenerator := false,
                            isCoroutine := false,
                            more := [] : PySem.Scope })
                          (pos := ⟨318, 15, 318, 79⟩)))
                        (ops := [PySem.CmpOp.Eq])
                        (comparators := [(PySem.Expr.List [] ⟨318, 83, 318, 85⟩)])
                        (pos := ⟨318, 15, 318, 85⟩))))
                    (pos := ⟨318, 8, 318, 85⟩))])
                (orelse := [])
                (pos := ⟨313, 4, 318, 85⟩)),
              (PySem.Stmt.If
                (test := (PySem.Expr.BoolOp
                  (op := PySem.BoolOp.Or)
                  (values := [
                    (PySem.Expr.Compare
                      (left := (PySem.Expr.Name "due" ⟨319, 7, 319, 10⟩))
                      (ops := [PySem.CmpOp.Is])
                      (comparators := [(PySem.Expr.Constant PySem.Const.none 0 ⟨319, 14, 319, 18⟩)])
                      (pos := ⟨319, 7, 319, 18⟩)),
                    (PySem.Expr.Call
                      (func := (PySem.Expr.Name "isinstance" ⟨319, 22, 319, 32⟩))
                      (args := [(PySem.Expr.Name "due" ⟨319, 33, 319, 36⟩), (PySem.Expr.Name "str" ⟨319, 38, 319, 41⟩)])
                      (keywords := [])
                      (pos := ⟨319, 22, 319, 42⟩))])
                  (pos := ⟨319, 7, 319, 42⟩)))
                (body := [
                  (PySem.Stmt.Return
                    (value := (some
                      (PySem.Expr.BoolOp
                        (op := PySem.BoolOp.And)
                        (values := [
                          (PySem.Expr.Compare
                            (left := (PySem.Expr.Name "found" ⟨320, 15, 320, 20⟩))
                            (ops := [PySem.CmpOp.Eq])
                            (comparators := [(PySem.Expr.Name "due" ⟨320, 24, 320, 27⟩)])
                            (pos := ⟨320, 15, 320, 27⟩)),
                          (PySem.Expr.Compare
                            (left := (PySem.Expr.Call
                              (func := (PySem.Expr.Name "isinstance" ⟨320, 32, 320, 42⟩))
                              (args := [(PySem.Expr.Name "found" ⟨320, 43, 320, 48⟩), (PySem.Expr.Name "str" ⟨320, 50, 320, 53⟩)])
                              (keywords := [])
                              (pos := ⟨320, 32, 320, 54⟩)))
                            (ops := [PySem.CmpOp.Eq])
                            (comparators := [
                              (PySem.Expr.Call
                                (func := (PySem.Expr.Name "isinstance" ⟨320, 58, 320, 68⟩))
                                (args := [(PySem.Expr.Name "due" ⟨320, 69, 320, 72⟩), (PySem.Expr.Name "str" ⟨320, 74, 320, 77⟩)])
                                (keywords := [])
                                (pos := ⟨320, 58, 320, 78⟩))])
                            (pos := ⟨320, 32, 320, 78⟩))])
                        (pos := ⟨320, 15, 320, 78⟩))))
                    (pos := ⟨320, 8, 320, 78⟩))])
                (orelse := [])
                (pos := ⟨319, 4, 320, 78⟩)),
              (PySem.Stmt.Return
                (value := (some
                  (PySem.Expr.BoolOp
                    (op := PySem.BoolOp.And)
                    (values := [
                      (PySem.Expr.Call
                        (func := (PySem.Expr.Name "isinstance" ⟨321, 11, 321, 21⟩))
                        (args := [(PySem.Expr.Name "found" ⟨321, 22, 321, 27⟩), (PySem.Expr.Name "int" ⟨321, 29, 321, 32⟩)])
                        (keywords := [])
                        (pos := ⟨321, 11, 321, 33⟩)),
                      (PySem.Expr.Compare
                        (left := (PySem.Expr.Call
                          (func := (PySem.Expr.Name "isinstance" ⟨321, 38, 321, 48⟩))
                          (args := [(PySem.Expr.Name "found" ⟨321, 49, 321, 54⟩), (PySem.Expr.Name "bool" ⟨321, 56, 321, 60⟩)])
                          (keywords := [])
                          (pos := ⟨321, 38, 321, 61⟩)))
                        (ops := [PySem.CmpOp.Eq])
                        (comparators := [
                          (PySem.Expr.Call
                            (func := (PySem.Expr.Name "isinstance" ⟨321, 65, 321, 75⟩))
                            (args := [(PySem.Expr.Name "due" ⟨321, 76, 321, 79⟩), (PySem.Expr.Name "bool" ⟨321, 81, 321, 85⟩)])
                            (keywords := [])
                            (pos := ⟨321, 65, 321, 86⟩))])
                        (pos := ⟨321, 38, 321, 86⟩)),
                      (PySem.Expr.Compare
                        (left := (PySem.Expr.Name "found" ⟨321, 92, 321, 97⟩))
                        (ops := [PySem.CmpOp.Eq])
                        (comparators := [(PySem.Expr.Name "due" ⟨321, 101, 321, 104⟩)])
                        (pos := ⟨321, 92, 321, 104⟩))])
                    (pos := ⟨321, 11, 321, 105⟩))))
                (pos := ⟨321, 4, 321, 105⟩))])
            (decorator_list := [])
            (returns := none)
            (type_params := [])
            (scope := {
              kind := PySem.ScopeKind.function,
              names := [
                (PySem.Str.ofString "found", PySem.NameKind.cell),
                (PySem.Str.ofString "due", PySem.NameKind.cell),
                (PySem.Str.ofString "isinstance", PySem.NameKind.globalImplicit),
                (PySem.Str.ofString "tuple", PySem.NameKind.globalImplicit),
                (PySem.Str.ofString "list", PySem.NameKind.globalImplicit),
                (PySem.Str.ofString "len", PySem.NameKind.globalImplicit),
                (PySem.Str.ofString "range", PySem.NameKind.globalImplicit),
                (PySem.Str.ofString "str", PySem.NameKind.globalImplicit),
                (PySem.Str.ofString "int", PySem.NameKind.globalImplicit),
                (PySem.Str.ofString "bool", PySem.NameKind.globalImplicit)],
              isGenerator := false,
              isCoroutine := false,
              more := [
                (PySem.Str.ofString "fast", (PySem.Const.str "found")),
                (PySem.Str.ofString "fast", (PySem.Const.str "due")),
                (PySem.Str.ofString "fast", (PySem.Const.str "k"))] : PySem.Scope })
            (tscope := none)
            (bind := "_law_alike")
            (pos := ⟨312, 0, 321, 105⟩))
def s_law : Stmt :=
  (PySem.Stmt.FunctionDef
            (name := "law")
            (args := {
              posonlyargs := [],
              args := [{ arg := "script", annotation := none, pos := ⟨322, 8, 322, 14⟩ : PySem.Arg }],
              vararg := none,
              kwonlyargs := [],
              kw_defaults := [],
              kwarg := none,
              defaults := [] : PySem.Arguments })
            (body := [
              (PySem.Stmt.Assign
                (targets := [(PySem.Expr.Name "row" ⟨323, 4, 323, 7⟩)])
                (value := (PySem.Expr.List
                  (elts := [
                    (PySem.Expr.Name "script" ⟨323, 11, 323, 17⟩),
                    (PySem.Expr.Constant (PySem.Const.int 0) 0 ⟨323, 19, 323, 20⟩),
                    (PySem.Expr.Constant (PySem.Const.int 2906) 0 ⟨323, 22, 323, 26⟩),
                    (PySem.Expr.Constant (PySem.Const.int 0) 0 ⟨323, 28, 323, 29⟩)])
                  (pos := ⟨323, 10, 323, 30⟩)))
                (pos := ⟨323, 4, 323, 30⟩)),
              (PySem.Stmt.Assign
                (targets := [(PySem.Expr.Name "classes" ⟨324, 4, 324, 11⟩)])
                (value := (PySem.Expr.Call
                  (func := (PySem.Expr.Name "_law_classes" ⟨324, 14, 324, 26⟩))
                  (args := [
                    (PySem.Expr.Name "row" ⟨324, 27, 324, 30⟩),
                    (PySem.Expr.Constant (PySem.Const.int 8) 0 ⟨324, 32, 324, 33⟩),
                    (PySem.Expr.Constant (PySem.Const.int 1) 0 ⟨324, 35, 324, 36⟩)])
                  (keywords := [])
                  (pos := ⟨324, 14, 324, 37⟩)))
                (pos := ⟨324, 4, 324, 37⟩)),
              (PySem.Stmt.Assign
                (targets := [(PySem.Expr.Name "house" ⟨325, 4, 325, 9⟩)])
                (value := (PySem.Expr.Call
                  (func := (PySem.Expr.Name "House" ⟨325, 12, 325, 17⟩))
                  (args := [(PySem.Expr.Name "classes" ⟨325, 18, 325, 25⟩)])
                  (keywords := [])
                  (pos := ⟨325, 12, 325, 26⟩)))
                (pos := ⟨325, 4, 325, 26⟩)),
              (PySem.Stmt.For
                (target := (PySem.Expr.Name "name" ⟨326, 8, 326, 12⟩))
                (iter := (PySem.Expr.BinOp
                  (left := (PySem.Expr.List [(PySem.Expr.Constant (PySem.Const.str "top") 0 ⟨326, 17, 326, 22⟩)] ⟨326, 16, 326, 23⟩))
                  (op := PySem.Operator.Add)
                  (right := (PySem.Expr.ListComp
                    (elt := (PySem.Expr.Subscript
                      (value := (PySem.Expr.Name "told" ⟨326, 27, 326, 31⟩))
                      (slice := (PySem.Expr.Constant (PySem.Const.int 0) 0 ⟨326, 32, 326, 33⟩))
                      (pos := ⟨326, 27, 326, 34⟩)))
                    (generators := [
                      {
                        target := (PySem.Expr.Name "told" ⟨326, 39, 326, 43⟩),
                        iter := (PySem.Expr.Name "classes" ⟨326, 47, 326, 54⟩),
                        ifs := [],
                        is_async := 0 : PySem.Comprehension }])
                    (scope := {
                      kind := PySem.ScopeKind.function,
                      names := [(PySem.Str.ofString ".0", PySem.NameKind.local), (PySem.Str.ofString "told", PySem.NameKind.local)],
                      isGenerator := false,
                      isCoroutine := false,
                      more := [] : PySem.Scope })
                    (pos := ⟨326, 26, 326, 55⟩)))
                  (pos := ⟨326, 16, 326, 55⟩)))
                (body := [
                  (PySem.Stmt.Assign
                    (targets := [(PySem.Expr.Name "due" ⟨327, 8, 327, 11⟩)])
                    (value := (PySem.Expr.List [] ⟨327, 14, 327, 16⟩))
                    (pos := ⟨327, 8, 327, 16⟩)),
                  (PySem.Stmt.For
                    (target := (PySem.Expr.Name "told" ⟨328, 12, 328, 16⟩))
                    (iter := (PySem.Expr.Subscript
                      (value := (PySem.Expr.Call
                        (func := (PySem.Expr.Name "_law_row_of" ⟨328, 20, 328, 31⟩))
                        (args := [(PySem.Expr.Name "classes" ⟨328, 32, 328, 39⟩), (PySem.Expr.Name "name" ⟨328, 41, 328, 45⟩)])
                        (keywords := [])
                        (pos := ⟨328, 20, 328, 46⟩)))
                      (slice := (PySem.Expr.Slice
                        (lower := none)
                        (upper := none)
                        (step := (some
                          (PySem.Expr.UnaryOp
                            (op := PySem.UnaryOp.USub)
                            (operand := (PySem.Expr.Constant (PySem.Const.int 1) 0 ⟨328, 50, 328, 51⟩))
                            (pos := ⟨328, 49, 328, 51⟩))))
                        (pos := ⟨328, 47, 328, 51⟩)))
                      (pos := ⟨328, 20, 328, 52⟩)))
                    (body := [
                      (PySem.Stmt.Assign
                        (targets := [(PySem.Expr.Name "due" ⟨329, 12, 329, 15⟩)])
                        (value := (PySem.Expr.BinOp
                          (left := (PySem.Expr.Name "due" ⟨329, 18, 329, 21⟩))
                          (op := PySem.Operator.Add)
                          (right := (PySem.Expr.Call
                            (func := (PySem.Expr.Name "list" ⟨329, 24, 329, 28⟩))
                            (args := [
                              (PySem.Expr.Subscript
                                (value := (PySem.Expr.Name "told" ⟨329, 29, 329, 33⟩))
                                (slice := (PySem.Expr.Constant (PySem.Const.int 2) 0 ⟨329, 34, 329, 35⟩))
                                (pos := ⟨329, 29, 329, 36⟩))])
                            (keywords := [])
                            (pos := ⟨329, 24, 329, 37⟩)))
                          (pos := ⟨329, 18, 329, 37⟩)))
                        (pos := ⟨329, 12, 329, 37⟩))])
                    (orelse := [])
                    (pos := ⟨328, 8, 329, 37⟩)),
                  (PySem.Stmt.If
                    (test := (PySem.Expr.BoolOp
                      (op := PySem.BoolOp.Or)
                      (values := [
                        (PySem.Expr.UnaryOp
                          (op := PySem.UnaryOp.Not)
                          (operand := (PySem.Expr.Call
                            (func := (PySem.Expr.Name "_law_alike" ⟨330, 15, 330, 25⟩))
                            (args := [
                              (PySem.Expr.Call
                                (func := (PySem.Expr.Name "fields_of" ⟨330, 26, 330, 35⟩))
                                (args := [(PySem.Expr.Name "house" ⟨330, 36, 330, 41⟩), (PySem.Expr.Name "name" ⟨330, 43, 330, 47⟩)])
                                (keywords := [])
                                (pos := ⟨330, 26, 330, 48⟩)),
                              (PySem.Expr.Call
                                (func := (PySem.Expr.Name "tuple" ⟨330, 50, 330, 55⟩))
                                (args := [(PySem.Expr.Name "due" ⟨330, 56, 330, 59⟩)])
                                (keywords := [])
                                (pos := ⟨330, 50, 330, 60⟩))])
                            (keywords := [])
                            (pos := ⟨330, 15, 330, 61⟩)))
                          (pos := ⟨330, 11, 330, 61⟩)),
                        (PySem.Expr.Compare
                          (left := (PySem.Expr.Call
                            (func := (PySem.Expr.Name "len" ⟨330, 65, 330, 68⟩))
                            (args := [
                              (PySem.Expr.Call
                                (func := (PySem.Expr.Name "set" ⟨330, 69, 330, 72⟩))
                                (args := [
                                  (PySem.Expr.ListComp
                                    (elt := (PySem.Expr.Subscript
                                      (value := (PySem.Expr.Name "field" ⟨330, 74, 330, 79⟩))
                                      (slice := (PySem.Expr.Constant (PySem.Const.int 0) 0 ⟨330, 80, 330, 81⟩))
                                      (pos := ⟨330, 74, 330, 82⟩)))
                                    (generators := [
                                      {
                                        target := (PySem.Expr.Name "field" ⟨330, 87, 330, 92⟩),
                                        iter := (PySem.Expr.Name "due" ⟨330, 96, 330, 99⟩),
                                        ifs := [],
                                        is_async := 0 : PySem.Comprehension }])
                                    (scope := {
                                      kind := PySem.ScopeKind.function,
                                      names := [(PySem.Str.ofString ".0", PySem.NameKind.local), (PySem.Str.ofString "field", PySem.NameKind.local)],
                                      isGenerator := false,
                                      isCoroutine := false,
                                      more := [] : PySem.Scope })
                                    (pos := ⟨330, 73, 330, 100⟩))])
                                (keywords := [])
                                (pos := ⟨330, 69, 330, 101⟩))])
                            (keywords := [])
                            (pos := ⟨330, 65, 330, 102⟩)))
                          (ops := [PySem.CmpOp.NotEq])
                          (comparators := [
                            (PySem.Expr.Call
                              (func := (PySem.Expr.Name "len" ⟨330, 106, 330, 109⟩))
                              (args := [(PySem.Expr.Name "due" ⟨330, 110, 330, 113⟩)])
                              (keywords := [])
                              (pos := ⟨330, 106, 330, 114⟩))])
                          (pos := ⟨330, 65, 330, 114⟩))])
                      (pos := ⟨330, 11, 330, 114⟩)))
                    (body := [
                      (PySem.Stmt.Return
                        (value := (some (PySem.Expr.Constant (PySem.Const.bool false) 0 ⟨331, 19, 331, 24⟩)))
                        (pos := ⟨331, 12, 331, 24⟩))])
                    (orelse := [])
                    (pos := ⟨330, 8, 331, 24⟩))])
                (orelse := [])
                (pos := ⟨326, 4, 331, 24⟩)),
              (PySem.Stmt.Return
                (value := (some
                  (PySem.Expr.Compare
                    (left := (PySem.Expr.Call
                      (func := (PySem.Expr.Name "fields_of" ⟨332, 11, 332, 20⟩))
                      (args := [
                        (PySem.Expr.Name "house" ⟨332, 21, 332, 26⟩),
                        (PySem.Expr.Constant (PySem.Const.str "top") 0 ⟨332, 28, 332, 33⟩)])
                      (keywords := [])
                      (pos := ⟨332, 11, 332, 34⟩)))
                    (ops := [PySem.CmpOp.Eq])
                    (comparators := [(PySem.Expr.Tuple [] 0 ⟨332, 38, 332, 40⟩)])
                    (pos := ⟨332, 11, 332, 40⟩))))
                (pos := ⟨332, 4, 332, 40⟩))])
            (decorator_list := [])
            (returns := none)
            (type_params := [])
            (scope := {
              kind := PySem.ScopeKind.function,
              names := [
                (PySem.Str.ofString "script", PySem.NameKind.local),
                (PySem.Str.ofString "row", PySem.NameKind.local),
                (PySem.Str.ofString "classes", PySem.NameKind.local),
                (PySem.Str.ofString "house", PySem.NameKind.local),
                (PySem.Str.ofString "told", PySem.NameKind.local),
                (PySem.Str.ofString "name", PySem.NameKind.local),
                (PySem.Str.ofString "due", PySem.NameKind.local),
                (PySem.Str.ofString "_law_classes", PySem.NameKind.globalImplicit),
                (PySem.Str.ofString "House", PySem.NameKind.globalImplicit),
                (PySem.Str.ofString "_law_row_of", PySem.NameKind.globalImplicit),
                (PySem.Str.ofString "list", PySem.NameKind.globalImplicit),
                (PySem.Str.ofString "_law_alike", PySem.NameKind.globalImplicit),
                (PySem.Str.ofString "fields_of", PySem.NameKind.globalImplicit),
                (PySem.Str.ofString "tuple", PySem.NameKind.globalImplicit),
                (PySem.Str.ofString "len", PySem.NameKind.globalImplicit),
                (PySem.Str.ofString "set", PySem.NameKind.globalImplicit)],
              isGenerator := false,
              isCoroutine := false,
              more := [
                (PySem.Str.ofString "fast", (PySem.Const.str "script")),
                (PySem.Str.ofString "fast", (PySem.Const.str "row")),
                (PySem.Str.ofString "fast", (PySem.Const.str "classes")),
                (PySem.Str.ofString "fast", (PySem.Const.str "house")),
                (PySem.Str.ofString "fast", (PySem.Const.str "told")),
                (PySem.Str.ofString "fast", (PySem.Const.str "name")),
                (PySem.Str.ofString "fast", (PySem.Const.str "due")),
                (PySem.Str.ofString "fast", (PySem.Const.str "field"))] : PySem.Scope })
            (tscope := none)
            (bind := "law")
            (pos := ⟨322, 0, 332, 40⟩))
def c_TOP : MV := (.tup [(.str "top"), .non, (.tup []), (.tup [])])
def c_LETTERS : MV := (.str "abcdefghijklmnopqrstuvwxyz")
def tb_PARTS : List (Str × MV) := [("push", (.tup [(.str "number")])), ("none", (.tup [])), ("take", (.tup [(.str "local")])), ("keep", (.tup [(.str "local")])), ("add", (.tup [])), ("less", (.tup [])), ("same", (.tup [])), ("new", (.tup [(.str "class")])), ("cast", (.tup [(.str "class")])), ("is", (.tup [(.str "class")])), ("get", (.tup [(.str "class"), (.str "field")])), ("put", (.tup [(.str "class"), (.str "field")])), ("call", (.tup [(.str "class"), (.str "method")])), ("go", (.tup [(.str "step")])), ("if", (.tup [(.str "step")])), ("give", (.tup [])), ("throw", (.tup [])), ("enter", (.tup [])), ("leave", (.tup [])), ("copy", (.tup [])), ("drop", (.tup [])), ("print", (.tup []))]
def c_LAST : MV := (.tup [(.str "give"), (.str "go"), (.str "throw")])
def c_TAKEN_NAMES : MV := (.tup [(.str "top"), (.str "num"), (.str "none"), (.str "odd"), (.str "unset")])
abbrev n_names_of : List Str := ["classes", "row"]
theorem sc_names_of : FnScope n_names_of ["classes"] (defScope s_names_of) := ⟨rfl, rfl, rfl, by decide +kernel, rfl, by decide +kernel, by decide +kernel⟩
abbrev n_is_class : List Str := ["classes", "name"]
theorem sc_is_class : FnScope n_is_class ["classes", "name"] (defScope s_is_class) := ⟨rfl, rfl, rfl, by decide +kernel, rfl, by decide +kernel, by decide +kernel⟩
abbrev n_class_of : List Str := ["classes", "name", "row"]
theorem sc_class_of : FnScope n_class_of ["classes", "name"] (defScope s_class_of) := ⟨rfl, rfl, rfl, by decide +kernel, rfl, by decide +kernel, by decide +kernel⟩
abbrev n_line_up : List Str := ["classes", "name", "line"]
theorem sc_line_up : FnScope n_line_up ["classes", "name"] (defScope s_line_up) := ⟨rfl, rfl, rfl, by decide +kernel, rfl, by decide +kernel, by decide +kernel⟩
abbrev n_fields_up : List Str := ["classes", "name", "pairs", "upper"]
theorem sc_fields_up : FnScope n_fields_up ["classes", "name"] (defScope s_fields_up) := ⟨rfl, rfl, rfl, by decide +kernel, rfl, by decide +kernel, by decide +kernel⟩
abbrev n_field_kind : List Str := ["classes", "name", "word", "own", "kind"]
theorem sc_field_kind : FnScope n_field_kind ["classes", "name", "word"] (defScope s_field_kind) := ⟨rfl, rfl, rfl, by decide +kernel, rfl, by decide +kernel, by decide +kernel⟩
abbrev n_nearest : List Str := ["classes", "name", "word", "upper", "place", "method"]
theorem sc_nearest : FnScope n_nearest ["classes", "name", "word"] (defScope s_nearest) := ⟨rfl, rfl, rfl, by decide +kernel, rfl, by decide +kernel, by decide +kernel⟩
abbrev n_method_at : List Str := ["classes", "name", "place"]
theorem sc_method_at : FnScope n_method_at ["classes", "name", "place"] (defScope s_method_at) := ⟨rfl, rfl, rfl, by decide +kernel, rfl, by decide +kernel, by decide +kernel⟩
abbrev n_nearest_method : List Str := ["classes", "name", "word", "upper", "place"]
theorem sc_nearest_method : FnScope n_nearest_method ["classes", "name", "word"] (defScope s_nearest_method) := ⟨rfl, rfl, rfl, by decide +kernel, rfl, by decide +kernel, by decide +kernel⟩
abbrev n_is_word : List Str := ["value", "letter"]
theorem sc_is_word : FnScope n_is_word ["value"] (defScope s_is_word) := ⟨rfl, rfl, rfl, by decide +kernel, rfl, by decide +kernel, by decide +kernel⟩
abbrev n_is_number : List Str := ["value", "most"]
theorem sc_is_number : FnScope n_is_number ["value", "most"] (defScope s_is_number) := ⟨rfl, rfl, rfl, by decide +kernel, rfl, by decide +kernel, by decide +kernel⟩
abbrev n_is_tuple : List Str := ["value", "least", "most"]
theorem sc_is_tuple : FnScope n_is_tuple ["value", "least", "most"] (defScope s_is_tuple) := ⟨rfl, rfl, rfl, by decide +kernel, rfl, by decide +kernel, by decide +kernel⟩
abbrev n_can_be_part : List Str := ["classes", "many", "part", "step", "value"]
theorem sc_can_be_part : FnScope n_can_be_part ["classes", "many", "part", "step", "value"] (defScope s_can_be_part) := ⟨rfl, rfl, rfl, by decide +kernel, rfl, by decide +kernel, by decide +kernel⟩
abbrev n_is_step : List Str := ["classes", "many", "step", "parts", "part", "value"]
theorem sc_is_step : FnScope n_is_step ["classes", "many", "step"] (defScope s_is_step) := ⟨rfl, rfl, rfl, by decide +kernel, rfl, by decide +kernel, by decide +kernel⟩
abbrev n_bad_step : List Str := ["classes", "code", "many", "index", "step"]
theorem sc_bad_step : FnScope n_bad_step ["classes", "code"] (defScope s_bad_step) := ⟨rfl, rfl, rfl, by decide +kernel, rfl, by decide +kernel, by decide +kernel⟩
abbrev n_is_handler : List Str := ["classes", "many", "row"]
theorem sc_is_handler : FnScope n_is_handler ["classes", "many", "row"] (defScope s_is_handler) := ⟨rfl, rfl, rfl, by decide +kernel, rfl, by decide +kernel, by decide +kernel⟩
abbrev n_bad_handler : List Str := ["classes", "many", "handlers", "index", "row"]
theorem sc_bad_handler : FnScope n_bad_handler ["classes", "many", "handlers"] (defScope s_bad_handler) := ⟨rfl, rfl, rfl, by decide +kernel, rfl, by decide +kernel, by decide +kernel⟩
abbrev n_is_new_class : List Str := ["earlier", "row"]
theorem sc_is_new_class : FnScope n_is_new_class ["earlier", "row"] (defScope s_is_new_class) := ⟨rfl, rfl, rfl, by decide +kernel, rfl, by decide +kernel, by decide +kernel⟩
abbrev n_check_names : List Str := ["classes", "earlier", "index", "row"]
theorem sc_check_names : FnScope n_check_names ["classes"] (defScope s_check_names) := ⟨rfl, rfl, rfl, by decide +kernel, rfl, by decide +kernel, by decide +kernel⟩
abbrev n_is_told_kind : List Str := ["classes", "value"]
theorem sc_is_told_kind : FnScope n_is_told_kind ["classes", "value"] (defScope s_is_told_kind) := ⟨rfl, rfl, rfl, by decide +kernel, rfl, by decide +kernel, by decide +kernel⟩
abbrev n_are_fields : List Str := ["classes", "upper", "fields", "words", "pair", "word", "_"]
theorem sc_are_fields : FnScope n_are_fields ["classes", "upper", "fields"] (defScope s_are_fields) := ⟨rfl, rfl, rfl, by decide +kernel, rfl, by decide +kernel, by decide +kernel⟩
abbrev n_is_method : List Str := ["classes", "upper", "words", "method", "parts", "word", "ins", "out", "kind"]
theorem sc_is_method : FnScope n_is_method ["classes", "upper", "words", "method", "parts"] (defScope s_is_method) := ⟨rfl, rfl, rfl, by decide +kernel, rfl, by decide +kernel, by decide +kernel⟩
abbrev n_check_methods : List Str := ["classes", "index", "parts", "_", "upper", "methods", "words", "place", "method"]
theorem sc_check_methods : FnScope n_check_methods ["classes", "index", "parts"] (defScope s_check_methods) := ⟨rfl, rfl, rfl, by decide +kernel, rfl, by decide +kernel, by decide +kernel⟩
abbrev n_check_code : List Str := ["classes", "index", "place", "code", "handlers", "step", "row"]
theorem sc_check_code : FnScope n_check_code ["classes", "index", "place"] (defScope s_check_code) := ⟨rfl, rfl, rfl, by decide +kernel, rfl, by decide +kernel, by decide +kernel⟩
abbrev n_check_shells : List Str := ["classes", "parts", "index", "row"]
theorem sc_check_shells : FnScope n_check_shells ["classes", "parts"] (defScope s_check_shells) := ⟨rfl, rfl, rfl, by decide +kernel, rfl, by decide +kernel, by decide +kernel⟩
abbrev n_check_classes : List Str := ["classes", "index", "row", "place"]
theorem sc_check_classes : FnScope n_check_classes ["classes"] (defScope s_check_classes) := ⟨rfl, rfl, rfl, by decide +kernel, rfl, by decide +kernel, by decide +kernel⟩
abbrev n_House___init__ : List Str := ["self", "classes"]
theorem sc_House___init__ : FnScope n_House___init__ ["self", "classes"] (defScope s_House___init__) := ⟨rfl, rfl, rfl, by decide +kernel, rfl, by decide +kernel, by decide +kernel⟩
abbrev n_House_classes : List Str := ["self"]
theorem sc_House_classes : FnScope n_House_classes ["self"] (defScope s_House_classes) := ⟨rfl, rfl, rfl, by decide +kernel, rfl, by decide +kernel, by decide +kernel⟩
abbrev n_check_house : List Str := ["house"]
theorem sc_check_house : FnScope n_check_house ["house"] (defScope s_check_house) := ⟨rfl, rfl, rfl, by decide +kernel, rfl, by decide +kernel, by decide +kernel⟩
abbrev n_check_name : List Str := ["house", "name"]
theorem sc_check_name : FnScope n_check_name ["house", "name"] (defScope s_check_name) := ⟨rfl, rfl, rfl, by decide +kernel, rfl, by decide +kernel, by decide +kernel⟩
abbrev n_fields_of : List Str := ["house", "name"]
theorem sc_fields_of : FnScope n_fields_of ["house", "name"] (defScope s_fields_of) := ⟨rfl, rfl, rfl, by decide +kernel, rfl, by decide +kernel, by decide +kernel⟩
abbrev n__law_taken : List Str := ["row", "many", "cell", "found"]
theorem sc__law_taken : FnScope n__law_taken ["row", "many"] (defScope s__law_taken) := ⟨rfl, rfl, rfl, by decide +kernel, rfl, by decide +kernel, by decide +kernel⟩
abbrev n__law_pick : List Str := ["row", "things"]
theorem sc__law_pick : FnScope n__law_pick ["row", "things"] (defScope s__law_pick) := ⟨rfl, rfl, rfl, by decide +kernel, rfl, by decide +kernel, by decide +kernel⟩
abbrev n__law_tree : List Str := ["row", "many", "names", "way", "found", "at", "some", "upper", "told"]
theorem sc__law_tree : FnScope n__law_tree ["row", "many"] (defScope s__law_tree) := ⟨rfl, rfl, rfl, by decide +kernel, rfl, by decide +kernel, by decide +kernel⟩
abbrev n__law_signs : List Str := ["row", "names", "kinds", "found", "word", "ins", "at"]
theorem sc__law_signs : FnScope n__law_signs ["row", "names"] (defScope s__law_signs) := ⟨rfl, rfl, rfl, by decide +kernel, rfl, by decide +kernel, by decide +kernel⟩
abbrev n__law_bare : List Str := ["row", "most", "tree", "names", "found", "many", "signs", "name", "upper", "fields", "at", "methods", "told", "word"]
theorem sc__law_bare : FnScope n__law_bare ["row", "most"] (defScope s__law_bare) := ⟨rfl, rfl, rfl, by decide +kernel, rfl, by decide +kernel, by decide +kernel⟩
abbrev n__law_row_of : List Str := ["classes", "name", "found", "told"]
theorem sc__law_row_of : FnScope n__law_row_of ["classes", "name"] (defScope s__law_row_of) := ⟨rfl, rfl, rfl, by decide +kernel, rfl, by decide +kernel, by decide +kernel⟩
abbrev n__law_step : List Str := ["row", "classes", "size", "names", "way", "name", "fields", "words", "told", "some", "field", "word", "method"]
theorem sc__law_step : FnScope n__law_step ["row", "classes", "size"] (defScope s__law_step) := ⟨rfl, rfl, rfl, by decide +kernel, rfl, by decide +kernel, by decide +kernel⟩
abbrev n__law_code : List Str := ["row", "classes", "most", "size", "found", "at"]
theorem sc__law_code : FnScope n__law_code ["row", "classes", "most"] (defScope s__law_code) := ⟨rfl, rfl, rfl, by decide +kernel, rfl, by decide +kernel, by decide +kernel⟩
abbrev n__law_handlers : List Str := ["row", "names", "size", "found", "at", "begin", "end"]
theorem sc__law_handlers : FnScope n__law_handlers ["row", "names", "size"] (defScope s__law_handlers) := ⟨rfl, rfl, rfl, by decide +kernel, rfl, by decide +kernel, by decide +kernel⟩
abbrev n__law_classes : List Str := ["row", "most", "steps", "bare", "found", "names", "name", "upper", "fields", "methods", "whole", "word", "ins", "out", "told", "code"]
theorem sc__law_classes : FnScope n__law_classes ["row", "most", "steps"] (defScope s__law_classes) := ⟨rfl, rfl, rfl, by decide +kernel, rfl, by decide +kernel, by decide +kernel⟩
abbrev n__law_alike : List Str := ["found", "due", "k"]
theorem sc__law_alike : FnScope n__law_alike ["found", "due"] (defScope s__law_alike) := ⟨rfl, rfl, rfl, by decide +kernel, rfl, by decide +kernel, by decide +kernel⟩
abbrev n_law : List Str := ["script", "row", "classes", "house", "name", "due", "told", "field"]
theorem sc_law : FnScope n_law ["script"] (defScope s_law) := ⟨rfl, rfl, rfl, by decide +kernel, rfl, by decide +kernel, by decide +kernel⟩
/-- what the top has written -/
structure Txt (K : PySem.W.Frag) (mg : Str → Option Value) (w : World) where
  f_names_of : Addr
  d_names_of : FuncData
  F_names_of : Fun K "names_of" "names_of" s_names_of f_names_of d_names_of
  b_names_of : Binds K d_names_of ["classes"] []
  m_names_of : mg "names_of" = some (.ref f_names_of)
  f_is_class : Addr
  d_is_class : FuncData
  F_is_class : Fun K "is_class" "is_class" s_is_class f_is_class d_is_class
  b_is_class : Binds K d_is_class ["classes", "name"] []
  m_is_class : mg "is_class" = some (.ref f_is_class)
  f_class_of : Addr
  d_class_of : FuncData
  F_class_of : Fun K "class_of" "class_of" s_class_of f_class_of d_class_of
  b_class_of : Binds K d_class_of ["classes", "name"] []
  m_class_of : mg "class_of" = some (.ref f_class_of)
  f_line_up : Addr
  d_line_up : FuncData
  F_line_up : Fun K "line_up" "line_up" s_line_up f_line_up d_line_up
  b_line_up : Binds K d_line_up ["classes", "name"] []
  m_line_up : mg "line_up" = some (.ref f_line_up)
  f_fields_up : Addr
  d_fields_up : FuncData
  F_fields_up : Fun K "fields_up" "fields_up" s_fields_up f_fields_up d_fields_up
  b_fields_up : Binds K d_fields_up ["classes", "name"] []
  m_fields_up : mg "fields_up" = some (.ref f_fields_up)
  f_field_kind : Addr
  d_field_kind : FuncData
  F_field_kind : Fun K "field_kind" "field_kind" s_field_kind f_field_kind d_field_kind
  b_field_kind : Binds K d_field_kind ["classes", "name", "word"] []
  m_field_kind : mg "field_kind" = some (.ref f_field_kind)
  f_nearest : Addr
  d_nearest : FuncData
  F_nearest : Fun K "nearest" "nearest" s_nearest f_nearest d_nearest
  b_nearest : Binds K d_nearest ["classes", "name", "word"] []
  m_nearest : mg "nearest" = some (.ref f_nearest)
  f_method_at : Addr
  d_method_at : FuncData
  F_method_at : Fun K "method_at" "method_at" s_method_at f_method_at d_method_at
  b_method_at : Binds K d_method_at ["classes", "name", "place"] []
  m_method_at : mg "method_at" = some (.ref f_method_at)
  f_nearest_method : Addr
  d_nearest_method : FuncData
  F_nearest_method : Fun K "nearest_method" "nearest_method" s_nearest_method f_nearest_method d_nearest_method
  b_nearest_method : Binds K d_nearest_method ["classes", "name", "word"] []
  m_nearest_method : mg "nearest_method" = some (.ref f_nearest_method)
  f_is_word : Addr
  d_is_word : FuncData
  F_is_word : Fun K "is_word" "is_word" s_is_word f_is_word d_is_word
  b_is_word : Binds K d_is_word ["value"] []
  m_is_word : mg "is_word" = some (.ref f_is_word)
  f_is_number : Addr
  d_is_number : FuncData
  F_is_number : Fun K "is_number" "is_number" s_is_number f_is_number d_is_number
  b_is_number : Binds K d_is_number ["value", "most"] []
  m_is_number : mg "is_number" = some (.ref f_is_number)
  f_is_tuple : Addr
  d_is_tuple : FuncData
  F_is_tuple : Fun K "is_tuple" "is_tuple" s_is_tuple f_is_tuple d_is_tuple
  b_is_tuple : Binds K d_is_tuple ["value", "least", "most"] []
  m_is_tuple : mg "is_tuple" = some (.ref f_is_tuple)
  f_can_be_part : Addr
  d_can_be_part : FuncData
  F_can_be_part : Fun K "can_be_part" "can_be_part" s_can_be_part f_can_be_part d_can_be_part
  b_can_be_part : Binds K d_can_be_part ["classes", "many", "part", "step", "value"] []
  m_can_be_part : mg "can_be_part" = some (.ref f_can_be_part)
  f_is_step : Addr
  d_is_step : FuncData
  F_is_step : Fun K "is_step" "is_step" s_is_step f_is_step d_is_step
  b_is_step : Binds K d_is_step ["classes", "many", "step"] []
  m_is_step : mg "is_step" = some (.ref f_is_step)
  f_bad_step : Addr
  d_bad_step : FuncData
  F_bad_step : Fun K "bad_step" "bad_step" s_bad_step f_bad_step d_bad_step
  b_bad_step : Binds K d_bad_step ["classes", "code"] []
  m_bad_step : mg "bad_step" = some (.ref f_bad_step)
  f_is_handler : Addr
  d_is_handler : FuncData
  F_is_handler : Fun K "is_handler" "is_handler" s_is_handler f_is_handler d_is_handler
  b_is_handler : Binds K d_is_handler ["classes", "many", "row"] []
  m_is_handler : mg "is_handler" = some (.ref f_is_handler)
  f_bad_handler : Addr
  d_bad_handler : FuncData
  F_bad_handler : Fun K "bad_handler" "bad_handler" s_bad_handler f_bad_handler d_bad_handler
  b_bad_handler : Binds K d_bad_handler ["classes", "many", "handlers"] []
  m_bad_handler : mg "bad_handler" = some (.ref f_bad_handler)
  f_is_new_class : Addr
  d_is_new_class : FuncData
  F_is_new_class : Fun K "is_new_class" "is_new_class" s_is_new_class f_is_new_class d_is_new_class
  b_is_new_class : Binds K d_is_new_class ["earlier", "row"] []
  m_is_new_class : mg "is_new_class" = some (.ref f_is_new_class)
  f_check_names : Addr
  d_check_names : FuncData
  F_check_names : Fun K "check_names" "check_names" s_check_names f_check_names d_check_names
  b_check_names : Binds K d_check_names ["classes"] []
  m_check_names : mg "check_names" = some (.ref f_check_names)
  f_is_told_kind : Addr
  d_is_told_kind : FuncData
  F_is_told_kind : Fun K "is_told_kind" "is_told_kind" s_is_told_kind f_is_told_kind d_is_told_kind
  b_is_told_kind : Binds K d_is_told_kind ["classes", "value"] []
  m_is_told_kind : mg "is_told_kind" = some (.ref f_is_told_kind)
  f_are_fields : Addr
  d_are_fields : FuncData
  F_are_fields : Fun K "are_fields" "are_fields" s_are_fields f_are_fields d_are_fields
  b_are_fields : Binds K d_are_fields ["classes", "upper", "fields"] []
  m_are_fields : mg "are_fields" = some (.ref f_are_fields)
  f_is_method : Addr
  d_is_method : FuncData
  F_is_method : Fun K "is_method" "is_method" s_is_method f_is_method d_is_method
  b_is_method : Binds K d_is_method ["classes", "upper", "words", "method", "parts"] []
  m_is_method : mg "is_method" = some (.ref f_is_method)
  f_check_methods : Addr
  d_check_methods : FuncData
  F_check_methods : Fun K "check_methods" "check_methods" s_check_methods f_check_methods d_check_methods
  b_check_methods : Binds K d_check_methods ["classes", "index", "parts"] []
  m_check_methods : mg "check_methods" = some (.ref f_check_methods)
  f_check_code : Addr
  d_check_code : FuncData
  F_check_code : Fun K "check_code" "check_code" s_check_code f_check_code d_check_code
  b_check_code : Binds K d_check_code ["classes", "index", "place"] []
  m_check_code : mg "check_code" = some (.ref f_check_code)
  f_check_shells : Addr
  d_check_shells : FuncData
  F_check_shells : Fun K "check_shells" "check_shells" s_check_shells f_check_shells d_check_shells
  b_check_shells : Binds K d_check_shells ["classes", "parts"] []
  m_check_shells : mg "check_shells" = some (.ref f_check_shells)
  f_check_classes : Addr
  d_check_classes : FuncData
  F_check_classes : Fun K "check_classes" "check_classes" s_check_classes f_check_classes d_check_classes
  b_check_classes : Binds K d_check_classes ["classes"] []
  m_check_classes : mg "check_classes" = some (.ref f_check_classes)
  f_House___init__ : Addr
  d_House___init__ : FuncData
  F_House___init__ : Fun K "__init__" "House.__init__" s_House___init__ f_House___init__ d_House___init__
  b_House___init__ : Binds K d_House___init__ ["self", "classes"] []
  f_House_classes : Addr
  d_House_classes : FuncData
  F_House_classes : Fun K "classes" "House.classes" s_House_classes f_House_classes d_House_classes
  b_House_classes : Binds K d_House_classes ["self"] []
  f_check_house : Addr
  d_check_house : FuncData
  F_check_house : Fun K "check_house" "check_house" s_check_house f_check_house d_check_house
  b_check_house : Binds K d_check_house ["house"] []
  m_check_house : mg "check_house" = some (.ref f_check_house)
  f_check_name : Addr
  d_check_name : FuncData
  F_check_name : Fun K "check_name" "check_name" s_check_name f_check_name d_check_name
  b_check_name : Binds K d_check_name ["house", "name"] []
  m_check_name : mg "check_name" = some (.ref f_check_name)
  f_fields_of : Addr
  d_fields_of : FuncData
  F_fields_of : Fun K "fields_of" "fields_of" s_fields_of f_fields_of d_fields_of
  b_fields_of : Binds K d_fields_of ["house", "name"] []
  m_fields_of : mg "fields_of" = some (.ref f_fields_of)
  f__law_taken : Addr
  d__law_taken : FuncData
  F__law_taken : Fun K "_law_taken" "_law_taken" s__law_taken f__law_taken d__law_taken
  b__law_taken : Binds K d__law_taken ["row", "many"] []
  m__law_taken : mg "_law_taken" = some (.ref f__law_taken)
  f__law_pick : Addr
  d__law_pick : FuncData
  F__law_pick : Fun K "_law_pick" "_law_pick" s__law_pick f__law_pick d__law_pick
  b__law_pick : Binds K d__law_pick ["row", "things"] []
  m__law_pick : mg "_law_pick" = some (.ref f__law_pick)
  f__law_tree : Addr
  d__law_tree : FuncData
  F__law_tree : Fun K "_law_tree" "_law_tree" s__law_tree f__law_tree d__law_tree
  b__law_tree : Binds K d__law_tree ["row", "many"] []
  m__law_tree : mg "_law_tree" = some (.ref f__law_tree)
  f__law_signs : Addr
  d__law_signs : FuncData
  F__law_signs : Fun K "_law_signs" "_law_signs" s__law_signs f__law_signs d__law_signs
  b__law_signs : Binds K d__law_signs ["row", "names"] []
  m__law_signs : mg "_law_signs" = some (.ref f__law_signs)
  f__law_bare : Addr
  d__law_bare : FuncData
  F__law_bare : Fun K "_law_bare" "_law_bare" s__law_bare f__law_bare d__law_bare
  b__law_bare : Binds K d__law_bare ["row", "most"] []
  m__law_bare : mg "_law_bare" = some (.ref f__law_bare)
  f__law_row_of : Addr
  d__law_row_of : FuncData
  F__law_row_of : Fun K "_law_row_of" "_law_row_of" s__law_row_of f__law_row_of d__law_row_of
  b__law_row_of : Binds K d__law_row_of ["classes", "name"] []
  m__law_row_of : mg "_law_row_of" = some (.ref f__law_row_of)
  f__law_step : Addr
  d__law_step : FuncData
  F__law_step : Fun K "_law_step" "_law_step" s__law_step f__law_step d__law_step
  b__law_step : Binds K d__law_step ["row", "classes", "size"] []
  m__law_step : mg "_law_step" = some (.ref f__law_step)
  f__law_code : Addr
  d__law_code : FuncData
  F__law_code : Fun K "_law_code" "_law_code" s__law_code f__law_code d__law_code
  b__law_code : Binds K d__law_code ["row", "classes", "most"] []
  m__law_code : mg "_law_code" = some (.ref f__law_code)
  f__law_handlers : Addr
  d__law_handlers : FuncData
  F__law_handlers : Fun K "_law_handlers" "_law_handlers" s__law_handlers f__law_handlers d__law_handlers
  b__law_handlers : Binds K d__law_handlers ["row", "names", "size"] []
  m__law_handlers : mg "_law_handlers" = some (.ref f__law_handlers)
  f__law_classes : Addr
  d__law_classes : FuncData
  F__law_classes : Fun K "_law_classes" "_law_classes" s__law_classes f__law_classes d__law_classes
  b__law_classes : Binds K d__law_classes ["row", "most", "steps"] []
  m__law_classes : mg "_law_classes" = some (.ref f__law_classes)
  f__law_alike : Addr
  d__law_alike : FuncData
  F__law_alike : Fun K "_law_alike" "_law_alike" s__law_alike f__law_alike d__law_alike
  b__law_alike : Binds K d__law_alike ["found", "due"] []
  m__law_alike : mg "_law_alike" = some (.ref f__law_alike)
  f_law : Addr
  d_law : FuncData
  F_law : Fun K "law" "law" s_law f_law d_law
  b_law : Binds K d_law ["script"] []
  m_law : mg "law" = some (.ref f_law)
  u_TOP : Value
  v_TOP : V
  m_TOP : mg "TOP" = some u_TOP
  r_TOP : RelV v_TOP u_TOP
  k_TOP : ∀ ct, KC ⟨K, ct⟩ c_TOP v_TOP
  u_LETTERS : Value
  v_LETTERS : V
  m_LETTERS : mg "LETTERS" = some u_LETTERS
  r_LETTERS : RelV v_LETTERS u_LETTERS
  k_LETTERS : ∀ ct, KC ⟨K, ct⟩ c_LETTERS v_LETTERS
  a_PARTS : Addr
  m_PARTS : mg "PARTS" = some (.ref a_PARTS)
  t_PARTS : ∀ ct, WTab ⟨K, ct⟩ w a_PARTS tb_PARTS
  u_LAST : Value
  v_LAST : V
  m_LAST : mg "LAST" = some u_LAST
  r_LAST : RelV v_LAST u_LAST
  k_LAST : ∀ ct, KC ⟨K, ct⟩ c_LAST v_LAST
  u_TAKEN_NAMES : Value
  v_TAKEN_NAMES : V
  m_TAKEN_NAMES : mg "TAKEN_NAMES" = some u_TAKEN_NAMES
  r_TAKEN_NAMES : RelV v_TAKEN_NAMES u_TAKEN_NAMES
  k_TAKEN_NAMES : ∀ ct, KC ⟨K, ct⟩ c_TAKEN_NAMES v_TAKEN_NAMES
  z_len : mg "len" = none
  z_int : mg "int" = none
  z_str : mg "str" = none
  z_tuple : mg "tuple" = none
  z_list : mg "list" = none
  z_dict : mg "dict" = none
  z_bool : mg "bool" = none
  z_isinstance : mg "isinstance" = none
  z_all : mg "all" = none
  z_any : mg "any" = none
  z_range : mg "range" = none
  z_enumerate : mg "enumerate" = none
  z_zip : mg "zip" = none
  z_reversed : mg "reversed" = none
  z_sorted : mg "sorted" = none
  z_set : mg "set" = none
  C_House : Addr
  m_House : mg "House" = some (.ref C_House)
  cl_House : Cls K C_House
  oc_House : OwnCls K C_House
  mk_House : Mk K C_House f_House___init__
  na_House__classes : NoAttr K C_House "_classes"
  p_House_classes : Addr
  pr_House_classes : PropOf K C_House "classes" p_House_classes f_House_classes
section
variable {P : Program} {w : World} {K : PySem.W.Frag} {mg : Str → Option Value} {base : Heap}
abbrev GG (T : Txt K mg w) : Gx := ⟨K, fun c => if c = "House" then some T.C_House else none⟩
theorem ct_House (T : Txt K mg w) : (GG T).ct "House" = some T.C_House := by simp [GG]
end
end K06

set_option Elab.async false
set_option linter.all false
set_option maxRecDepth 100000
set_option maxHeartbeats 4000000
namespace K06
open PySem PySem.Spec PyProof.Rows L2 MI
def df_names_of : Df := ⟨fun K => He.ga K "names_of", "names_of", "names_of", s_names_of⟩
def df_is_class : Df := ⟨fun K => He.ga K "is_class", "is_class", "is_class", s_is_class⟩
def df_class_of : Df := ⟨fun K => He.ga K "class_of", "class_of", "class_of", s_class_of⟩
def df_line_up : Df := ⟨fun K => He.ga K "line_up", "line_up", "line_up", s_line_up⟩
def df_fields_up : Df := ⟨fun K => He.ga K "fields_up", "fields_up", "fields_up", s_fields_up⟩
def df_field_kind : Df := ⟨fun K => He.ga K "field_kind", "field_kind", "field_kind", s_field_kind⟩
def df_nearest : Df := ⟨fun K => He.ga K "nearest", "nearest", "nearest", s_nearest⟩
def df_method_at : Df := ⟨fun K => He.ga K "method_at", "method_at", "method_at", s_method_at⟩
def df_nearest_method : Df := ⟨fun K => He.ga K "nearest_method", "nearest_method", "nearest_method", s_nearest_method⟩
def df_is_word : Df := ⟨fun K => He.ga K "is_word", "is_word", "is_word", s_is_word⟩
def df_is_number : Df := ⟨fun K => He.ga K "is_number", "is_number", "is_number", s_is_number⟩
def df_is_tuple : Df := ⟨fun K => He.ga K "is_tuple", "is_tuple", "is_tuple", s_is_tuple⟩
def df_can_be_part : Df := ⟨fun K => He.ga K "can_be_part", "can_be_part", "can_be_part", s_can_be_part⟩
def df_is_step : Df := ⟨fun K => He.ga K "is_step", "is_step", "is_step", s_is_step⟩
def df_bad_step : Df := ⟨fun K => He.ga K "bad_step", "bad_step", "bad_step", s_bad_step⟩
def df_is_handler : Df := ⟨fun K => He.ga K "is_handler", "is_handler", "is_handler", s_is_handler⟩
def df_bad_handler : Df := ⟨fun K => He.ga K "bad_handler", "bad_handler", "bad_handler", s_bad_handler⟩
def df_is_new_class : Df := ⟨fun K => He.ga K "is_new_class", "is_new_class", "is_new_class", s_is_new_class⟩
def df_check_names : Df := ⟨fun K => He.ga K "check_names", "check_names", "check_names", s_check_names⟩
def df_is_told_kind : Df := ⟨fun K => He.ga K "is_told_kind", "is_told_kind", "is_told_kind", s_is_told_kind⟩
def df_are_fields : Df := ⟨fun K => He.ga K "are_fields", "are_fields", "are_fields", s_are_fields⟩
def df_is_method : Df := ⟨fun K => He.ga K "is_method", "is_method", "is_method", s_is_method⟩
def df_check_methods : Df := ⟨fun K => He.ga K "check_methods", "check_methods", "check_methods", s_check_methods⟩
def df_check_code : Df := ⟨fun K => He.ga K "check_code", "check_code", "check_code", s_check_code⟩
def df_check_shells : Df := ⟨fun K => He.ga K "check_shells", "check_shells", "check_shells", s_check_shells⟩
def df_check_classes : Df := ⟨fun K => He.ga K "check_classes", "check_classes", "check_classes", s_check_classes⟩
def df_House___init__ : Df := ⟨fun K => He.ma K (He.ga K "House") "__init__", "__init__", "House.__init__", s_House___init__⟩
def df_House_classes : Df := ⟨fun K => prG K (He.ga K "House") "classes", "classes", "House.classes", s_House_classes⟩
def df_check_house : Df := ⟨fun K => He.ga K "check_house", "check_house", "check_house", s_check_house⟩
def df_check_name : Df := ⟨fun K => He.ga K "check_name", "check_name", "check_name", s_check_name⟩
def df_fields_of : Df := ⟨fun K => He.ga K "fields_of", "fields_of", "fields_of", s_fields_of⟩
def df__law_taken : Df := ⟨fun K => He.ga K "_law_taken", "_law_taken", "_law_taken", s__law_taken⟩
def df__law_pick : Df := ⟨fun K => He.ga K "_law_pick", "_law_pick", "_law_pick", s__law_pick⟩
def df__law_tree : Df := ⟨fun K => He.ga K "_law_tree", "_law_tree", "_law_tree", s__law_tree⟩
def df__law_signs : Df := ⟨fun K => He.ga K "_law_signs", "_law_signs", "_law_signs", s__law_signs⟩
def df__law_bare : Df := ⟨fun K => He.ga K "_law_bare", "_law_bare", "_law_bare", s__law_bare⟩
def df__law_row_of : Df := ⟨fun K => He.ga K "_law_row_of", "_law_row_of", "_law_row_of", s__law_row_of⟩
def df__law_step : Df := ⟨fun K => He.ga K "_law_step", "_law_step", "_law_step", s__law_step⟩
def df__law_code : Df := ⟨fun K => He.ga K "_law_code", "_law_code", "_law_code", s__law_code⟩
def df__law_handlers : Df := ⟨fun K => He.ga K "_law_handlers", "_law_handlers", "_law_handlers", s__law_handlers⟩
def df__law_classes : Df := ⟨fun K => He.ga K "_law_classes", "_law_classes", "_law_classes", s__law_classes⟩
def df__law_alike : Df := ⟨fun K => He.ga K "_law_alike", "_law_alike", "_law_alike", s__law_alike⟩
def df_law : Df := ⟨fun K => He.ga K "law", "law", "law", s_law⟩
def fs : List Df := [df_names_of, df_is_class, df_class_of, df_line_up, df_fields_up, df_field_kind, df_nearest, df_method_at, df_nearest_method, df_is_word, df_is_number, df_is_tuple, df_can_be_part, df_is_step, df_bad_step, df_is_handler, df_bad_handler, df_is_new_class, df_check_names, df_is_told_kind, df_are_fields, df_is_method, df_check_methods, df_check_code, df_check_shells, df_check_classes, df_House___init__, df_House_classes, df_check_house, df_check_name, df_fields_of, df__law_taken, df__law_pick, df__law_tree, df__law_signs, df__law_bare, df__law_row_of, df__law_step, df__law_code, df__law_handlers, df__law_classes, df__law_alike, df_law]
def tt_PARTS : He.Tab := (fun K => He.ga K "PARTS", ["push", "none", "take", "keep", "add", "less", "same", "new", "cast", "is", "get", "put", "call", "go", "if", "give", "throw", "enter", "leave", "copy", "drop", "print"])
def fa : List He.Fa := [.glo "names_of", .glo "is_class", .glo "class_of", .glo "line_up", .glo "fields_up", .glo "field_kind", .glo "nearest", .glo "method_at", .glo "nearest_method", .glo "is_word", .glo "is_number", .glo "is_tuple", .glo "can_be_part", .glo "is_step", .glo "bad_step", .glo "is_handler", .glo "bad_handler", .glo "is_new_class", .glo "check_names", .glo "is_told_kind", .glo "are_fields", .glo "is_method", .glo "check_methods", .glo "check_code", .glo "check_shells", .glo "check_classes", .glo "check_house", .glo "check_name", .glo "fields_of", .glo "_law_taken", .glo "_law_pick", .glo "_law_tree", .glo "_law_signs", .glo "_law_bare", .glo "_law_row_of", .glo "_law_step", .glo "_law_code", .glo "_law_handlers", .glo "_law_classes", .glo "_law_alike", .glo "law", .glo "PARTS", .free "len", .free "int", .free "str", .free "tuple", .free "list", .free "dict", .free "bool", .free "isinstance", .free "all", .free "any", .free "range", .free "enumerate", .free "zip", .free "reversed", .free "sorted", .free "set", .cls "House", .glo "House", .mkr "House", .noat "House" "_classes"]
def ts : List He.Tab := [tt_PARTS]
def exs : List (Fr → Bool) := [fun K => conK K "TOP" c_TOP, fun K => conK K "LETTERS" c_LETTERS, fun K => tabK K (He.ga K "PARTS") tb_PARTS, fun K => conK K "LAST" c_LAST, fun K => conK K "TAKEN_NAMES" c_TAKEN_NAMES, fun K => ownB K (He.ga K "House"), fun K => prB K (He.ga K "House") "classes"]
def ex (K : Fr) : Bool := exs.all fun e => e K
theorem exs_at {K : Fr} (h : ex K = true) (i : Nat) {e : Fr → Bool} (hi : exs[i]? = some e) : e K = true := List.all_eq_true.mp h e (List.mem_of_getElem? hi)
theorem all_txt {h : Heap} {mg : Str → Option Value} {w : World} {K : Fr} (X : K.In h) (G : h.Ns mainGlobals mg) (c : Told fa ts ex fs w K) : ∃ T : Txt K mg w, T.f_law = He.ga K "law" := by
  obtain ⟨d_names_of, F_names_of⟩ := c.df 0 (d := df_names_of) rfl
  obtain ⟨d_is_class, F_is_class⟩ := c.df 1 (d := df_is_class) rfl
  obtain ⟨d_class_of, F_class_of⟩ := c.df 2 (d := df_class_of) rfl
  obtain ⟨d_line_up, F_line_up⟩ := c.df 3 (d := df_line_up) rfl
  obtain ⟨d_fields_up, F_fields_up⟩ := c.df 4 (d := df_fields_up) rfl
  obtain ⟨d_field_kind, F_field_kind⟩ := c.df 5 (d := df_field_kind) rfl
  obtain ⟨d_nearest, F_nearest⟩ := c.df 6 (d := df_nearest) rfl
  obtain ⟨d_method_at, F_method_at⟩ := c.df 7 (d := df_method_at) rfl
  obtain ⟨d_nearest_method, F_nearest_method⟩ := c.df 8 (d := df_nearest_method) rfl
  obtain ⟨d_is_word, F_is_word⟩ := c.df 9 (d := df_is_word) rfl
  obtain ⟨d_is_number, F_is_number⟩ := c.df 10 (d := df_is_number) rfl
  obtain ⟨d_is_tuple, F_is_tuple⟩ := c.df 11 (d := df_is_tuple) rfl
  obtain ⟨d_can_be_part, F_can_be_part⟩ := c.df 12 (d := df_can_be_part) rfl
  obtain ⟨d_is_step, F_is_step⟩ := c.df 13 (d := df_is_step) rfl
  obtain ⟨d_bad_step, F_bad_step⟩ := c.df 14 (d := df_bad_step) rfl
  obtain ⟨d_is_handler, F_is_handler⟩ := c.df 15 (d := df_is_handler) rfl
  obtain ⟨d_bad_handler, F_bad_handler⟩ := c.df 16 (d := df_bad_handler) rfl
  obtain ⟨d_is_new_class, F_is_new_class⟩ := c.df 17 (d := df_is_new_class) rfl
  obtain ⟨d_check_names, F_check_names⟩ := c.df 18 (d := df_check_names) rfl
  obtain ⟨d_is_told_kind, F_is_told_kind⟩ := c.df 19 (d := df_is_told_kind) rfl
  obtain ⟨d_are_fields, F_are_fields⟩ := c.df 20 (d := df_are_fields) rfl
  obtain ⟨d_is_method, F_is_method⟩ := c.df 21 (d := df_is_method) rfl
  obtain ⟨d_check_methods, F_check_methods⟩ := c.df 22 (d := df_check_methods) rfl
  obtain ⟨d_check_code, F_check_code⟩ := c.df 23 (d := df_check_code) rfl
  obtain ⟨d_check_shells, F_check_shells⟩ := c.df 24 (d := df_check_shells) rfl
  obtain ⟨d_check_classes, F_check_classes⟩ := c.df 25 (d := df_check_classes) rfl
  obtain ⟨d_House___init__, F_House___init__⟩ := c.df 26 (d := df_House___init__) rfl
  obtain ⟨d_House_classes, F_House_classes⟩ := c.df 27 (d := df_House_classes) rfl
  obtain ⟨d_check_house, F_check_house⟩ := c.df 28 (d := df_check_house) rfl
  obtain ⟨d_check_name, F_check_name⟩ := c.df 29 (d := df_check_name) rfl
  obtain ⟨d_fields_of, F_fields_of⟩ := c.df 30 (d := df_fields_of) rfl
  obtain ⟨d__law_taken, F__law_taken⟩ := c.df 31 (d := df__law_taken) rfl
  obtain ⟨d__law_pick, F__law_pick⟩ := c.df 32 (d := df__law_pick) rfl
  obtain ⟨d__law_tree, F__law_tree⟩ := c.df 33 (d := df__law_tree) rfl
  obtain ⟨d__law_signs, F__law_signs⟩ := c.df 34 (d := df__law_signs) rfl
  obtain ⟨d__law_bare, F__law_bare⟩ := c.df 35 (d := df__law_bare) rfl
  obtain ⟨d__law_row_of, F__law_row_of⟩ := c.df 36 (d := df__law_row_of) rfl
  obtain ⟨d__law_step, F__law_step⟩ := c.df 37 (d := df__law_step) rfl
  obtain ⟨d__law_code, F__law_code⟩ := c.df 38 (d := df__law_code) rfl
  obtain ⟨d__law_handlers, F__law_handlers⟩ := c.df 39 (d := df__law_handlers) rfl
  obtain ⟨d__law_classes, F__law_classes⟩ := c.df 40 (d := df__law_classes) rfl
  obtain ⟨d__law_alike, F__law_alike⟩ := c.df 41 (d := df__law_alike) rfl
  obtain ⟨d_law, F_law⟩ := c.df 42 (d := df_law) rfl
  obtain ⟨u_TOP, v_TOP, m_TOP, r_TOP, k_TOP⟩ := conK_ok (x := "TOP") (w := c_TOP) X G (exs_at c.ex 0 (e := fun K => conK K "TOP" c_TOP) rfl)
  obtain ⟨u_LETTERS, v_LETTERS, m_LETTERS, r_LETTERS, k_LETTERS⟩ := conK_ok (x := "LETTERS") (w := c_LETTERS) X G (exs_at c.ex 1 (e := fun K => conK K "LETTERS" c_LETTERS) rfl)
  have tb0 := c.t.tab 0 (t := tt_PARTS) rfl
  obtain ⟨u_LAST, v_LAST, m_LAST, r_LAST, k_LAST⟩ := conK_ok (x := "LAST") (w := c_LAST) X G (exs_at c.ex 3 (e := fun K => conK K "LAST" c_LAST) rfl)
  obtain ⟨u_TAKEN_NAMES, v_TAKEN_NAMES, m_TAKEN_NAMES, r_TAKEN_NAMES, k_TAKEN_NAMES⟩ := conK_ok (x := "TAKEN_NAMES") (w := c_TAKEN_NAMES) X G (exs_at c.ex 4 (e := fun K => conK K "TAKEN_NAMES" c_TAKEN_NAMES) rfl)
  exact ⟨{ f_names_of := He.ga K "names_of", d_names_of := d_names_of, F_names_of := F_names_of, b_names_of := F_names_of.binds (ps := ["classes"]) (fun _ _ _ _ _ _ us hl => match us, hl with | [_], _ => rfl),
              m_names_of := He.glo_ok X G (c.t.d.fact 0 (f := .glo "names_of") rfl),
              f_is_class := He.ga K "is_class", d_is_class := d_is_class, F_is_class := F_is_class, b_is_class := F_is_class.binds (ps := ["classes", "name"]) (fun _ _ _ _ _ _ us hl => match us, hl with | [_, _], _ => rfl),
              m_is_class := He.glo_ok X G (c.t.d.fact 1 (f := .glo "is_class") rfl),
              f_class_of := He.ga K "class_of", d_class_of := d_class_of, F_class_of := F_class_of, b_class_of := F_class_of.binds (ps := ["classes", "name"]) (fun _ _ _ _ _ _ us hl => match us, hl with | [_, _], _ => rfl),
              m_class_of := He.glo_ok X G (c.t.d.fact 2 (f := .glo "class_of") rfl),
              f_line_up := He.ga K "line_up", d_line_up := d_line_up, F_line_up := F_line_up, b_line_up := F_line_up.binds (ps := ["classes", "name"]) (fun _ _ _ _ _ _ us hl => match us, hl with | [_, _], _ => rfl),
              m_line_up := He.glo_ok X G (c.t.d.fact 3 (f := .glo "line_up") rfl),
              f_fields_up := He.ga K "fields_up", d_fields_up := d_fields_up, F_fields_up := F_fields_up, b_fields_up := F_fields_up.binds (ps := ["classes", "name"]) (fun _ _ _ _ _ _ us hl => match us, hl with | [_, _], _ => rfl),
              m_fields_up := He.glo_ok X G (c.t.d.fact 4 (f := .glo "fields_up") rfl),
              f_field_kind := He.ga K "field_kind", d_field_kind := d_field_kind, F_field_kind := F_field_kind, b_field_kind := F_field_kind.binds (ps := ["classes", "name", "word"]) (fun _ _ _ _ _ _ us hl => match us, hl with | [_, _, _], _ => rfl),
              m_field_kind := He.glo_ok X G (c.t.d.fact 5 (f := .glo "field_kind") rfl),
              f_nearest := He.ga K "nearest", d_nearest := d_nearest, F_nearest := F_nearest, b_nearest := F_nearest.binds (ps := ["classes", "name", "word"]) (fun _ _ _ _ _ _ us hl => match us, hl with | [_, _, _], _ => rfl),
              m_nearest := He.glo_ok X G (c.t.d.fact 6 (f := .glo "nearest") rfl),
              f_method_at := He.ga K "method_at", d_method_at := d_method_at, F_method_at := F_method_at, b_method_at := F_method_at.binds (ps := ["classes", "name", "place"]) (fun _ _ _ _ _ _ us hl => match us, hl with | [_, _, _], _ => rfl),
              m_method_at := He.glo_ok X G (c.t.d.fact 7 (f := .glo "method_at") rfl),
              f_nearest_method := He.ga K "nearest_method", d_nearest_method := d_nearest_method, F_nearest_method := F_nearest_method, b_nearest_method := F_nearest_method.binds (ps := ["classes", "name", "word"]) (fun _ _ _ _ _ _ us hl => match us, hl with | [_, _, _], _ => rfl),
              m_nearest_method := He.glo_ok X G (c.t.d.fact 8 (f := .glo "nearest_method") rfl),
              f_is_word := He.ga K "is_word", d_is_word := d_is_word, F_is_word := F_is_word, b_is_word := F_is_word.binds (ps := ["value"]) (fun _ _ _ _ _ _ us hl => match us, hl with | [_], _ => rfl),
              m_is_word := He.glo_ok X G (c.t.d.fact 9 (f := .glo "is_word") rfl),
              f_is_number := He.ga K "is_number", d_is_number := d_is_number, F_is_number := F_is_number, b_is_number := F_is_number.binds (ps := ["value", "most"]) (fun _ _ _ _ _ _ us hl => match us, hl with | [_, _], _ => rfl),
              m_is_number := He.glo_ok X G (c.t.d.fact 10 (f := .glo "is_number") rfl),
              f_is_tuple := He.ga K "is_tuple", d_is_tuple := d_is_tuple, F_is_tuple := F_is_tuple, b_is_tuple := F_is_tuple.binds (ps := ["value", "least", "most"]) (fun _ _ _ _ _ _ us hl => match us, hl with | [_, _, _], _ => rfl),
              m_is_tuple := He.glo_ok X G (c.t.d.fact 11 (f := .glo "is_tuple") rfl),
              f_can_be_part := He.ga K "can_be_part", d_can_be_part := d_can_be_part, F_can_be_part := F_can_be_part, b_can_be_part := F_can_be_part.binds (ps := ["classes", "many", "part", "step", "value"]) (fun _ _ _ _ _ _ us hl => match us, hl with | [_, _, _, _, _], _ => rfl),
              m_can_be_part := He.glo_ok X G (c.t.d.fact 12 (f := .glo "can_be_part") rfl),
              f_is_step := He.ga K "is_step", d_is_step := d_is_step, F_is_step := F_is_step, b_is_step := F_is_step.binds (ps := ["classes", "many", "step"]) (fun _ _ _ _ _ _ us hl => match us, hl with | [_, _, _], _ => rfl),
              m_is_step := He.glo_ok X G (c.t.d.fact 13 (f := .glo "is_step") rfl),
              f_bad_step := He.ga K "bad_step", d_bad_step := d_bad_step, F_bad_step := F_bad_step, b_bad_step := F_bad_step.binds (ps := ["classes", "code"]) (fun _ _ _ _ _ _ us hl => match us, hl with | [_, _], _ => rfl),
              m_bad_step := He.glo_ok X G (c.t.d.fact 14 (f := .glo "bad_step") rfl),
              f_is_handler := He.ga K "is_handler", d_is_handler := d_is_handler, F_is_handler := F_is_handler, b_is_handler := F_is_handler.binds (ps := ["classes", "many", "row"]) (fun _ _ _ _ _ _ us hl => match us, hl with | [_, _, _], _ => rfl),
              m_is_handler := He.glo_ok X G (c.t.d.fact 15 (f := .glo "is_handler") rfl),
              f_bad_handler := He.ga K "bad_handler", d_bad_handler := d_bad_handler, F_bad_handler := F_bad_handler, b_bad_handler := F_bad_handler.binds (ps := ["classes", "many", "handlers"]) (fun _ _ _ _ _ _ us hl => match us, hl with | [_, _, _], _ => rfl),
              m_bad_handler := He.glo_ok X G (c.t.d.fact 16 (f := .glo "bad_handler") rfl),
              f_is_new_class := He.ga K "is_new_class", d_is_new_class := d_is_new_class, F_is_new_class := F_is_new_class, b_is_new_class := F_is_new_class.binds (ps := ["earlier", "row"]) (fun _ _ _ _ _ _ us hl => match us, hl with | [_, _], _ => rfl),
              m_is_new_class := He.glo_ok X G (c.t.d.fact 17 (f := .glo "is_new_class") rfl),
              f_check_names := He.ga K "check_names", d_check_names := d_check_names, F_check_names := F_check_names, b_check_names := F_check_names.binds (ps := ["classes"]) (fun _ _ _ _ _ _ us hl => match us, hl with | [_], _ => rfl),
              m_check_names := He.glo_ok X G (c.t.d.fact 18 (f := .glo "check_names") rfl),
              f_is_told_kind := He.ga K "is_told_kind", d_is_told_kind := d_is_told_kind, F_is_told_kind := F_is_told_kind, b_is_told_kind := F_is_told_kind.binds (ps := ["classes", "value"]) (fun _ _ _ _ _ _ us hl => match us, hl with | [_, _], _ => rfl),
              m_is_told_kind := He.glo_ok X G (c.t.d.fact 19 (f := .glo "is_told_kind") rfl),
              f_are_fields := He.ga K "are_fields", d_are_fields := d_are_fields, F_are_fields := F_are_fields, b_are_fields := F_are_fields.binds (ps := ["classes", "upper", "fields"]) (fun _ _ _ _ _ _ us hl => match us, hl with | [_, _, _], _ => rfl),
              m_are_fields := He.glo_ok X G (c.t.d.fact 20 (f := .glo "are_fields") rfl),
              f_is_method := He.ga K "is_method", d_is_method := d_is_method, F_is_method := F_is_method, b_is_method := F_is_method.binds (ps := ["classes", "upper", "words", "method", "parts"]) (fun _ _ _ _ _ _ us hl => match us, hl with | [_, _, _, _, _], _ => rfl),
              m_is_method := He.glo_ok X G (c.t.d.fact 21 (f := .glo "is_method") rfl),
              f_check_methods := He.ga K "check_methods", d_check_methods := d_check_methods, F_check_methods := F_check_methods, b_check_methods := F_check_methods.binds (ps := ["classes", "index", "parts"]) (fun _ _ _ _ _ _ us hl => match us, hl with | [_, _, _], _ => rfl),
              m_check_methods := He.glo_ok X G (c.t.d.fact 22 (f := .glo "check_methods") rfl),
              f_check_code := He.ga K "check_code", d_check_code := d_check_code, F_check_code := F_check_code, b_check_code := F_check_code.binds (ps := ["classes", "index", "place"]) (fun _ _ _ _ _ _ us hl => match us, hl with | [_, _, _], _ => rfl),
              m_check_code := He.glo_ok X G (c.t.d.fact 23 (f := .glo "check_code") rfl),
              f_check_shells := He.ga K "check_shells", d_check_shells := d_check_shells, F_check_shells := F_check_shells, b_check_shells := F_check_shells.binds (ps := ["classes", "parts"]) (fun _ _ _ _ _ _ us hl => match us, hl with | [_, _], _ => rfl),
              m_check_shells := He.glo_ok X G (c.t.d.fact 24 (f := .glo "check_shells") rfl),
              f_check_classes := He.ga K "check_classes", d_check_classes := d_check_classes, F_check_classes := F_check_classes, b_check_classes := F_check_classes.binds (ps := ["classes"]) (fun _ _ _ _ _ _ us hl => match us, hl with | [_], _ => rfl),
              m_check_classes := He.glo_ok X G (c.t.d.fact 25 (f := .glo "check_classes") rfl),
              f_House___init__ := He.ma K (He.ga K "House") "__init__", d_House___init__ := d_House___init__, F_House___init__ := F_House___init__, b_House___init__ := F_House___init__.binds (ps := ["self", "classes"]) (fun _ _ _ _ _ _ us hl => match us, hl with | [_, _], _ => rfl),
              f_House_classes := prG K (He.ga K "House") "classes", d_House_classes := d_House_classes, F_House_classes := F_House_classes, b_House_classes := F_House_classes.binds (ps := ["self"]) (fun _ _ _ _ _ _ us hl => match us, hl with | [_], _ => rfl),
              f_check_house := He.ga K "check_house", d_check_house := d_check_house, F_check_house := F_check_house, b_check_house := F_check_house.binds (ps := ["house"]) (fun _ _ _ _ _ _ us hl => match us, hl with | [_], _ => rfl),
              m_check_house := He.glo_ok X G (c.t.d.fact 26 (f := .glo "check_house") rfl),
              f_check_name := He.ga K "check_name", d_check_name := d_check_name, F_check_name := F_check_name, b_check_name := F_check_name.binds (ps := ["house", "name"]) (fun _ _ _ _ _ _ us hl => match us, hl with | [_, _], _ => rfl),
              m_check_name := He.glo_ok X G (c.t.d.fact 27 (f := .glo "check_name") rfl),
              f_fields_of := He.ga K "fields_of", d_fields_of := d_fields_of, F_fields_of := F_fields_of, b_fields_of := F_fields_of.binds (ps := ["house", "name"]) (fun _ _ _ _ _ _ us hl => match us, hl with | [_, _], _ => rfl),
              m_fields_of := He.glo_ok X G (c.t.d.fact 28 (f := .glo "fields_of") rfl),
              f__law_taken := He.ga K "_law_taken", d__law_taken := d__law_taken, F__law_taken := F__law_taken, b__law_taken := F__law_taken.binds (ps := ["row", "many"]) (fun _ _ _ _ _ _ us hl => match us, hl with | [_, _], _ => rfl),
              m__law_taken := He.glo_ok X G (c.t.d.fact 29 (f := .glo "_law_taken") rfl),
              f__law_pick := He.ga K "_law_pick", d__law_pick := d__law_pick, F__law_pick := F__law_pick, b__law_pick := F__law_pick.binds (ps := ["row", "things"]) (fun _ _ _ _ _ _ us hl => match us, hl with | [_, _], _ => rfl),
              m__law_pick := He.glo_ok X G (c.t.d.fact 30 (f := .glo "_law_pick") rfl),
              f__law_tree := He.ga K "_law_tree", d__law_tree := d__law_tree, F__law_tree := F__law_tree, b__law_tree := F__law_tree.binds (ps := ["row", "many"]) (fun _ _ _ _ _ _ us hl => match us, hl with | [_, _], _ => rfl),
              m__law_tree := He.glo_ok X G (c.t.d.fact 31 (f := .glo "_law_tree") rfl),
              f__law_signs := He.ga K "_law_signs", d__law_signs := d__law_signs, F__law_signs := F__law_signs, b__law_signs := F__law_signs.binds (ps := ["row", "names"]) (fun _ _ _ _ _ _ us hl => match us, hl with | [_, _], _ => rfl),
              m__law_signs := He.glo_ok X G (c.t.d.fact 32 (f := .glo "_law_signs") rfl),
              f__law_bare := He.ga K "_law_bare", d__law_bare := d__law_bare, F__law_bare := F__law_bare, b__law_bare := F__law_bare.binds (ps := ["row", "most"]) (fun _ _ _ _ _ _ us hl => match us, hl with | [_, _], _ => rfl),
              m__law_bare := He.glo_ok X G (c.t.d.fact 33 (f := .glo "_law_bare") rfl),
              f__law_row_of := He.ga K "_law_row_of", d__law_row_of := d__law_row_of, F__law_row_of := F__law_row_of, b__law_row_of := F__law_row_of.binds (ps := ["classes", "name"]) (fun _ _ _ _ _ _ us hl => match us, hl with | [_, _], _ => rfl),
              m__law_row_of := He.glo_ok X G (c.t.d.fact 34 (f := .glo "_law_row_of") rfl),
              f__law_step := He.ga K "_law_step", d__law_step := d__law_step, F__law_step := F__law_step, b__law_step := F__law_step.binds (ps := ["row", "classes", "size"]) (fun _ _ _ _ _ _ us hl => match us, hl with | [_, _, _], _ => rfl),
              m__law_step := He.glo_ok X G (c.t.d.fact 35 (f := .glo "_law_step") rfl),
              f__law_code := He.ga K "_law_code", d__law_code := d__law_code, F__law_code := F__law_code, b__law_code := F__law_code.binds (ps := ["row", "classes", "most"]) (fun _ _ _ _ _ _ us hl => match us, hl with | [_, _, _], _ => rfl),
              m__law_code := He.glo_ok X G (c.t.d.fact 36 (f := .glo "_law_code") rfl),
              f__law_handlers := He.ga K "_law_handlers", d__law_handlers := d__law_handlers, F__law_handlers := F__law_handlers, b__law_handlers := F__law_handlers.binds (ps := ["row", "names", "size"]) (fun _ _ _ _ _ _ us hl => match us, hl with | [_, _, _], _ => rfl),
              m__law_handlers := He.glo_ok X G (c.t.d.fact 37 (f := .glo "_law_handlers") rfl),
              f__law_classes := He.ga K "_law_classes", d__law_classes := d__law_classes, F__law_classes := F__law_classes, b__law_classes := F__law_classes.binds (ps := ["row", "most", "steps"]) (fun _ _ _ _ _ _ us hl => match us, hl with | [_, _, _], _ => rfl),
              m__law_classes := He.glo_ok X G (c.t.d.fact 38 (f := .glo "_law_classes") rfl),
              f__law_alike := He.ga K "_law_alike", d__law_alike := d__law_alike, F__law_alike := F__law_alike, b__law_alike := F__law_alike.binds (ps := ["found", "due"]) (fun _ _ _ _ _ _ us hl => match us, hl with | [_, _], _ => rfl),
              m__law_alike := He.glo_ok X G (c.t.d.fact 39 (f := .glo "_law_alike") rfl),
              f_law := He.ga K "law", d_law := d_law, F_law := F_law, b_law := F_law.binds (ps := ["script"]) (fun _ _ _ _ _ _ us hl => match us, hl with | [_], _ => rfl),
              m_law := He.glo_ok X G (c.t.d.fact 40 (f := .glo "law") rfl),
              u_TOP := u_TOP, v_TOP := v_TOP, m_TOP := m_TOP, r_TOP := r_TOP, k_TOP := k_TOP,
              u_LETTERS := u_LETTERS, v_LETTERS := v_LETTERS, m_LETTERS := m_LETTERS, r_LETTERS := r_LETTERS, k_LETTERS := k_LETTERS,
              a_PARTS := He.ga K "PARTS", m_PARTS := He.glo_ok X G (c.t.d.fact 41 (f := .glo "PARTS") rfl), t_PARTS := tabK_ok tb0 (exs_at c.ex 2 (e := fun K => tabK K (He.ga K "PARTS") tb_PARTS) rfl),
              u_LAST := u_LAST, v_LAST := v_LAST, m_LAST := m_LAST, r_LAST := r_LAST, k_LAST := k_LAST,
              u_TAKEN_NAMES := u_TAKEN_NAMES, v_TAKEN_NAMES := v_TAKEN_NAMES, m_TAKEN_NAMES := m_TAKEN_NAMES, r_TAKEN_NAMES := r_TAKEN_NAMES, k_TAKEN_NAMES := k_TAKEN_NAMES,
              z_len := He.free_ok X G (c.t.d.fact 42 (f := .free "len") rfl),
              z_int := He.free_ok X G (c.t.d.fact 43 (f := .free "int") rfl),
              z_str := He.free_ok X G (c.t.d.fact 44 (f := .free "str") rfl),
              z_tuple := He.free_ok X G (c.t.d.fact 45 (f := .free "tuple") rfl),
              z_list := He.free_ok X G (c.t.d.fact 46 (f := .free "list") rfl),
              z_dict := He.free_ok X G (c.t.d.fact 47 (f := .free "dict") rfl),
              z_bool := He.free_ok X G (c.t.d.fact 48 (f := .free "bool") rfl),
              z_isinstance := He.free_ok X G (c.t.d.fact 49 (f := .free "isinstance") rfl),
              z_all := He.free_ok X G (c.t.d.fact 50 (f := .free "all") rfl),
              z_any := He.free_ok X G (c.t.d.fact 51 (f := .free "any") rfl),
              z_range := He.free_ok X G (c.t.d.fact 52 (f := .free "range") rfl),
              z_enumerate := He.free_ok X G (c.t.d.fact 53 (f := .free "enumerate") rfl),
              z_zip := He.free_ok X G (c.t.d.fact 54 (f := .free "zip") rfl),
              z_reversed := He.free_ok X G (c.t.d.fact 55 (f := .free "reversed") rfl),
              z_sorted := He.free_ok X G (c.t.d.fact 56 (f := .free "sorted") rfl),
              z_set := He.free_ok X G (c.t.d.fact 57 (f := .free "set") rfl),
              C_House := (He.ga K "House"), m_House := He.glo_ok X G (c.t.d.fact 59 (f := .glo "House") rfl), cl_House := (He.cls_ok (c.t.d.fact 58 (f := .cls "House") rfl)), oc_House := ownB_ok (He.cls_ok (c.t.d.fact 58 (f := .cls "House") rfl)) (exs_at c.ex 5 (e := fun K => ownB K (He.ga K "House")) rfl), mk_House := He.mkr_ok (c.t.d.fact 60 (f := .mkr "House") rfl),
              na_House__classes := He.noat_ok (c.t.d.fact 61 (f := .noat "House" "_classes") rfl),
              p_House_classes := prP K (He.ga K "House") "classes", pr_House_classes := prB_ok (exs_at c.ex 6 (e := fun K => prB K (He.ga K "House") "classes") rfl) }, rfl⟩
def nm0 : List PySem.Str := ["__name__", "ClassError", "BadClasses", "BadFields", "BadMethods", "BadCode", "BadHandlers", "NoHouse", "BadName", "TOP", "is_class", "names_of", "class_of", "line_up", "fields_up", "field_kind", "nearest", "method_at", "nearest_method", "LETTERS", "is_word", "is_number", "is_tuple", "PARTS", "LAST", "can_be_part", "is_step", "bad_step", "is_handler", "bad_handler"]
def nm1 : List PySem.Str := ["TAKEN_NAMES", "is_new_class", "check_names", "is_told_kind", "are_fields", "is_method", "check_methods", "check_code", "check_shells", "check_classes", "House", "check_house", "check_name", "fields_of", "_law_taken", "_law_pick", "_law_tree", "_law_signs", "_law_bare", "_law_row_of", "_law_step", "_law_code", "_law_handlers", "_law_classes", "_law_alike"]
def tnames : List PySem.Str := nm0 ++ nm1
abbrev R : PySem.W.OpenRow := PySem.W.OpenLaw.row PySem.Challenge.rw_classhouse_k06_whole_fields
abbrev qv : Program := PySem.W.view R.prog [62]
abbrev hk : PySem.W.Hook := hookM 6 fa ts ex fs
def lk (s : PySem.W.SharedT) : MI.Seen := lookT 6 fa ts ex fs s
theorem run_false (w : World) : HandSHeadRun.RunEq R qv hk lk 5600 tnames (w.withFollow "special-get-raises" false) := by
  intro os
  kernel_rfl
theorem run_true (w : World) : HandSHeadRun.RunEq R qv hk lk 5600 tnames (w.withFollow "special-get-raises" true) := by
  intro os
  kernel_rfl
theorem run (w : World) : HandSHeadRun.RunEq R qv hk lk 5600 tnames w := PySem.W.byRow2 "special-get-raises" (P := fun w => HandSHeadRun.RunEq R qv hk lk 5600 tnames w) run_false run_true w
end K06

set_option Elab.async false
set_option linter.all false
set_option maxRecDepth 100000
/-! Reading denotations: what must hold of an end (E: of what is raised, Q: of what comes). -/
namespace MI
open PySem PySem.Spec PyProof.Rows L2
abbrev EX := Str → List (Str × MV) → Store → Prop
def wp {α : Type} (r : Res α) (E : EX) (Q : α → Store → Prop) : Prop := match r with
  | .ok a S => Q a S
  | .err c fs S => E c fs S
  | .stuck => False
section
variable {α β : Type} {E E' : EX} {S : Store} {ρ : Env'}
theorem wp.mono {r : Res α} {Q Q' : α → Store → Prop} (h : wp r E Q) (k : ∀ a S', Q a S' → Q' a S') : wp r E Q' := by
  cases r with
  | ok a S' => exact k a S' h
  | err c fs S' => exact h
  | stuck => exact h
theorem wp.ex {r : Res α} {Q : α → Store → Prop} (h : wp r (fun _ _ _ => False) Q) : ∃ a S', r = .ok a S' ∧ Q a S' := by
  cases r with
  | ok a S' => exact ⟨a, S', rfl, h⟩
  | err c fs S' => exact h.elim
  | stuck => exact h.elim
theorem wp_ok {a : α} {Q : α → Store → Prop} : wp (.ok a S) E Q = Q a S := rfl
theorem wp_bind {r : Res α} {f : α → Store → Res β} {Q : β → Store → Prop} : wp (r.bind f) E Q = wp r E fun a S1 => wp (f a S1) E Q := by
  cases r <;> rfl
theorem wp_bindS {r : Res α} {f : α → Store → Res Fl} {Q : Fl → Store → Prop} : wp (r.bindS ρ f) E Q = wp r (fun c fs S1 => Q (.exc c fs ρ) S1) fun a S1 => wp (f a S1) E Q := by
  cases r <;> rfl
theorem wp_ite {c : Prop} [Decidable c] {x y : Res α} {Q : α → Store → Prop} : wp (if c then x else y) E Q = if c then wp x E Q else wp y E Q := by
  split <;> rfl
theorem wp_iteR {c : Prop} [Decidable c] {x : Res α} {Q : α → Store → Prop} : wp (if c then x else .stuck) E Q = (c ∧ wp x E Q) := by
  by_cases h : c
  · rw [if_pos h]; simp [h]
  · rw [if_neg h]; simp [h, wp]
/-! expressions -/
variable {Q : MV → Store → Prop} {QL : List MV → Store → Prop} {QB : Bool → Store → Prop} {QF : Fl → Store → Prop} {QI : Src → Store → Prop} {QE : Env' → Store → Prop} {QO : Option Int → Store → Prop}
theorem wp_var {i : Nat} : wp (dVar i ρ S) E Q = ∃ w, ρ[i]? = some (some w) ∧ Q w S := by
  unfold dVar
  generalize ρ[i]? = o
  apply propext
  cases o with
  | none => exact ⟨fun h => False.elim h, fun ⟨v, e, _⟩ => by cases e⟩
  | some o => cases o with
    | none => exact ⟨fun h => False.elim h, fun ⟨v, e, _⟩ => by cases e⟩
    | some w => exact ⟨fun h => ⟨w, rfl, h⟩, fun ⟨v, e, h⟩ => by cases e; exact h⟩
theorem wp_c {w : MV} : wp (dC w ρ S) E Q = Q w S := rfl
theorem wp_bin {f : MV → MV → Store → Res MV} {a b : Den} : wp (dBin f a b ρ S) E Q = wp (a ρ S) E fun x S1 => wp (b ρ S1) E fun y S2 => wp (f x y S2) E Q := by
  unfold dBin
  simp only [wp_bind]
theorem wp_un {f : MV → Store → Res MV} {a : Den} : wp (dUn f a ρ S) E Q = wp (a ρ S) E fun x S1 => wp (f x S1) E Q := wp_bind
theorem wp_call {f : FnM} {a : DenL} : wp (dCall f a ρ S) E Q = wp (a ρ S) E fun x S1 => wp (f x S1) E Q := wp_bind
theorem wp_nil : wp (aNil ρ S) E QL = QL [] S := rfl
theorem wp_cons {d : Den} {r : DenL} : wp (aCons d r ρ S) E QL = wp (d ρ S) E fun w S1 => wp (r ρ S1) E fun ws S2 => QL (w :: ws) S2 := by
  unfold aCons
  simp only [wp_bind]
  rfl
theorem wp_tup {r : DenL} : wp (dTup r ρ S) E Q = wp (r ρ S) E fun ws S1 => ws.length ≤ 100000 ∧ Q (.tup ws) S1 := by
  unfold dTup
  simp only [wp_bind, wp_iteR, wp_ok]
theorem wp_lst {r : DenL} : wp (dLst r ρ S) E Q = wp (r ρ S) E fun ws S1 => ws.length ≤ 100000 ∧ Q (.ref S1.length) (S1 ++ [.lst ws]) := by
  unfold dLst
  simp only [wp_bind, wp_iteR, wp_ok]
theorem wp_dic0 : wp (dDic0 ρ S) E Q = Q (.ref S.length) (S ++ [.dic []]) := rfl
theorem wp_int {C : Int → Int → Bool} {g : Int → Int → MV} {i j : Int} : wp (fInt C g (.int i) (.int j) S) E Q = (C i j = true ∧ Q (g i j) S) := by
  unfold fInt
  simp only [wp_iteR, wp_ok]
theorem wp_bcmp {f : MV → MV → Store → Res MV} {a b : Den} : wp (bCmp f a b ρ S) E QB = wp (a ρ S) E fun x S1 => wp (b ρ S1) E fun y S2 => wp (f x y S2) E fun w S3 => wp (boolOf w S3) E QB := by
  unfold bCmp
  simp only [wp_bind, wp_bin]
theorem wp_boolOf {b : Bool} : wp (boolOf (.bl b) S) E QB = QB b S := rfl
theorem wp_btru {d : Den} : wp (bTru d ρ S) E QB = wp (d ρ S) E fun w S1 => wp (truB w S1) E QB := wp_bind
theorem wp_truB {b : Bool} : wp (truB (.bl b) S) E QB = QB b S := rfl
theorem wp_bnot {d : DenB} : wp (bNot d ρ S) E QB = wp (d ρ S) E fun k S1 => QB (!k) S1 := wp_bind
theorem wp_band {d f : DenB} : wp (bAnd d f ρ S) E QB = wp (d ρ S) E fun k S1 => if k = true then wp (f ρ S1) E QB else QB false S1 := by
  unfold bAnd
  simp only [wp_bind, wp_ite, wp_ok]
theorem wp_bor {d f : DenB} : wp (bOr d f ρ S) E QB = wp (d ρ S) E fun k S1 => if k = true then QB true S1 else wp (f ρ S1) E QB := by
  unfold bOr
  simp only [wp_bind, wp_ite, wp_ok]
theorem wp_dif {t : DenB} {d f : Den} : wp (dIf t d f ρ S) E Q = wp (t ρ S) E fun k S1 => if k = true then wp (d ρ S1) E Q else wp (f ρ S1) E Q := by
  unfold dIf
  simp only [wp_bind, wp_ite]
theorem wp_dand {d f : Den} : wp (dAnd d f ρ S) E Q = wp (d ρ S) E fun w S1 => wp (match w with
  | .bl true => f ρ S1
  | .bl false => .ok (.bl false) S1
  | _ => .stuck) E Q := wp_bind
theorem wp_dor {d f : Den} : wp (dOr d f ρ S) E Q = wp (d ρ S) E fun w S1 => wp (match w with
  | .bl true => .ok (.bl true) S1
  | .bl false => f ρ S1
  | _ => .stuck) E Q := wp_bind
theorem wp_dnot {d : Den} : wp (dNot d ρ S) E Q = wp (d ρ S) E fun w S1 => wp (match w with
  | .bl k => .ok (.bl (!k)) S1
  | _ => .stuck) E Q := wp_bind
theorem wp_len {w : MV} : wp (fLen [w] S) E Q = ∃ n : Nat, lenM w S = some n ∧ Q (.int n) S := by
  unfold fLen
  dsimp only
  generalize lenM w S = o
  apply propext
  cases o with
  | none => exact ⟨fun h => False.elim h, fun ⟨v, e, _⟩ => by cases e⟩
  | some n => exact ⟨fun h => ⟨n, rfl, h⟩, fun ⟨v, e, h⟩ => by cases e; exact h⟩
theorem wp_intOf {i : Int} : wp (fIntOf [.int i] S) E Q = Q (.int i) S := rfl
theorem wp_ixL {n : Nat} {i : Int} {l : List MV} (h : S[n]? = some (.lst l)) : wp (fIx (.ref n) (.int i) S) E Q = ∃ w, atI l i = some w ∧ Q w S := by
  unfold fIx
  simp only [h]
  generalize atI l i = o
  apply propext
  cases o with
  | none => exact ⟨fun h => False.elim h, fun ⟨v, e, _⟩ => by cases e⟩
  | some w => exact ⟨fun h => ⟨w, rfl, h⟩, fun ⟨v, e, h⟩ => by cases e; exact h⟩
theorem wp_ixR {n : Nat} {i : Int} {l : List MV} (h : S[n]? = some (.rol l)) : wp (fIx (.ref n) (.int i) S) E Q = ∃ w, atI l i = some w ∧ Q w S := by
  unfold fIx
  simp only [h]
  generalize atI l i = o
  apply propext
  cases o with
  | none => exact ⟨fun h => False.elim h, fun ⟨v, e, _⟩ => by cases e⟩
  | some w => exact ⟨fun h => ⟨w, rfl, h⟩, fun ⟨v, e, h⟩ => by cases e; exact h⟩
theorem wp_ixT {i : Int} {l : List MV} : wp (fIx (.tup l) (.int i) S) E Q = ∃ w, atI l i = some w ∧ Q w S := by
  unfold fIx
  dsimp only
  generalize atI l i = o
  apply propext
  cases o with
  | none => exact ⟨fun h => False.elim h, fun ⟨v, e, _⟩ => by cases e⟩
  | some w => exact ⟨fun h => ⟨w, rfl, h⟩, fun ⟨v, e, h⟩ => by cases e; exact h⟩
/-! targets, statements -/
theorem wp_gN {i : Nat} {w : MV} : wp (gN i w ρ S) E QE = QE (ρ.set i (some w)) S := rfl
theorem wp_gS {o i : Den} {w : MV} : wp (gS o i w ρ S) E QE = (wp (o ρ S) (fun _ _ _ => False) fun ov S1 => wp (i ρ S1) (fun _ _ _ => False) fun iv S2 => ∃ S3, fSet ov iv w S2 = some S3 ∧ QE ρ S3) := by
  unfold gS
  cases o ρ S with
  | ok ov S1 =>
    show wp (match i ρ S1 with | .ok iv S2 => _ | _ => _) E QE = wp (i ρ S1) _ _
    cases i ρ S1 with
    | ok iv S2 =>
      show wp (match fSet ov iv w S2 with | some S3 => Res.ok ρ S3 | none => .stuck) E QE = _
      show _ = ∃ S3, fSet ov iv w S2 = some S3 ∧ QE ρ S3
      cases fSet ov iv w S2 with
      | some S3 => exact propext ⟨fun h => ⟨S3, rfl, h⟩, fun ⟨m, e2, h⟩ => by cases e2; exact h⟩
      | none => exact propext ⟨fun h => h.elim, fun ⟨m, e2, _⟩ => by cases e2⟩
    | err c fs S2 => rfl
    | stuck => rfl
  | err c fs S1 => rfl
  | stuck => rfl
theorem wp_seq {x y : DenS} : wp (sSeq x y ρ S) E QF = wp (x ρ S) E fun f S1 => match f with
    | .next ρ1 => wp (y ρ1 S1) E QF
    | f => QF f S1 := by
  unfold sSeq
  cases x ρ S with
  | ok f S1 => cases f <;> rfl
  | err c fs S1 => rfl
  | stuck => rfl
theorem wp_snil : wp (sNil ρ S) E QF = QF (.next ρ) S := rfl
theorem wp_sexpr {d : Den} : wp (sExpr d ρ S) E QF = wp (d ρ S) (fun c fs S1 => QF (.exc c fs ρ) S1) fun _ S1 => QF (.next ρ) S1 := wp_bindS
theorem wp_sret {d : Den} : wp (sRet d ρ S) E QF = wp (d ρ S) (fun c fs S1 => QF (.exc c fs ρ) S1) fun w S1 => QF (.ret w) S1 := wp_bindS
theorem wp_sif {t : DenB} {x y : DenS} : wp (sIf t x y ρ S) E QF = wp (t ρ S) (fun c fs S1 => QF (.exc c fs ρ) S1) fun k S1 => if k = true then wp (x ρ S1) E QF else wp (y ρ S1) E QF := by
  unfold sIf
  simp only [wp_bindS, wp_ite]
theorem wp_asg {d : Den} {g : DenG} : wp (sAsg d g ρ S) E QF = wp (d ρ S) (fun c fs S1 => QF (.exc c fs ρ) S1) fun w S1 => wp (g w ρ S1) (fun _ _ _ => False) fun ρ1 S2 => QF (.next ρ1) S2 := by
  unfold sAsg
  rw [wp_bindS]
  congr 1
  funext w S1
  cases g w ρ S1 <;> rfl
theorem wp_par {i j : Nat} {da : DenL} : wp (sPar i j da ρ S) E QF = wp (da ρ S) (fun c fs S1 => QF (.exc c fs ρ) S1) fun ws S1 => wp (match ws with
  | [x, y] => .ok (.next ((ρ.set i (some x)).set j (some y))) S1
  | _ => .stuck) E QF := wp_bindS
theorem wp_par3 {i j l : Nat} {da : DenL} : wp (sPar3 i j l da ρ S) E QF = wp (da ρ S) (fun c fs S1 => QF (.exc c fs ρ) S1) fun ws S1 => wp (match ws with
  | [x, y, z] => .ok (.next (((ρ.set i (some x)).set j (some y)).set l (some z))) S1
  | _ => .stuck) E QF := wp_bindS
theorem wp_for {f : Nat} {it : DenI} {g : DenG} {body : DenS} : wp (sFor f it g body ρ S) E QF = wp (it ρ S) (fun c fs S1 => QF (.exc c fs ρ) S1) fun nx S1 => wp (forM nx g body f 0 ρ S1) E QF := wp_bindS
theorem wp_iany {d : Den} : wp (iAnyD d ρ S) E QI = wp (d ρ S) E fun w S1 => wp (srcOf w S1) E QI := wp_bind
theorem wp_irng {g : List MV → Store → Res Src} {d : DenL} : wp (iRng g d ρ S) E QI = wp (d ρ S) E fun w S1 => wp (g w S1) E QI := wp_bind
theorem wp_fn {n N : Nat} {body : DenS} {ws : List MV} (h : ws.length = n) : wp (mkFn n N body ws S) E Q = wp (body (ws.map some ++ List.replicate (N - n) none) S) (fun _ _ _ => False) fun f S' => match f with
    | .ret w => wp (gc S.length w S') E Q
    | .next _ => wp (gc S.length .non S') E Q
    | .exc c fs _ => E c fs S'
    | _ => False := by
  unfold mkFn
  rw [if_pos h, h]
  cases body (ws.map some ++ List.replicate (N - n) none) S with
  | ok f S1 => cases f <;> rfl
  | err c fs S1 => rfl
  | stuck => rfl
theorem gc_same {n : Nat} {w : MV} (h : S.length = n) : gc n w S = .ok w S := by
  unfold gc
  rw [if_pos h]
/-! loops -/
theorem wp_forI {nx : Src} {g : DenG} {body : DenS} (n : Nat) (Inv : Nat → Env' → Store → Prop) (stop : ∀ ρ S, Inv n ρ S → nx n S = .stop)
    (turn : ∀ i ρ S, i < n → Inv i ρ S → ∃ w, nx i S = .yield w ∧ wp (g w ρ S) (fun _ _ _ => False) fun ρ1 S1 => wp (body ρ1 S1) (fun _ _ _ => False) fun f S2 => match f with
      | .next ρ2 => Inv (i + 1) ρ2 S2
      | .cont ρ2 => Inv (i + 1) ρ2 S2
      | _ => False) : ∀ (k f i : Nat) (ρ : Env') (S : Store), i + k = n → k < f → Inv i ρ S → (∀ ρ' S', Inv n ρ' S' → QF (.next ρ') S') → wp (forM nx g body f i ρ S) E QF
  | 0, f + 1, i, ρ, S, hk, hf, hI, hQ => by
    have e : i = n := by omega
    subst e
    unfold forM
    rw [stop ρ S hI]
    exact hQ _ _ hI
  | k + 1, f + 1, i, ρ, S, hk, hf, hI, hQ => by
    obtain ⟨w, e, h⟩ := turn i ρ S (by omega) hI
    obtain ⟨ρ1, S1, e1, h1⟩ := h.ex
    obtain ⟨fl, S2, e2, h2⟩ := h1.ex
    unfold forM
    simp only [e, e1, e2]
    cases fl with
    | next ρ2 => exact wp_forI n Inv stop turn k f (i + 1) ρ2 S2 (by omega) (by omega) h2 hQ
    | cont ρ2 => exact wp_forI n Inv stop turn k f (i + 1) ρ2 S2 (by omega) (by omega) h2 hQ
    | ret w => exact h2.elim
    | brk w => exact h2.elim
    | exc c fs w => exact h2.elim
theorem lcM_inv {nx : Src} {g : DenG} {t : DenB} {d : Den} {ρ0 : Env'} {m : Nat} (n : Nat) (Inv : Nat → List MV → Store → Prop) (at_ : ∀ i acc S, Inv i acc S → S[m]? = some (.lst acc))
    (stop : ∀ acc S, Inv n acc S → nx n S = .stop)
    (turn : ∀ i acc S, i < n → Inv i acc S → ∃ w, nx i S = .yield w ∧ wp (g w ρ0 S) (fun _ _ _ => False) fun ρ1 S1 => wp (t ρ1 S1) (fun _ _ _ => False) fun b S2 =>
      if b = true then wp (d ρ1 S2) (fun _ _ _ => False) fun w' S3 => S3[m]? = some (.lst acc) ∧ acc.length < 100000 ∧ Inv (i + 1) (acc ++ [w']) (S3.set m (.lst (acc ++ [w']))) else Inv (i + 1) acc S2) :
    ∀ (k f i : Nat) (acc : List MV) (S : Store), i + k = n → k < f → Inv i acc S → ∃ acc' S', lcM nx g t d ρ0 m f i S = some S' ∧ Inv n acc' S'
  | 0, f + 1, i, acc, S, hk, hf, hI => by
    have e : i = n := by omega
    subst e
    unfold lcM
    rw [stop acc S hI]
    exact ⟨acc, S, rfl, hI⟩
  | k + 1, f + 1, i, acc, S, hk, hf, hI => by
    obtain ⟨w, e, h⟩ := turn i acc S (by omega) hI
    obtain ⟨ρ1, S1, e1, h1⟩ := h.ex
    obtain ⟨b, S2, e2, h2⟩ := h1.ex
    unfold lcM
    simp only [e, e1, e2]
    cases b with
    | false => exact lcM_inv n Inv at_ stop turn k f (i + 1) acc S2 (by omega) (by omega) h2
    | true =>
      obtain ⟨w', S3, e3, e4, hl, h3⟩ := (show wp (d ρ1 S2) _ _ from h2).ex
      simp only [e3, e4, if_pos hl]
      exact lcM_inv n Inv at_ stop turn k f (i + 1) _ _ (by omega) (by omega) h3
theorem wp_lc {f : Nat} {it : DenI} {g : DenG} {t : DenB} {d : Den} {own : List Nat} : wp (dLc f it g t d own ρ S) E Q = wp (it ρ S) E fun nx S1 => wp (match lcM nx g t d (wipeM ρ own) S1.length f 0 (S1 ++ [.lst []]) with
    | some S2 => (.ok (.ref S1.length) S2 : Res MV)
    | none => .stuck) E Q := wp_bind
theorem wp_lcI {nx : Src} {g : DenG} {t : DenB} {d : Den} {ρ0 : Env'} {f : Nat} (n : Nat) (Inv : Nat → List MV → Store → Prop) (hf : n < f) (at_ : ∀ i acc S', Inv i acc S' → S'[S.length]? = some (.lst acc))
    (stop : ∀ acc S', Inv n acc S' → nx n S' = .stop) (init : Inv 0 [] (S ++ [.lst []]))
    (turn : ∀ i acc S', i < n → Inv i acc S' → ∃ w, nx i S' = .yield w ∧ wp (g w ρ0 S') (fun _ _ _ => False) fun ρ1 S1 => wp (t ρ1 S1) (fun _ _ _ => False) fun b S2 =>
      if b = true then wp (d ρ1 S2) (fun _ _ _ => False) fun w' S3 => S3[S.length]? = some (.lst acc) ∧ acc.length < 100000 ∧ Inv (i + 1) (acc ++ [w']) (S3.set S.length (.lst (acc ++ [w']))) else Inv (i + 1) acc S2)
    (done : ∀ acc S', Inv n acc S' → Q (.ref S.length) S') : wp (match lcM nx g t d ρ0 S.length f 0 (S ++ [.lst []]) with
    | some S2 => (.ok (.ref S.length) S2 : Res MV)
    | none => .stuck) E Q := by
  obtain ⟨acc, S', e, h⟩ := lcM_inv n Inv at_ stop turn n f 0 [] _ (by omega) hf init
  rw [e]
  exact done acc S' h
theorem wp_rng1 {j : Int} : wp (rng1 [.int j] S) E QI = ((-100000 ≤ j ∧ j ≤ 100000) ∧ QI (srcRng 0 j) S) := by
  unfold rng1
  dsimp only
  rw [wp_iteR, Bool.and_eq_true, decide_eq_true_eq, decide_eq_true_eq]
  rfl
theorem wp_rng2 {i j : Int} : wp (rng2 [.int i, .int j] S) E QI = (((-100000 ≤ i ∧ i ≤ 100000) ∧ (-100000 ≤ j ∧ j ≤ 100000)) ∧ QI (srcRng i j) S) := by
  unfold rng2
  dsimp only
  rw [wp_iteR]
  simp only [Bool.and_eq_true, decide_eq_true_eq]
  rfl
theorem wp_met {chk : MV → Store → Bool} {f : MV → List MV → Store → Res MV} {o : Den} {r : DenL} : wp (dMet chk f o r ρ S) E Q = wp (o ρ S) E fun ow S1 => chk ow S1 = true ∧ wp (r ρ S1) E fun ws S2 => wp (f ow ws S2) E Q := by
  unfold dMet
  simp only [wp_bind, wp_iteR]
theorem wp_append {n : Nat} {l : List MV} {w : MV} (h : S[n]? = some (.lst l)) (hl : l.length < 100000) : wp (fAppend (.ref n) [w] S) E Q = Q .non (S.set n (.lst (l ++ [w]))) := by
  unfold fAppend
  simp only [h, if_pos hl]
  rfl
theorem isLst_ref {n : Nat} {l : List MV} (h : S[n]? = some (.lst l)) : isLst (.ref n) S = true := by
  unfold isLst
  simp only [h]
theorem wp_neg {i : Int} : wp (fNeg (.int i) S) E Q = Q (.int (-i)) S := rfl
theorem wp_bYes : wp (bYes ρ S) E QB = QB true S := rfl
end
end MI

set_option Elab.async false
set_option linter.all false
set_option maxRecDepth 100000
/-! Stores that only grow, by objects that hold no others; defs whose answer holds none. -/
namespace MI
open PySem PySem.Spec PyProof.Rows L2
mutual
theorem blw_le {n m : Nat} (h : n ≤ m) : ∀ w : MV, below n w = true → below m w = true
  | .tup l, e => by
    unfold below at e ⊢
    exact blws_le h l e
  | .ref k, e => by
    unfold below at e ⊢
    exact decide_eq_true (Nat.lt_of_lt_of_le (of_decide_eq_true e) h)
  | .non, _ => rfl
  | .bl _, _ => rfl
  | .int _, _ => rfl
  | .str _, _ => rfl
theorem blws_le {n m : Nat} (h : n ≤ m) : ∀ l : List MV, belows n l = true → belows m l = true
  | [], _ => rfl
  | w :: ws, e => by
    unfold belows at e ⊢
    rw [Bool.and_eq_true] at e ⊢
    exact ⟨blw_le h w e.1, blws_le h ws e.2⟩
end
theorem blwO_le {n m : Nat} (h : n ≤ m) (o : MO) (e : belowO n o = true) : belowO m o = true := by
  cases o <;> exact blws_le h _ e
theorem blwA_le {n m : Nat} (h : n ≤ m) {r : Store} (e : r.all (belowO n) = true) : r.all (belowO m) = true := List.all_eq_true.mpr fun o ho => blwO_le h o (List.all_eq_true.mp e o ho)
theorem blws_all (n : Nat) : ∀ l : List MV, belows n l = true ↔ ∀ w ∈ l, below n w = true
  | [] => by simp [belows]
  | w :: ws => by
    unfold belows
    rw [Bool.and_eq_true, blws_all n ws]
    simp
theorem blws_map {α : Type} (n : Nat) (f : α → MV) (l : List α) (h : ∀ a ∈ l, below n (f a) = true) : belows n (l.map f) = true := (blws_all n _).mpr fun w hw => by
  obtain ⟨a, ha, rfl⟩ := List.mem_map.mp hw
  exact h a ha
theorem blws_str (n : Nat) (l : List Str) : belows n (l.map MV.str) = true := blws_map n _ l fun _ _ => rfl
/-- every object knows only what stands in the store -/
def Cl (S : Store) : Prop := S.all (belowO S.length) = true
/-- the store has grown by objects that know none -/
def Gr (S S' : Store) : Prop := ∃ J, S' = S ++ J ∧ J.all (belowO 0) = true
section
variable {S S' S1 S2 : Store} {o : MO} {n m : Nat}
theorem Gr.refl : Gr S S := ⟨[], by simp, rfl⟩
theorem Gr.trans (h : Gr S S1) (k : Gr S1 S2) : Gr S S2 := by
  obtain ⟨J, rfl, h⟩ := h
  obtain ⟨J', rfl, k⟩ := k
  exact ⟨J ++ J', by simp, by rw [List.all_append, h, k]; rfl⟩
theorem Gr.len (h : Gr S S') : S.length ≤ S'.length := by
  obtain ⟨J, rfl, h⟩ := h
  simp
theorem Gr.cl (h : Gr S S') (c : Cl S) : Cl S' := by
  obtain ⟨J, rfl, h⟩ := h
  unfold Cl at c ⊢
  rw [List.all_append, blwA_le (by simp) c, blwA_le (by omega) h]
  rfl
theorem Gr.at (h : Gr S S') (e : S[n]? = some o) : S'[n]? = some o := by
  obtain ⟨J, rfl, h⟩ := h
  rw [List.getElem?_append_left (List.getElem?_eq_some_iff.mp e).1]
  exact e
theorem Gr.new (h : Gr S S') (b : belowO 0 o = true) : Gr S (S' ++ [o]) := h.trans ⟨[o], rfl, by simp [b]⟩
theorem at_new : (S ++ [o])[S.length]? = some o := by simp
theorem set_new {o' : MO} : (S ++ [o]).set S.length o' = S ++ [o'] := by
  rw [List.set_append_right _ _ (Nat.le_refl _)]
  simp
theorem Gr.set (h : Gr S S') (l : S.length ≤ n) (b : belowO 0 o = true) : Gr S (S'.set n o) := by
  obtain ⟨J, rfl, h⟩ := h
  rw [List.set_append_right _ _ l]
  refine ⟨_, rfl, List.all_eq_true.mpr fun x hx => ?_⟩
  rcases List.mem_or_eq_of_mem_set hx with hx | rfl
  · exact List.all_eq_true.mp h x hx
  · exact b
theorem at_set {o' : MO} (e : S[n]? = some o) : (S.set n o')[n]? = some o' := by
  rw [List.getElem?_set_self (List.getElem?_eq_some_iff.mp e).1]
theorem Gr.take (h : Gr S S') : S'.take S.length = S := by
  obtain ⟨J, rfl, h⟩ := h
  rw [List.take_left]
theorem Gr.eq (h : Gr S S') (e : S'.length = S.length) : S' = S := by
  have := h.take
  rw [← e, List.take_length] at this
  exact this
theorem gc_pure {w : MV} (h : Gr S S') (c : Cl S) (b : below 0 w = true) : gc S.length w S' = .ok w S := by
  unfold gc
  split
  · rename_i e
    rw [h.eq e]
  · rw [h.take, if_pos (show S.all (belowO S.length) = true from c), if_pos (blw_le (by omega) w b)]
theorem gc_list (h : Gr S S') (c : Cl S) (l : S.length ≤ m) (e : S'[m]? = some o) (b : belowO 0 o = true) : gc S.length (.ref m) S' = .ok (.ref S.length) (S ++ [o]) := by
  unfold gc
  have hl := (List.getElem?_eq_some_iff.mp e).1
  rw [if_neg (by omega), h.take, if_pos (show S.all (belowO S.length) = true from c), if_neg (by unfold below; simp; omega)]
  dsimp only
  rw [e]
  dsimp only
  rw [if_pos (blwO_le (by omega) o b)]
abbrev NE : EX := fun _ _ _ => False
variable {N k : Nat} {body : DenS} {ws : List MV} {v : MV}
theorem fn_val (hl : ws.length = k) (c : Cl S) (b : below 0 v = true) (h : wp (body (ws.map some ++ List.replicate (N - k) none) S) NE fun f S' => (f = .ret v ∨ (v = .non ∧ ∃ ρ, f = .next ρ)) ∧ Gr S S') : mkFn k N body ws S = .ok v S := by
  unfold mkFn
  rw [if_pos hl, hl]
  obtain ⟨f, S', e, h1, h2⟩ := h.ex
  rw [e]
  rcases h1 with rfl | ⟨rfl, ρ, rfl⟩
  · exact gc_pure h2 c b
  · exact gc_pure h2 c b
theorem fn_list {l : List MV} (hl : ws.length = k) (c : Cl S) (b : belows 0 l = true) (h : wp (body (ws.map some ++ List.replicate (N - k) none) S) NE fun f S' => Gr S S' ∧ ∃ m, f = .ret (.ref m) ∧ S.length ≤ m ∧ S'[m]? = some (.lst l)) : mkFn k N body ws S = .ok (.ref S.length) (S ++ [.lst l]) := by
  unfold mkFn
  rw [if_pos hl, hl]
  obtain ⟨f, S', e, h1, m, rfl, h2, h3⟩ := h.ex
  rw [e]
  exact gc_list h1 c h2 h3 b
theorem fn_same (hl : ws.length = k) (h : wp (body (ws.map some ++ List.replicate (N - k) none) S) NE fun f S' => (f = .ret v ∨ (v = .non ∧ ∃ ρ, f = .next ρ)) ∧ S' = S) : mkFn k N body ws S = .ok v S := by
  unfold mkFn
  rw [if_pos hl, hl]
  obtain ⟨f, S', e, h1, rfl⟩ := h.ex
  rw [e]
  rcases h1 with rfl | ⟨rfl, ρ, rfl⟩ <;> exact gc_same rfl
end
section
variable {E : EX} {S : Store} {ρ : Env'} {Q : MV → Store → Prop} {QI : Src → Store → Prop} {QF : Fl → Store → Prop} {QB : Bool → Store → Prop} {QE : Env' → Store → Prop} {QO : Option Int → Store → Prop}
theorem wp_srcT {l : List MV} : wp (srcOf (.tup l) S) E QI = QI (srcL l) S := rfl
theorem wp_srcS {z : Str} : wp (srcOf (.str z) S) E QI = QI (srcStr z) S := rfl
theorem wp_srcR {n : Nat} {l : List MV} (e : S[n]? = some (.lst l)) : wp (srcOf (.ref n) S) E QI = QI (srcRef n) S := by
  unfold srcOf
  dsimp only
  rw [e]
  rfl
theorem wp_enumT {l : List MV} : wp (enumOf [.tup l] S) E QI = QI (srcEnumL 0 l) S := rfl
theorem wp_zipT {l m : List MV} : wp (zipOf [.tup l, .tup m] S) E QI = QI (srcZipT l m) S := rfl
theorem wp_gT {r : DenGs} {l : List MV} : wp (gT r (.tup l) ρ S) E QE = wp (r l ρ S) E QE := rfl
theorem wp_gsNil : wp (gsNil [] ρ S) E QE = QE ρ S := rfl
theorem wp_gsCons {g : DenG} {r : DenGs} {w : MV} {ws : List MV} : wp (gsCons g r (w :: ws) ρ S) E QE = wp (g w ρ S) NE fun ρ1 S1 => wp (r ws ρ1 S1) E QE := by
  unfold gsCons
  dsimp only
  cases g w ρ S <;> rfl
theorem wp_lenT {l : List MV} : wp (fLen [.tup l] S) E Q = Q (.int l.length) S := rfl
theorem wp_lenS {z : Str} (h : z.length ≤ 100000) : wp (fLen [.str z] S) E Q = Q (.int z.length) S := by
  unfold fLen lenM
  dsimp only
  rw [if_pos h]
  rfl
theorem wp_isTT {l : List MV} {T : String} : wp (fIsT T (.tup l) S) E Q = Q (.bl (isTy "tuple" T)) S := rfl
theorem wp_isTS {z : Str} {T : String} : wp (fIsT T (.str z) S) E Q = Q (.bl (isTy "str" T)) S := rfl
theorem wp_isTI {i : Int} {T : String} : wp (fIsT T (.int i) S) E Q = Q (.bl (isTy "int" T)) S := rfl
theorem wp_isTN {T : String} : wp (fIsT T .non S) E Q = Q (.bl (isTy "NoneType" T)) S := rfl
theorem wp_isTB {b : Bool} {T : String} : wp (fIsT T (.bl b) S) E Q = Q (.bl (isTy "bool" T)) S := rfl
theorem mB {w : MV} {X Y : Res MV} : wp (match w with
  | .bl true => X
  | .bl false => Y
  | _ => .stuck) E Q = ∃ b, w = .bl b ∧ if b = true then wp X E Q else wp Y E Q := by
  apply propext
  cases w with
  | bl b => cases b <;> simp
  | _ => exact ⟨fun h => False.elim h, fun ⟨_, e, _⟩ => by cases e⟩
theorem wp_chain {f g : MV → MV → Store → Res MV} {a b c : Den} : wp (dChain f g a b c ρ S) E Q = wp (a ρ S) E fun x S1 => wp (b ρ S1) E fun y S2 => wp (f x y S2) E fun k S3 => ∃ b, k = .bl b ∧ if b = true then wp (c ρ S3) E fun z S4 => wp (g y z S4) E Q else Q (.bl false) S3 := by
  unfold dChain
  simp only [wp_bind]
  congr 1
  funext x S1
  congr 1
  funext y S2
  congr 1
  funext k S3
  rw [← wp_bind (f := fun z S4 => g y z S4)]
  exact mB
theorem wp_xand {d f : Den} : wp (dAnd d f ρ S) E Q = wp (d ρ S) E fun w S1 => ∃ b, w = .bl b ∧ if b = true then wp (f ρ S1) E Q else Q (.bl false) S1 := by
  rw [wp_dand]
  congr 1
  funext w S1
  exact mB
theorem wp_xor {d f : Den} : wp (dOr d f ρ S) E Q = wp (d ρ S) E fun w S1 => ∃ b, w = .bl b ∧ if b = true then Q (.bl true) S1 else wp (f ρ S1) E Q := by
  rw [wp_dor]
  congr 1
  funext w S1
  exact mB
theorem wp_xnot {d : Den} : wp (dNot d ρ S) E Q = wp (d ρ S) E fun w S1 => ∃ b, w = .bl b ∧ Q (.bl (!b)) S1 := by
  rw [wp_dnot]
  congr 1
  funext w S1
  apply propext
  cases w with
  | bl b => simp [wp_ok]
  | _ => exact ⟨fun h => False.elim h, fun ⟨_, e, _⟩ => by cases e⟩
theorem wp_eqS {x y : Str} : wp (fEq (.str x) (.str y) S) E Q = Q (.bl (decide (x = y))) S := rfl
theorem wp_neS {x y : Str} : wp (fNe (.str x) (.str y) S) E Q = Q (.bl (!decide (x = y))) S := rfl
theorem wp_neI {x y : Int} : wp (fNe (.int x) (.int y) S) E Q = Q (.bl (!decide (x = y))) S := rfl
theorem wp_eqII {x y : Int} : wp (fEq (.int x) (.int y) S) E Q = Q (.bl (decide (x = y))) S := rfl
theorem wp_isNT {l : List MV} : wp (fIs (.tup l) .non S) E Q = Q (.bl false) S := rfl
theorem wp_isNN : wp (fIs .non .non S) E Q = Q (.bl true) S := rfl
theorem wp_notNT {l : List MV} : wp (fIsNot (.tup l) .non S) E Q = Q (.bl true) S := rfl
theorem wp_notNN : wp (fIsNot .non .non S) E Q = Q (.bl false) S := rfl
theorem any_strs (x : Str) (l : List Str) : ((l.map MV.str).any fun y => eqF y (.str x)) = decide (x ∈ l) := by
  induction l with
  | nil => rfl
  | cons y l ih =>
    rw [List.map_cons, List.any_cons, ih]
    show ((y == x) || decide (x ∈ l)) = _
    by_cases h : y = x
    · subst h; simp
    · have h' : ¬ x = y := fun e => h e.symm
      simp [h, h', List.mem_cons]
theorem flat_strs (l : List Str) : (l.map MV.str).all flatM = true := by
  induction l with
  | nil => rfl
  | cons y l ih => exact ih
theorem wp_inT {x : Str} {l : List Str} : wp (fIn (.str x) (.tup (l.map .str)) S) E Q = Q (.bl (decide (x ∈ l))) S := by
  unfold fIn inM
  simp only [itemsOf, flat_strs, any_strs]
  rfl
theorem wp_inTc {x a : Str} {l : List Str} : wp (fIn (.str x) (.tup (.str a :: l.map .str)) S) E Q = Q (.bl (decide (x ∈ a :: l))) S := wp_inT (l := a :: l)
theorem wp_inT0 {x : Str} : wp (fIn (.str x) (.tup []) S) E Q = Q (.bl false) S := rfl
theorem flt_true {α : Type} (l : List α) : (l.filter fun _ => true) = l := List.filter_eq_self.mpr fun _ _ => rfl
theorem wp_inR {x : Str} {l : List Str} {n : Nat} (e : S[n]? = some (.lst (l.map .str))) : wp (fIn (.str x) (.ref n) S) E Q = Q (.bl (decide (x ∈ l))) S := by
  unfold fIn inM
  simp only [itemsOf, e, flat_strs, any_strs]
  rfl
theorem wp_inC {c : Nat} {z : Str} : wp (fIn (.str ⟨#[c]⟩) (.str z) S) E Q = Q (.bl (decide (c ∈ z.cps.toList))) S := rfl
theorem wp_notInT {x : Str} {l : List Str} : wp (fNotIn (.str x) (.tup (l.map .str)) S) E Q = Q (.bl (!decide (x ∈ l))) S := by
  unfold fNotIn inM
  simp only [itemsOf, flat_strs, any_strs]
  rfl
theorem wp_tupR {n : Nat} {l : List MV} (e : S[n]? = some (.lst l)) : wp (fTupOf (.ref n) S) E Q = Q (.tup l) S := by
  unfold fTupOf
  simp only [itemsOf, e]
  rfl
theorem wp_tupT {l : List MV} : wp (fTupOf (.tup l) S) E Q = Q (.tup l) S := rfl
theorem wp_backT {l : List MV} : wp (fBack (.tup l) S) E Q = Q (.tup l.reverse) S := rfl
theorem wp_starT {d : Den} {r : DenL} {QL : List MV → Store → Prop} : wp (aStar d r ρ S) E QL = wp (d ρ S) E fun w S1 => ∃ l, itemsOf w S1 = some l ∧ wp (r ρ S1) E fun ws S2 => QL (l ++ ws) S2 := by
  unfold aStar
  rw [wp_bind]
  congr 1
  funext w S1
  cases itemsOf w S1 with
  | none => exact propext ⟨fun h => h.elim, fun ⟨_, e, _⟩ => by cases e⟩
  | some l =>
    simp only [Option.some.injEq, exists_eq_left', wp_bind]
    rfl
theorem itemsT {l : List MV} : itemsOf (.tup l) S = some l := rfl
theorem itemsR {n : Nat} {l : List MV} (e : S[n]? = some (.lst l)) : itemsOf (.ref n) S = some l := by
  unfold itemsOf
  simp only [e]
theorem wp_sl {d : Den} {l u : DenO} : wp (dSl d l u ρ S) E Q = wp (d ρ S) E fun w S1 => wp (l ρ S1) E fun i S2 => wp (u ρ S2) E fun j S3 => wp (fSl w i j S3) E Q := by
  unfold dSl
  simp only [wp_bind]
theorem wp_oN : wp (oNone ρ S) E QO = QO none S := rfl
theorem wp_oS {d : Den} : wp (oSome d ρ S) E QO = wp (d ρ S) E fun w S1 => wp (match w with
  | .int i => (.ok (some i) S1 : Res (Option Int))
  | _ => .stuck) E QO := wp_bind
theorem atI0 {α : Type} {a : α} {l : List α} : atI (a :: l) 0 = some a := by
  unfold atI ixN
  rw [if_pos (by omega), if_pos (by simp)]
  rfl
theorem atI1 {α : Type} {a b : α} {l : List α} : atI (a :: b :: l) 1 = some b := by
  unfold atI ixN
  rw [if_pos (by omega), if_pos (by simp; omega)]
  rfl
theorem atI2 {α : Type} {a b c : α} {l : List α} : atI (a :: b :: c :: l) 2 = some c := by
  unfold atI ixN
  rw [if_pos (by omega), if_pos (by simp; omega)]
  rfl
theorem atI3 {α : Type} {a b c d : α} {l : List α} : atI (a :: b :: c :: d :: l) 3 = some d := by
  unfold atI ixN
  rw [if_pos (by omega), if_pos (by simp; omega)]
  rfl
theorem atI4 {α : Type} {a b c d e : α} {l : List α} : atI (a :: b :: c :: d :: e :: l) 4 = some e := by
  unfold atI ixN
  rw [if_pos (by omega), if_pos (by simp; omega)]
  rfl
theorem wp_appR {n : Nat} {l : List MV} {w : MV} (h : S[n]? = some (.lst l)) (hl : l.length < 100000) : wp (fAppend (.ref n) [w] S) E Q = Q .non (S.set n (.lst (l ++ [w]))) := wp_append h hl
theorem wp_extT {n : Nat} {l m : List MV} (h : S[n]? = some (.lst l)) (hl : l.length + m.length ≤ 100000) : wp (fExtend (.ref n) [.tup m] S) E Q = Q .non (S.set n (.lst (l ++ m))) := by
  unfold fExtend
  simp only [h, itemsOf]
  rw [if_pos hl]
  rfl
theorem wp_allR {n : Nat} {f : List Bool → Bool} {bs : List Bool} (h : S[n]? = some (.lst (bs.map .bl))) : wp (fAllAny f [.ref n] S) E Q = Q (.bl (f bs)) S := by
  have e : bools (bs.map MV.bl) = some bs := by
    clear h
    induction bs with
    | nil => rfl
    | cons b bs ih =>
      rw [List.map_cons]
      unfold bools
      rw [ih]
      rfl
  unfold fAllAny
  simp only [h, e]
  rfl
theorem wp_never : wp (sNever ρ S) E QF = False := rfl
theorem wp_bindB {d : Den} : wp ((fun ρ S => (d ρ S).bind boolOf) ρ S) E QB = wp (d ρ S) E fun w S1 => wp (boolOf w S1) E QB := wp_bind
/-- what a turn of a loop leaves -/
def keep (I : Env' → Store → Prop) (QF : Fl → Store → Prop) (f : Fl) (S : Store) : Prop := match f with
  | .next ρ => I ρ S
  | .cont ρ => I ρ S
  | .brk ρ => QF (.next ρ) S
  | f => QF f S
theorem wp_forG {α : Type} {nx : Src} {g : DenG} {body : DenS} (enc : List α → α → MV) (xs : List α) (Inv : List α → Env' → Store → Prop) (src : ∀ pre x post ρ S, xs = pre ++ x :: post → Inv pre ρ S → nx pre.length S = .yield (enc pre x)) (stop : ∀ ρ S, Inv xs ρ S → nx xs.length S = .stop)
    (turn : ∀ pre x post ρ S, xs = pre ++ x :: post → Inv pre ρ S → wp (g (enc pre x) ρ S) NE fun ρ1 S1 => wp (body ρ1 S1) NE fun fl S2 => keep (Inv (pre ++ [x])) QF fl S2)
    (done : ∀ ρ S, Inv xs ρ S → QF (.next ρ) S) : ∀ (post pre : List α) (f : Nat) (ρ : Env') (S : Store), xs = pre ++ post → post.length < f → Inv pre ρ S → wp (forM nx g body f pre.length ρ S) E QF
  | [], pre, f + 1, ρ, S, hx, _, hI => by
    rw [List.append_nil] at hx
    subst hx
    unfold forM
    rw [stop ρ S hI]
    exact done ρ S hI
  | x :: post, pre, f + 1, ρ, S, hx, hf, hI => by
    obtain ⟨ρ1, S1, e1, h1⟩ := (turn pre x post ρ S hx hI).ex
    obtain ⟨fl, S2, e2, h2⟩ := h1.ex
    unfold forM
    simp only [src pre x post ρ S hx hI, e1, e2]
    have hx' : xs = (pre ++ [x]) ++ post := by rw [hx]; simp
    have hl : (pre ++ [x]).length = pre.length + 1 := by simp
    cases fl with
    | next ρ2 => rw [← hl]; exact wp_forG enc xs Inv src stop turn done post (pre ++ [x]) f ρ2 S2 hx' (by simp at hf; omega) h2
    | cont ρ2 => rw [← hl]; exact wp_forG enc xs Inv src stop turn done post (pre ++ [x]) f ρ2 S2 hx' (by simp at hf; omega) h2
    | brk ρ2 => exact h2
    | ret w => exact h2
    | exc c fs ρ2 => exact h2
  | post, pre, 0, ρ, S, hx, hf, hI => by omega
theorem wp_forT {α : Type} {g : DenG} {body : DenS} {f : Nat} (enc : α → MV) (xs : List α) (Inv : List α → Env' → Store → Prop) (hf : xs.length < f) (h0 : Inv [] ρ S)
    (turn : ∀ pre x post ρ S, xs = pre ++ x :: post → Inv pre ρ S → wp (g (enc x) ρ S) NE fun ρ1 S1 => wp (body ρ1 S1) NE fun fl S2 => keep (Inv (pre ++ [x])) QF fl S2)
    (done : ∀ ρ S, Inv xs ρ S → QF (.next ρ) S) : wp (forM (srcL (xs.map enc)) g body f 0 ρ S) E QF :=
  wp_forG (fun _ => enc) xs Inv (fun pre x post ρ S e _ => by unfold srcL; rw [e]; simp) (fun ρ S _ => by unfold srcL; simp) turn done xs [] f ρ S rfl hf h0
theorem wp_forE {α : Type} {g : DenG} {body : DenS} {f : Nat} (enc : α → MV) (xs : List α) (Inv : List α → Env' → Store → Prop) (hf : xs.length < f) (h0 : Inv [] ρ S)
    (turn : ∀ pre x post ρ S, xs = pre ++ x :: post → Inv pre ρ S → wp (g (.tup [.int pre.length, enc x]) ρ S) NE fun ρ1 S1 => wp (body ρ1 S1) NE fun fl S2 => keep (Inv (pre ++ [x])) QF fl S2)
    (done : ∀ ρ S, Inv xs ρ S → QF (.next ρ) S) : wp (forM (srcEnumL 0 (xs.map enc)) g body f 0 ρ S) E QF :=
  wp_forG (fun pre x => .tup [.int pre.length, enc x]) xs Inv (fun pre x post ρ S e _ => by unfold srcEnumL; rw [e]; simp) (fun ρ S _ => by unfold srcEnumL; simp) turn done xs [] f ρ S rfl hf h0
theorem wp_forR {α : Type} {g : DenG} {body : DenS} {f n : Nat} (enc : α → MV) (xs : List α) (Inv : List α → Env' → Store → Prop) (hf : xs.length < f) (h0 : Inv [] ρ S) (at_ : ∀ pre ρ S, Inv pre ρ S → S[n]? = some (.lst (xs.map enc)))
    (turn : ∀ pre x post ρ S, xs = pre ++ x :: post → Inv pre ρ S → wp (g (enc x) ρ S) NE fun ρ1 S1 => wp (body ρ1 S1) NE fun fl S2 => keep (Inv (pre ++ [x])) QF fl S2)
    (done : ∀ ρ S, Inv xs ρ S → QF (.next ρ) S) : wp (forM (srcRef n) g body f 0 ρ S) E QF :=
  wp_forG (fun _ => enc) xs Inv (fun pre x post ρ S e h => by unfold srcRef; rw [at_ _ _ _ h, e]; simp) (fun ρ S h => by unfold srcRef; rw [at_ _ _ _ h]; simp) turn done xs [] f ρ S rfl hf h0
theorem wp_forZ {g : DenG} {body : DenS} {f : Nat} {l m : List MV} (Inv : List (MV × MV) → Env' → Store → Prop) (hf : l.length < f) (h0 : Inv [] ρ S)
    (turn : ∀ pre x post ρ S, l.zip m = pre ++ x :: post → Inv pre ρ S → wp (g (.tup [x.1, x.2]) ρ S) NE fun ρ1 S1 => wp (body ρ1 S1) NE fun fl S2 => keep (Inv (pre ++ [x])) QF fl S2)
    (done : ∀ ρ S, Inv (l.zip m) ρ S → QF (.next ρ) S) : wp (forM (srcZipT l m) g body f 0 ρ S) E QF := by
  refine wp_forG (fun _ x => .tup [x.1, x.2]) (l.zip m) Inv (fun pre x post ρ S e _ => ?_) (fun ρ S _ => ?_) turn done (l.zip m) [] f ρ S rfl (by rw [List.length_zip]; omega) h0
  · have h : (l.zip m)[pre.length]? = some x := by rw [e]; simp
    rw [List.getElem?_zip_eq_some] at h
    unfold srcZipT
    rw [h.1, h.2]
  · unfold srcZipT
    rw [List.length_zip]
    by_cases h : l.length ≤ m.length
    · rw [Nat.min_eq_left h, List.getElem?_eq_none (Nat.le_refl _)]
    · rw [Nat.min_eq_right (by omega), List.getElem?_eq_none (Nat.le_refl m.length)]
      cases l[m.length]? <;> rfl
theorem wp_addII {i j : Int} : wp (fAdd (.int i) (.int j) S) E Q = Q (.int (i + j)) S := rfl
theorem wp_forN {g : DenG} {body : DenS} {f : Nat} (n : Nat) (Inv : Nat → Env' → Store → Prop) (hf : n < f) (h0 : Inv 0 ρ S)
    (turn : ∀ i ρ S, i < n → Inv i ρ S → wp (g (.int i) ρ S) NE fun ρ1 S1 => wp (body ρ1 S1) NE fun fl S2 => keep (Inv (i + 1)) QF fl S2)
    (done : ∀ ρ S, Inv n ρ S → QF (.next ρ) S) : wp (forM (srcRng 0 (n : Int)) g body f 0 ρ S) E QF := by
  have key := wp_forG (E := E) (QF := QF) (nx := srcRng 0 (n : Int)) (g := g) (body := body) (fun pre _ => .int pre.length) (List.replicate n ()) (fun pre ρ S => Inv pre.length ρ S) (fun pre x post ρ S e _ => by
      have : pre.length < n := by
        have := congrArg List.length e
        simp at this
        omega
      unfold srcRng
      rw [if_pos (by omega)]
      simp) (fun ρ S _ => by unfold srcRng; rw [if_neg (by simp)]) (fun pre x post ρ S e h => by
      have : pre.length < n := by
        have := congrArg List.length e
        simp at this
        omega
      have := turn pre.length ρ S this h
      rwa [List.length_append]) (fun ρ S h => done ρ S (by simpa using h)) (List.replicate n ()) [] f ρ S (by simp) (by simpa using hf) h0
  exact key
/-- a comprehension: what is tested and made is the same whatever the store has grown by -/
theorem wp_lcG {α : Type} {nx : Src} {g : DenG} {t : DenB} {d : Den} {ρ0 : Env'} {f : Nat} (enc : α → MV) (xs : List α) (p : α → Bool) (fe : α → MV) (hf : xs.length < f) (h100 : xs.length < 100000) (src : ∀ i x S', xs[i]? = some x → Gr S S' → nx i S' = .yield (enc x)) (stop : ∀ S', Gr S S' → nx xs.length S' = .stop)
    (turn : ∀ x ∈ xs, ∀ S', Gr S S' → wp (g (enc x) ρ0 S') NE fun ρ1 S1 => wp (t ρ1 S1) NE fun b S2 => b = p x ∧ if b = true then wp (d ρ1 S2) NE fun w S3 => w = fe x ∧ Gr S' S3 else Gr S' S2)
    (pure : ∀ x ∈ xs, p x = true → below 0 (fe x) = true)
    (done : ∀ S', Gr S S' → S'[S.length]? = some (.lst ((xs.filter p).map fe)) → Q (.ref S.length) S') : wp (match lcM nx g t d ρ0 S.length f 0 (S ++ [.lst []]) with
    | some S2 => (.ok (.ref S.length) S2 : Res MV)
    | none => .stuck) E Q := by
  refine wp_lcI xs.length (fun i acc S' => acc = ((xs.take i).filter p).map fe ∧ Gr S S' ∧ S'[S.length]? = some (.lst acc)) hf ?_ ?_ ⟨rfl, Gr.refl.new rfl, at_new⟩ ?_ ?_
  · rintro i acc S' ⟨_, _, h⟩
    exact h
  · rintro acc S' ⟨_, h, _⟩
    exact stop S' h
  · rintro i acc S' hi ⟨ha, h, e⟩
    have hxi : xs[i]? = some xs[i] := List.getElem?_eq_getElem hi
    refine ⟨enc xs[i], src i _ S' hxi h, ?_⟩
    refine (turn xs[i] (List.getElem_mem hi) S' h).mono fun ρ1 S1 h1 => h1.mono fun b S2 h2 => ?_
    obtain ⟨hb, h2⟩ := h2
    have htk : xs.take (i + 1) = xs.take i ++ [xs[i]] := by rw [List.take_add_one, hxi]; rfl
    have hal : acc.length < 100000 := by
      rw [ha, List.length_map]
      have := List.length_filter_le p (xs.take i)
      rw [List.length_take] at this
      omega
    cases hbb : b with
    | false =>
      rw [hbb] at h2 hb
      rw [if_neg (by simp)] at h2 ⊢
      refine ⟨?_, h.trans h2, h2.at e⟩
      rw [htk, List.filter_append, ha]
      simp [← hb]
    | true =>
      rw [hbb] at h2 hb
      rw [if_pos rfl] at h2 ⊢
      refine h2.mono fun w S3 h3 => ?_
      obtain ⟨rfl, h3⟩ := h3
      have hacc : acc ++ [fe xs[i]] = ((xs.take (i + 1)).filter p).map fe := by
        rw [htk, List.filter_append, ha]
        simp [← hb]
      refine ⟨h3.at e, hal, hacc, (h.trans h3).set (Nat.le_refl _) ?_, at_set (h3.at e)⟩
      show belows 0 (acc ++ [fe xs[i]]) = true
      rw [hacc]
      refine blws_map 0 _ _ fun a hm => ?_
      rw [List.mem_filter] at hm
      exact pure a (List.mem_of_mem_take hm.1) hm.2
  · rintro acc S' ⟨ha, h, e⟩
    rw [List.take_length] at ha
    subst ha
    exact done S' h e
theorem wp_lcT {α : Type} {g : DenG} {t : DenB} {d : Den} {ρ0 : Env'} {f : Nat} (enc : α → MV) (xs : List α) (p : α → Bool) (fe : α → MV) (hf : xs.length < f) (h100 : xs.length < 100000)
    (turn : ∀ x ∈ xs, ∀ S', Gr S S' → wp (g (enc x) ρ0 S') NE fun ρ1 S1 => wp (t ρ1 S1) NE fun b S2 => b = p x ∧ if b = true then wp (d ρ1 S2) NE fun w S3 => w = fe x ∧ Gr S' S3 else Gr S' S2)
    (pure : ∀ x ∈ xs, p x = true → below 0 (fe x) = true)
    (done : ∀ S', Gr S S' → S'[S.length]? = some (.lst ((xs.filter p).map fe)) → Q (.ref S.length) S') : wp (match lcM (srcL (xs.map enc)) g t d ρ0 S.length f 0 (S ++ [.lst []]) with
    | some S2 => (.ok (.ref S.length) S2 : Res MV)
    | none => .stuck) E Q :=
  wp_lcG enc xs p fe hf h100 (fun i x S' e _ => by unfold srcL; rw [List.getElem?_map, e]; rfl) (fun S' _ => by unfold srcL; simp) turn pure done
theorem wp_lcR {α : Type} {g : DenG} {t : DenB} {d : Den} {ρ0 : Env'} {f n : Nat} (enc : α → MV) (xs : List α) (p : α → Bool) (fe : α → MV) (at_ : S[n]? = some (.lst (xs.map enc))) (hf : xs.length < f) (h100 : xs.length < 100000)
    (turn : ∀ x ∈ xs, ∀ S', Gr S S' → wp (g (enc x) ρ0 S') NE fun ρ1 S1 => wp (t ρ1 S1) NE fun b S2 => b = p x ∧ if b = true then wp (d ρ1 S2) NE fun w S3 => w = fe x ∧ Gr S' S3 else Gr S' S2)
    (pure : ∀ x ∈ xs, p x = true → below 0 (fe x) = true)
    (done : ∀ S', Gr S S' → S'[S.length]? = some (.lst ((xs.filter p).map fe)) → Q (.ref S.length) S') : wp (match lcM (srcRef n) g t d ρ0 S.length f 0 (S ++ [.lst []]) with
    | some S2 => (.ok (.ref S.length) S2 : Res MV)
    | none => .stuck) E Q :=
  wp_lcG enc xs p fe hf h100 (fun i x S' e h => by unfold srcRef; rw [h.at at_]; dsimp only; rw [List.getElem?_map, e]; rfl) (fun S' h => by unfold srcRef; rw [h.at at_]; simp) turn pure done
theorem wp_lcS {g : DenG} {t : DenB} {d : Den} {ρ0 : Env'} {f : Nat} (z : Str) (p : Nat → Bool) (fe : Nat → MV) (hf : z.cps.toList.length < f) (h100 : z.cps.toList.length < 100000)
    (turn : ∀ x ∈ z.cps.toList, ∀ S', Gr S S' → wp (g (.str ⟨#[x]⟩) ρ0 S') NE fun ρ1 S1 => wp (t ρ1 S1) NE fun b S2 => b = p x ∧ if b = true then wp (d ρ1 S2) NE fun w S3 => w = fe x ∧ Gr S' S3 else Gr S' S2)
    (pure : ∀ x ∈ z.cps.toList, p x = true → below 0 (fe x) = true)
    (done : ∀ S', Gr S S' → S'[S.length]? = some (.lst ((z.cps.toList.filter p).map fe)) → Q (.ref S.length) S') : wp (match lcM (srcStr z) g t d ρ0 S.length f 0 (S ++ [.lst []]) with
    | some S2 => (.ok (.ref S.length) S2 : Res MV)
    | none => .stuck) E Q :=
  wp_lcG (fun c => .str ⟨#[c]⟩) z.cps.toList p fe hf h100 (fun i x S' e _ => by unfold srcStr; rw [← Array.getElem?_toList, e]) (fun S' _ => by unfold srcStr; simp) turn pure done
/-- while: Inv k where at most k turns are left -/
theorem wp_whI {t : DenB} {body : DenS} (Inv : Nat → Env' → Store → Prop) (turn : ∀ k ρ S, Inv k ρ S → wp (t ρ S) NE fun b S1 => if b = true then 0 < k ∧ wp (body ρ S1) NE fun fl S2 => keep (Inv (k - 1)) QF fl S2 else QF (.next ρ) S1) : ∀ (f k : Nat) (ρ : Env') (S : Store), k < f → Inv k ρ S → wp (whM t body f ρ S) E QF
  | 0, k, ρ, S, hk, _ => by omega
  | f + 1, k, ρ, S, hk, hI => by
    obtain ⟨b, S1, e, h⟩ := (turn k ρ S hI).ex
    unfold whM
    rw [e]
    dsimp only [Res.bindS]
    cases b with
    | false => exact h
    | true =>
      rw [if_pos rfl] at h ⊢
      obtain ⟨h0, h1⟩ := h
      obtain ⟨fl, S2, e2, h2⟩ := h1.ex
      rw [e2]
      cases fl with
      | next ρ2 => exact wp_whI Inv turn f (k - 1) ρ2 S2 (by omega) h2
      | cont ρ2 => exact wp_whI Inv turn f (k - 1) ρ2 S2 (by omega) h2
      | brk ρ2 => exact h2
      | ret w => exact h2
      | exc c fs ρ2 => exact h2
end
theorem ty_NoneType_bool : isTy "NoneType" "bool" = false := rfl
theorem ty_NoneType_int : isTy "NoneType" "int" = false := rfl
theorem ty_NoneType_str : isTy "NoneType" "str" = false := rfl
theorem ty_NoneType_tuple : isTy "NoneType" "tuple" = false := rfl
theorem ty_NoneType_list : isTy "NoneType" "list" = false := rfl
theorem ty_bool_bool : isTy "bool" "bool" = true := rfl
theorem ty_bool_int : isTy "bool" "int" = true := rfl
theorem ty_bool_str : isTy "bool" "str" = false := rfl
theorem ty_bool_tuple : isTy "bool" "tuple" = false := rfl
theorem ty_bool_list : isTy "bool" "list" = false := rfl
theorem ty_int_bool : isTy "int" "bool" = false := rfl
theorem ty_int_int : isTy "int" "int" = true := rfl
theorem ty_int_str : isTy "int" "str" = false := rfl
theorem ty_int_tuple : isTy "int" "tuple" = false := rfl
theorem ty_int_list : isTy "int" "list" = false := rfl
theorem ty_str_bool : isTy "str" "bool" = false := rfl
theorem ty_str_int : isTy "str" "int" = false := rfl
theorem ty_str_str : isTy "str" "str" = true := rfl
theorem ty_str_tuple : isTy "str" "tuple" = false := rfl
theorem ty_str_list : isTy "str" "list" = false := rfl
theorem ty_tuple_bool : isTy "tuple" "bool" = false := rfl
theorem ty_tuple_int : isTy "tuple" "int" = false := rfl
theorem ty_tuple_str : isTy "tuple" "str" = false := rfl
theorem ty_tuple_tuple : isTy "tuple" "tuple" = true := rfl
theorem ty_tuple_list : isTy "tuple" "list" = false := rfl
end MI
open PySem PySem.Spec PyProof.Rows L2 MI 
local macro_rules | `(tactic| walk_at "runp") => `(tactic| simp only [wp_bind, wp_rng1, wp_rng2, wp_met, wp_neg, wp_bYes, if_true, wp_var, wp_c, wp_bin, wp_un, wp_call, wp_nil, wp_cons, wp_tup, wp_lst, wp_dic0, wp_int, wp_bcmp, wp_boolOf, wp_btru, wp_truB, wp_bnot, wp_band, wp_bor, wp_dif, wp_xand, wp_xor, wp_xnot, MV.bl.injEq, wp_intOf, wp_ixT, wp_gN, wp_gS, wp_seq, wp_snil, wp_sexpr, wp_sret, wp_sif, wp_asg, wp_par, wp_par3, wp_for, wp_iany, wp_irng, wp_ok, wp_ite, wp_iteR, wp_lc,
  wp_srcT, wp_srcS, wp_enumT, wp_zipT, wp_gT, wp_gsNil, wp_gsCons, wp_lenT, wp_isTT, wp_isTS, wp_isTI, wp_isTN, wp_isTB, wp_chain, wp_eqS, wp_neS, wp_neI, wp_eqII, wp_isNT, wp_isNN, wp_notNT, wp_notNN, wp_inT, wp_inTc, wp_inT0, flt_true, wp_inC, wp_notInT, wp_tupT, wp_addII, wp_backT, wp_starT, itemsT, wp_sl, wp_oN, wp_oS, atI0, atI1, atI2, atI3, atI4, wp_never, wipeM,
  ty_NoneType_bool, ty_NoneType_int, ty_NoneType_str, ty_NoneType_tuple, ty_NoneType_list, ty_bool_bool, ty_bool_int, ty_bool_str, ty_bool_tuple, ty_bool_list, ty_int_bool, ty_int_int, ty_int_str, ty_int_tuple, ty_int_list, ty_str_bool, ty_str_int, ty_str_str, ty_str_tuple, ty_str_list, ty_tuple_bool, ty_tuple_int, ty_tuple_str, ty_tuple_tuple, ty_tuple_list, Bool.not_false, Bool.not_true, Bool.false_eq_true, if_false,
  true_and, true_or, and_true, decide_eq_true_eq, Bool.and_eq_true, List.getElem?_cons_zero, List.getElem?_cons_succ, Option.some.injEq, exists_eq_left', List.set_cons_zero, List.set_cons_succ, List.map_cons, List.map_nil, List.cons_append, List.nil_append, List.replicate_succ, List.replicate_zero, List.length_cons, List.length_nil])
namespace MI
open PySem PySem.Spec PyProof.Rows L2 MI
end MI
open PySem PySem.Spec PyProof.Rows L2 MI 
local macro_rules | `(tactic| walk_at "fin0") => `(tactic| first | exact Gr.refl | exact ⟨rfl, Gr.refl⟩ | exact ⟨.inl rfl, Gr.refl⟩ | exact ⟨trivial, Gr.refl⟩ | exact ⟨.inl rfl, rfl⟩ | exact rfl)
namespace MI
open PySem PySem.Spec PyProof.Rows L2 MI
end MI


set_option Elab.async false
set_option linter.all false
set_option maxRecDepth 100000
/-! Rows of classes as plain data. -/
namespace MI
open PySem PySem.Spec PyProof.Rows L2
structure Mt where
  word : Str
  ins : List Str
  out : Str
  code : List MV
  hs : List MV
structure Cs where
  name : Str
  upper : Str
  fields : List (Str × Str)
  ms : List Mt
def mvPr (q : Str × Str) : MV := .tup [.str q.1, .str q.2]
def mvMt (m : Mt) : MV := .tup [.str m.word, .tup (m.ins.map .str), .str m.out, .tup m.code, .tup m.hs]
def mvCs (c : Cs) : MV := .tup [.str c.name, .str c.upper, .tup (c.fields.map mvPr), .tup (c.ms.map mvMt)]
theorem mvPr_eq (q : Str × Str) : mvPr q = .tup [.str q.1, .str q.2] := rfl
theorem mvMt_eq (m : Mt) : mvMt m = .tup [.str m.word, .tup (m.ins.map .str), .str m.out, .tup m.code, .tup m.hs] := rfl
theorem mvCs_eq (c : Cs) : mvCs c = .tup [.str c.name, .str c.upper, .tup (c.fields.map mvPr), .tup (c.ms.map mvMt)] := rfl
def mvAll (cs : List Cs) : MV := .tup (cs.map mvCs)
def names (cs : List Cs) : List Str := cs.map (·.name)
def cfind (cs : List Cs) (x : Str) : Option Cs := cs.find? fun c => decide (c.name = x)
def rowOf : List Cs → Str → List Cs
  | [], _ => []
  | c :: r, x => if c.name = x then c :: rowOf r c.upper else rowOf r x
def lineOf (cs : List Cs) (x : Str) : List Str := (rowOf cs.reverse x).map (·.name) ++ ([("top" : Str)] : List Str)
structure OkN (cs : List Cs) : Prop where
  nd : (names cs).Nodup
  top : ("top" : Str) ∉ names cs
  up : ∀ pre c post, cs = pre ++ c :: post → c.upper = ("top" : Str) ∨ c.upper ∈ names pre
theorem rowOf_skip {y : Str} {r : List Cs} : ∀ {l : List Cs}, (∀ c ∈ l, c.name ≠ y) → rowOf (l ++ r) y = rowOf r y
  | [], _ => rfl
  | c :: l, h => by
    show (if c.name = y then _ else _) = _
    rw [if_neg (h c (by simp))]
    exact rowOf_skip fun d hd => h d (by simp [hd])
theorem rowOf_mem : ∀ {l : List Cs} {x : Str} {c : Cs}, c ∈ rowOf l x → c ∈ l
  | [], _, _, h => by cases h
  | d :: l, x, c, h => by
    unfold rowOf at h
    split at h
    · rcases List.mem_cons.mp h with rfl | h
      · simp
      · exact List.mem_cons_of_mem _ (rowOf_mem h)
    · exact List.mem_cons_of_mem _ (rowOf_mem h)
theorem rowOf_len : ∀ (l : List Cs) (x : Str), (rowOf l x).length ≤ l.length
  | [], _ => Nat.le_refl _
  | d :: l, x => by
    unfold rowOf
    split
    · simp only [List.length_cons]
      have := rowOf_len l d.upper
      omega
    · simp only [List.length_cons]
      have := rowOf_len l x
      omega
theorem mem_names {cs : List Cs} {x : Str} (h : x ∈ names cs) : ∃ pre c post, cs = pre ++ c :: post ∧ c.name = x := by
  obtain ⟨c, hc, rfl⟩ := List.mem_map.mp h
  obtain ⟨pre, post, rfl⟩ := List.append_of_mem hc
  exact ⟨pre, c, post, rfl, rfl⟩
theorem names_app {a b : List Cs} : names (a ++ b) = names a ++ names b := List.map_append
namespace OkN
variable {cs pre post : List Cs} {c : Cs}
theorem apart (h : OkN cs) (e : cs = pre ++ c :: post) : (∀ d ∈ pre, d.name ≠ c.name) ∧ (∀ d ∈ post, d.name ≠ c.name) ∧ ∀ d ∈ post, d.name ∉ names pre := by
  have nd := h.nd
  rw [e, names_app] at nd
  obtain ⟨_, h2, h3⟩ := List.nodup_append.mp nd
  have h2' : (c.name :: names post).Nodup := h2
  rw [List.nodup_cons] at h2'
  refine ⟨fun d hd => h3 d.name (List.mem_map_of_mem hd) c.name (by show c.name ∈ c.name :: names post; simp), fun d hd z => h2'.1 (z ▸ List.mem_map_of_mem hd), fun d hd z => ?_⟩
  exact h3 d.name z d.name (by show d.name ∈ c.name :: names post; exact List.mem_cons_of_mem _ (List.mem_map_of_mem hd)) rfl
theorem find (h : OkN cs) (e : cs = pre ++ c :: post) : cfind cs c.name = some c := by
  unfold cfind
  rw [e, List.find?_append, List.find?_eq_none.mpr fun d hd => by simpa using (h.apart e).1 d hd]
  simp
theorem find_mem (h : OkN cs) (hc : c ∈ cs) : cfind cs c.name = some c := by
  obtain ⟨pre, post, e⟩ := List.append_of_mem hc
  exact h.find e
theorem ntop (h : OkN cs) {d : Cs} (hd : d ∈ cs) : d.name ≠ ("top" : Str) := fun z => h.top (z ▸ List.mem_map_of_mem hd)
theorem find_top (h : OkN cs) : cfind cs "top" = none := List.find?_eq_none.mpr fun d hd => by simpa using h.ntop hd
theorem row_top (h : OkN cs) : rowOf cs.reverse "top" = [] := by
  have := rowOf_skip (r := []) (l := cs.reverse) (y := ("top" : Str)) fun d hd => h.ntop (List.mem_reverse.mp hd)
  rw [List.append_nil] at this
  exact this
theorem row_pre (h : OkN cs) (e : cs = pre ++ c :: post) : rowOf cs.reverse c.upper = rowOf pre.reverse c.upper := by
  have hu := h.up pre c post e
  have hr : cs.reverse = (post.reverse ++ [c]) ++ pre.reverse := by rw [e]; simp
  rw [hr]
  refine rowOf_skip fun d hd => ?_
  have hd' : d ∈ post ∨ d = c := by simpa using hd
  have hmem : d ∈ cs := by
    rw [e]
    rcases hd' with hd | rfl
    · simp [hd]
    · simp
  rcases hu with hu | hu
  · rw [hu]
    exact h.ntop hmem
  · intro z
    rcases hd' with hd | rfl
    · exact (h.apart e).2.2 d hd (z ▸ hu)
    · obtain ⟨d', hd', z'⟩ := List.mem_map.mp hu
      exact (h.apart e).1 d' hd' (z'.trans z.symm)
theorem row_step (h : OkN cs) (e : cs = pre ++ c :: post) : rowOf cs.reverse c.name = c :: rowOf cs.reverse c.upper := by
  rw [h.row_pre e]
  have hr : cs.reverse = post.reverse ++ (c :: pre.reverse) := by rw [e]; simp
  rw [hr, rowOf_skip fun d hd => (h.apart e).2.1 d (List.mem_reverse.mp hd)]
  show (if c.name = c.name then _ else _) = _
  rw [if_pos rfl]
theorem upper (h : OkN cs) (e : cs = pre ++ c :: post) : c.upper = ("top" : Str) ∨ c.upper ∈ names cs := by
  rcases h.up pre c post e with hu | hu
  · exact .inl hu
  · refine .inr ?_
    rw [e, names_app]
    exact List.mem_append_left _ hu
end OkN
/-- a class, "top" among them -/
def IsC (cs : List Cs) (x : Str) : Prop := x = ("top" : Str) ∨ x ∈ names cs
def fieldsAt (cs : List Cs) (x : Str) : List (Str × Str) := match cfind cs x with
  | some c => c.fields
  | none => []
def msAt (cs : List Cs) (x : Str) : List Mt := match cfind cs x with
  | some c => c.ms
  | none => []
def mvAt (cs : List Cs) (x : Str) : MV := match cfind cs x with
  | some c => mvCs c
  | none => .tup [.str "top", .non, .tup [], .tup []]
def fieldsUp (cs : List Cs) (x : Str) : List (Str × Str) := ((lineOf cs x).reverse.map (fieldsAt cs)).flatten
def idxOf (w : Str) (ms : List Mt) : Option Nat := ms.findIdx? fun m => decide (m.word = w)
def nearL (cs : List Cs) (w : Str) : List Str → Option (Str × Nat)
  | [] => none
  | u :: us => match idxOf w (msAt cs u) with
    | some i => some (u, i)
    | none => nearL cs w us
def near (cs : List Cs) (x w : Str) : Option (Str × Nat) := nearL cs w (lineOf cs x)
def mvNear : Option (Str × Nat) → MV
  | none => .non
  | some (u, i) => .tup [.str u, .int i]
theorem idx_at {w : Str} {m : Mt} {post : List Mt} (hm : m.word = w) : ∀ {pre : List Mt}, (∀ d ∈ pre, d.word ≠ w) → idxOf w (pre ++ m :: post) = some pre.length
  | [], _ => by simp [idxOf, List.findIdx?_cons, hm]
  | d :: pre, h => by
    have ih := idx_at (post := post) hm (pre := pre) fun e he => h e (by simp [he])
    unfold idxOf at ih ⊢
    rw [List.cons_append, List.findIdx?_cons, if_neg (by simpa using h d (by simp)), ih]
    rfl
theorem idx_none {w : Str} {ms : List Mt} (h : ∀ d ∈ ms, d.word ≠ w) : idxOf w ms = none := List.findIdx?_eq_none_iff.mpr fun d hd => by simpa using h d hd
theorem nearL_skip {cs : List Cs} {w : Str} {r : List Str} : ∀ {pre : List Str}, (∀ u ∈ pre, idxOf w (msAt cs u) = none) → nearL cs w (pre ++ r) = nearL cs w r
  | [], _ => rfl
  | u :: pre, h => by
    show (match idxOf w (msAt cs u) with
      | some i => some (u, i)
      | none => nearL cs w (pre ++ r)) = _
    rw [h u (by simp)]
    exact nearL_skip (pre := pre) fun v hv => h v (List.mem_cons_of_mem _ hv)
theorem nearL_here {cs : List Cs} {w u : Str} {i : Nat} {r : List Str} (h : idxOf w (msAt cs u) = some i) : nearL cs w (u :: r) = some (u, i) := by
  unfold nearL
  rw [h]
theorem below_pr (n : Nat) (q : Str × Str) : below n (mvPr q) = true := rfl
theorem blws_pr (n : Nat) (l : List (Str × Str)) : belows n (l.map mvPr) = true := blws_map n _ l fun q _ => below_pr n q
end MI

set_option Elab.async false
set_option linter.all false
set_option maxRecDepth 100000
/-! == of tuples. -/
namespace MI
open PySem PySem.Spec PyProof.Rows L2
section
variable {E : EX} {S : Store} {Q : MV → Store → Prop}
theorem py_strs (f : Nat → Option PyData) : ∀ l : List Str, toPyWs f (l.map .str) = some (l.map .str)
  | [] => rfl
  | u :: l => by
    show (toPyW f (.str u)).bind (fun d => (toPyWs f (l.map .str)).map (d :: ·)) = _
    rw [py_strs f l]
    rfl
theorem lay_strs : ∀ l : List Str, (∀ u ∈ l, PyData.strOk u = true) → PyData.canLayAll0 (l.map PyData.str) = true
  | [], _ => rfl
  | u :: l, h => by
    show (PyData.canLay0 (.str u) && PyData.canLayAll0 (l.map PyData.str)) = true
    rw [lay_strs l fun v hv => h v (List.mem_cons_of_mem _ hv), Bool.and_true]
    exact h u (by simp)
theorem dep_strs : ∀ l : List Str, PyData.depthAll (l.map PyData.str) = 0
  | [] => rfl
  | u :: l => by
    show max (PyData.depth (.str u)) (PyData.depthAll (l.map PyData.str)) = 0
    rw [dep_strs l]
    rfl
theorem eq_sig {ins : List Str} {o : Str} (hi : ∀ u ∈ ins, PyData.strOk u = true) (ho : PyData.strOk o = true) : wp (fEq (.tup [.tup (ins.map .str), .str o]) (.tup [.tup (ins.map .str), .str o]) S) E Q = Q (.bl true) S := by
  have e : toPy S (.tup [.tup (ins.map .str), .str o]) = some (.tuple [.tuple (ins.map .str), .str o]) := by
    show (toPyWs (toPyR S 6) [.tup (ins.map .str), .str o]).map PyData.tuple = _
    have e1 : toPyW (toPyR S 6) (.tup (ins.map .str)) = some (.tuple (ins.map .str)) := by
      show (toPyWs (toPyR S 6) (ins.map .str)).map PyData.tuple = _
      rw [py_strs]
      rfl
    show ((toPyW (toPyR S 6) (.tup (ins.map .str))).bind fun d => ((toPyW (toPyR S 6) (.str o)).bind fun d2 => (some []).map (d2 :: ·)).map (d :: ·)).map PyData.tuple = _
    rw [e1]
    rfl
  have hc : PyData.canLay0 (.tuple [.tuple (ins.map .str), .str o]) = true := by
    show (PyData.canLayAll0 (ins.map PyData.str) && (PyData.canLay0 (.str o) && true)) = true
    rw [lay_strs ins hi, show PyData.canLay0 (.str o) = true from ho]
    rfl
  have hd : PyData.depth (.tuple [.tuple (ins.map .str), .str o]) = 2 := by
    show max (PyData.depthAll (ins.map PyData.str) + 1) (max (PyData.depth (.str o)) 0) + 1 = 2
    rw [dep_strs]
    rfl
  have k : eqM (.tup [.tup (ins.map .str), .str o]) (.tup [.tup (ins.map .str), .str o]) S = some true := by
    unfold eqM
    rw [show scalM (.tup [.tup (ins.map .str), .str o]) (.tup [.tup (ins.map .str), .str o]) = none from rfl]
    dsimp only
    rw [e]
    dsimp only
    have hs : SeqAt.shaped (.tuple [.tuple (ins.map .str), .str o]) = true := by
      unfold SeqAt.shaped
      rw [hc, hd]
      rfl
    rw [hs, if_pos (by rfl)]
    rw [SeqAt.eqv_refl _ hc]
  unfold fEq
  rw [k]
  rfl
end
theorem lets_ok : ∀ c ∈ ("abcdefghijklmnopqrstuvwxyz" : Str).cps.toList, c < 0x110000 := by decide +kernel
theorem strOk_of {z : Str} (h : ∀ c ∈ z.cps.toList, c ∈ ("abcdefghijklmnopqrstuvwxyz" : Str).cps.toList) : PyData.strOk z = true := by
  unfold PyData.strOk
  rw [Array.all_eq_true']
  intro c hc
  exact decide_eq_true (lets_ok c (h c (by simpa using hc)))
end MI

set_option Elab.async false
set_option linter.all false
set_option maxRecDepth 100000
/-! Lines upward. -/
namespace MI
open PySem PySem.Spec PyProof.Rows L2
section
variable {cs : List Cs}
theorem line_top (h : OkN cs) : lineOf cs ("top" : Str) = ([("top" : Str)] : List Str) := by
  unfold lineOf
  rw [h.row_top]
  rfl
theorem line_step (h : OkN cs) {pre post : List Cs} {c : Cs} (e : cs = pre ++ c :: post) : lineOf cs c.name = c.name :: lineOf cs c.upper := by
  unfold lineOf
  rw [h.row_step e]
  rfl
/-- going upward -/
theorem up_ind (h : OkN cs) {P : Str → Prop} (h0 : P ("top" : Str)) (h1 : ∀ pre c post, cs = pre ++ c :: post → P c.upper → P c.name) : ∀ x, IsC cs x → P x := by
  have key : ∀ n x, (rowOf cs.reverse x).length ≤ n → IsC cs x → P x := by
    intro n
    induction n with
    | zero =>
      intro x hl hx
      rcases hx with rfl | hx
      · exact h0
      · obtain ⟨pre, c, post, e, rfl⟩ := mem_names hx
        rw [h.row_step e] at hl
        simp at hl
    | succ n ih =>
      intro x hl hx
      rcases hx with rfl | hx
      · exact h0
      · obtain ⟨pre, c, post, e, rfl⟩ := mem_names hx
        rw [h.row_step e] at hl
        simp at hl
        exact h1 pre c post e (ih c.upper hl (h.upper e))
  exact fun x hx => key _ x (Nat.le_refl _) hx
theorem line_suffix (h : OkN cs) {u : Str} : ∀ x, IsC cs x → u ∈ lineOf cs x → ∃ pre, lineOf cs x = pre ++ lineOf cs u := by
  refine up_ind h ?_ ?_
  · intro hu
    rw [line_top h] at hu
    rw [List.mem_singleton.mp hu]
    exact ⟨[], rfl⟩
  · intro pre c post e ih hu
    rw [line_step h e] at hu
    rcases List.mem_cons.mp hu with rfl | hu
    · exact ⟨[], rfl⟩
    · obtain ⟨p, hp⟩ := ih hu
      refine ⟨c.name :: p, ?_⟩
      rw [line_step h e, hp]
      rfl
theorem line_head (h : OkN cs) {x : Str} (hx : IsC cs x) : ∃ r, lineOf cs x = x :: r := by
  rcases hx with rfl | hx
  · exact ⟨[], line_top h⟩
  · obtain ⟨pre, c, post, e, rfl⟩ := mem_names hx
    exact ⟨_, line_step h e⟩
theorem line_anti (h : OkN cs) {u v : Str} (hu : IsC cs u) (hv : IsC cs v) (h1 : u ∈ lineOf cs v) (h2 : v ∈ lineOf cs u) : u = v := by
  obtain ⟨p, hp⟩ := line_suffix h v hv h1
  obtain ⟨q, hq⟩ := line_suffix h u hu h2
  have l1 := congrArg List.length hp
  have l2 := congrArg List.length hq
  rw [List.length_append] at l1 l2
  have hp0 : p = [] := List.length_eq_zero_iff.mp (by omega)
  rw [hp0, List.nil_append] at hp
  obtain ⟨r1, e1⟩ := line_head h hu
  obtain ⟨r2, e2⟩ := line_head h hv
  rw [e1, e2] at hp
  exact (List.cons.inj hp).1.symm
theorem line_isC' (h : OkN cs) {x u : Str} (hu : u ∈ lineOf cs x) : IsC cs u := by
  unfold lineOf at hu
  rcases List.mem_append.mp hu with hu | hu
  · obtain ⟨d, hd, rfl⟩ := List.mem_map.mp hu
    exact .inr (List.mem_map_of_mem (List.mem_reverse.mp (rowOf_mem hd)))
  · exact .inl (List.mem_singleton.mp hu)
theorem top_mem (x : Str) : ("top" : Str) ∈ lineOf cs x := List.mem_append_right _ (by simp)
theorem first_le (h : OkN cs) {B : List Str} {u v : Str} (hB : v ∈ B) : ∀ x, IsC cs x → (lineOf cs x).find? (fun w => decide (w ∈ B)) = some u → v ∈ lineOf cs x → v ∈ lineOf cs u := by
  refine up_ind h ?_ ?_
  · intro hf hv
    rw [line_top h] at hf hv
    have := List.mem_of_find?_eq_some hf
    rw [List.mem_singleton.mp this, line_top h]
    exact hv
  · intro pre c post e ih hf hv
    rw [line_step h e] at hf hv
    by_cases hc : c.name ∈ B
    · rw [List.find?_cons_of_pos (by simpa using hc)] at hf
      cases hf
      rw [line_step h e]
      exact hv
    · rw [List.find?_cons_of_neg (by simpa using hc)] at hf
      refine ih hf ?_
      rcases List.mem_cons.mp hv with rfl | hv
      · exact absurd hB hc
      · exact hv
/-- the first class in common -/
def commonOf (cs : List Cs) (x y : Str) : Str := ((lineOf cs x).find? fun w => decide (w ∈ lineOf cs y)).getD "top"
theorem common_some (x y : Str) : (lineOf cs x).find? (fun w => decide (w ∈ lineOf cs y)) = some (commonOf cs x y) := by
  unfold commonOf
  cases e : (lineOf cs x).find? fun w => decide (w ∈ lineOf cs y) with
  | some u => rfl
  | none =>
    have := List.find?_eq_none.mp e "top" (top_mem x)
    simp [top_mem] at this
theorem common_sym (h : OkN cs) {x y : Str} (hx : IsC cs x) (hy : IsC cs y) : commonOf cs x y = commonOf cs y x := by
  have h1 := common_some (cs := cs) x y
  have h2 := common_some (cs := cs) y x
  have m1 := List.mem_of_find?_eq_some h1
  have m2 := List.mem_of_find?_eq_some h2
  have n1 : commonOf cs x y ∈ lineOf cs y := by simpa using List.find?_some h1
  have n2 : commonOf cs y x ∈ lineOf cs x := by simpa using List.find?_some h2
  exact line_anti h (line_isC' h m1) (line_isC' h m2) (first_le h m1 y hy h2 n1) (first_le h m2 x hx h1 n2)
theorem common_filter (x y : Str) : ∃ r, (lineOf cs x).filter (fun w => decide (w ∈ lineOf cs y)) = commonOf cs x y :: r := by
  have h1 := common_some (cs := cs) x y
  rw [← List.head?_filter] at h1
  cases e : (lineOf cs x).filter fun w => decide (w ∈ lineOf cs y) with
  | nil => rw [e] at h1; cases h1
  | cons a r => rw [e] at h1; cases h1; exact ⟨r, rfl⟩
end
end MI

set_option Elab.async false
set_option linter.all false
set_option maxRecDepth 100000
/-! in, not in of data of any depth. -/
namespace MI
open PySem PySem.Spec PyProof.Rows L2
def rInDT (K : PySem.W.Frag) : R2 := fun x y H Q => ∃ d ds, Dp K H x d ∧ Dp K H y (.tuple ds) ∧ SeqAt.shaped d = true ∧ SeqAt.shaped (.tuple ds) = true ∧ Q (.bl (ds.any fun z => PyData.eqv z d)) H
def rNotInDT (K : PySem.W.Frag) : R2 := fun x y H Q => ∃ d ds, Dp K H x d ∧ Dp K H y (.tuple ds) ∧ SeqAt.shaped d = true ∧ SeqAt.shaped (.tuple ds) = true ∧ Q (.bl (!ds.any fun z => PyData.eqv z d)) H
section
variable {X : Cx} {G : Gx}
theorem op_inDT (hu : X.A.units + 65 < cLine) : OpR X (compareOp .In) (rInDT X.K) := by
  intro pins s σ H x y v u Q I rx ry h
  obtain ⟨d, ds, hd, he, sd, se, q⟩ := h
  obtain ⟨as, r1⟩ := Dp.reads I d x v hd rx
  obtain ⟨bs, r2⟩ := Dp.reads I (.tuple ds) y u he ry
  exact SeqAt.in_tuple_reads r2 r1 (SeqAt.canLay_of_shaped se) (SeqAt.canLay_of_shaped sd) (room_in_shaped sd hu) ⟨.bl _, H, I, rfl, q⟩
theorem op_notInDT (hu : X.A.units + 65 < cLine) : OpR X (compareOp .NotIn) (rNotInDT X.K) := by
  intro pins s σ H x y v u Q I rx ry h
  obtain ⟨d, ds, hd, he, sd, se, q⟩ := h
  obtain ⟨as, r1⟩ := Dp.reads I d x v hd rx
  obtain ⟨bs, r2⟩ := Dp.reads I (.tuple ds) y u he ry
  exact SeqAt.notIn_tuple_reads r2 r1 (SeqAt.canLay_of_shaped se) (SeqAt.canLay_of_shaped sd) (room_in_shaped sd hu) ⟨.bl _, H, I, rfl, q⟩
/-- the items of a list or tuple, as data, where all is shaped -/
def inX (w1 w2 : MV) (S : Store) : Option Bool := match inM w1 w2 S with
  | some k => some k
  | none => match toPy S w1, toPy S w2 with
    | some d, some (.list ds) => if SeqAt.shaped d && SeqAt.shaped (.list ds) then some (ds.any fun z => PyData.eqv z d) else none
    | some d, some (.tuple ds) => if SeqAt.shaped d && SeqAt.shaped (.tuple ds) then some (ds.any fun z => PyData.eqv z d) else none
    | _, _ => none
def fInX (w1 w2 : MV) (S : Store) : Res MV := match inX w1 w2 S with
  | some k => .ok (.bl k) S
  | none => .stuck
def fNotInX (w1 w2 : MV) (S : Store) : Res MV := match inX w1 w2 S with
  | some k => .ok (.bl (!k)) S
  | none => .stuck
theorem inX_ok {ι : List Addr} {H : Hp} {S : Store} {w1 w2 : MV} {v1 v2 : V} {k : Bool} (s : Sim G ι H S) (r1 : RW G ι H w1 v1) (r2 : RW G ι H w2 v2) (h : inX w1 w2 S = some k) :
    inM w1 w2 S = some k ∨ (∃ d ds, Dp G.K H v1 d ∧ Dp G.K H v2 (.list ds) ∧ SeqAt.shaped d = true ∧ SeqAt.shaped (.list ds) = true ∧ (ds.any fun z => PyData.eqv z d) = k) ∨
      ∃ d ds, Dp G.K H v1 d ∧ Dp G.K H v2 (.tuple ds) ∧ SeqAt.shaped d = true ∧ SeqAt.shaped (.tuple ds) = true ∧ (ds.any fun z => PyData.eqv z d) = k := by
  unfold inX at h
  split at h
  · rename_i k' e
    cases h
    exact .inl e
  · split at h
    · rename_i d ds e1 e2
      split at h
      · rename_i hz
        rw [Bool.and_eq_true] at hz
        cases h
        exact .inr (.inl ⟨d, ds, dp_of s r1 e1, dp_of s r2 e2, hz.1, hz.2, rfl⟩)
      · cases h
    · rename_i d ds e1 e2
      split at h
      · rename_i hz
        rw [Bool.and_eq_true] at hz
        cases h
        exact .inr (.inr ⟨d, ds, dp_of s r1 e1, dp_of s r2 e2, hz.1, hz.2, rfl⟩)
      · cases h
    · cases h
theorem w_inX : OpW G fInX (fun x y H Q => (rInS x y H Q ∨ rIn G.K false x y H Q) ∨ (rInD G.K x y H Q ∨ rInDT G.K x y H Q)) := fun ι H S E Q w1 w2 v1 v2 s r1 r2 h => by
  unfold fInX at h
  split at h
  · rename_i k e
    have q := h ι H (.refl s) _ (.bl k)
    rcases inX_ok s r1 r2 e with e | ⟨d, ds, h1, h2, h3, h4, h5⟩ | ⟨d, ds, h1, h2, h3, h4, h5⟩
    · exact .inl (w_in ι H S E Q w1 w2 v1 v2 s r1 r2 (by unfold fIn; rw [e]; exact h))
    · exact .inr (.inl ⟨d, ds, h1, h2, h3, h4, by rw [h5]; exact q⟩)
    · exact .inr (.inr ⟨d, ds, h1, h2, h3, h4, by rw [h5]; exact q⟩)
  · exact h.elim
theorem w_notInX : OpW G fNotInX (fun x y H Q => (rNotInS x y H Q ∨ rIn G.K true x y H Q) ∨ (rNotInD G.K x y H Q ∨ rNotInDT G.K x y H Q)) := fun ι H S E Q w1 w2 v1 v2 s r1 r2 h => by
  unfold fNotInX at h
  split at h
  · rename_i k e
    have q := h ι H (.refl s) _ (.bl (!k))
    rcases inX_ok s r1 r2 e with e | ⟨d, ds, h1, h2, h3, h4, h5⟩ | ⟨d, ds, h1, h2, h3, h4, h5⟩
    · exact .inl (w_notIn ι H S E Q w1 w2 v1 v2 s r1 r2 (by unfold fNotIn; rw [e]; exact h))
    · exact .inr (.inl ⟨d, ds, h1, h2, h3, h4, by rw [h5]; exact q⟩)
    · exact .inr (.inr ⟨d, ds, h1, h2, h3, h4, by rw [h5]; exact q⟩)
  · exact h.elim
theorem units65 {k : Nat} {A : Around} (r : Room k A) : A.units + 65 < cLine := by have := r.un; omega
theorem cmp_inX (hK : X.K = G.K) (hu : X.A.units + 65 < cLine) : CmpOk X G .In fInX := ⟨_, (op_in_sign.or op_in_seq).or ((op_inD hu).or (op_inDT hu)), by rw [hK]; exact w_inX⟩
theorem cmp_notInX (hK : X.K = G.K) (hu : X.A.units + 65 < cLine) : CmpOk X G .NotIn fNotInX := ⟨_, (op_notIn_sign.or op_notIn_seq).or ((op_notInD hu).or (op_notInDT hu)), by rw [hK]; exact w_notInX⟩
end
end MI

set_option Elab.async false
set_option linter.all false
set_option maxRecDepth 100000
/-! comprehensions of two fors. -/
namespace MI
open PySem PySem.Spec PyProof.Rows L2
def lcM2 (nx : Src) (g : DenG) (t : DenB) (it1 : DenI) (g1 : DenG) (t1 : DenB) (d : Den) (ρ0 : Env') (vs1 : List Nat) (m f1 : Nat) : Nat → Nat → Store → Option Store
  | 0, _ => fun _ => none
  | f + 1, i => fun S => match nx i S with
    | .stop => some S
    | .stuck => none
    | .yield w => match g w ρ0 S with
      | .ok ρ1 S1 => match t ρ1 S1 with
        | .ok true S2 => match it1 ρ1 S2 with
          | .ok nx1 S3 => match lcM nx1 g1 t1 d (wipeM ρ1 vs1) m f1 0 S3 with
            | some S4 => lcM2 nx g t it1 g1 t1 d ρ0 vs1 m f1 f (i + 1) S4
            | none => none
          | _ => none
        | .ok false S2 => lcM2 nx g t it1 g1 t1 d ρ0 vs1 m f1 f (i + 1) S2
        | _ => none
      | _ => none
def dLc2 (f : Nat) (it : DenI) (g : DenG) (t : DenB) (it1 : DenI) (g1 : DenG) (t1 : DenB) (d : Den) (own vs1 : List Nat) : Den := fun ρ S => (it ρ S).bind fun nx S1 => match lcM2 nx g t it1 g1 t1 d (wipeM ρ own) vs1 S1.length f f 0 (S1 ++ [.lst []]) with
  | some S2 => .ok (.ref S1.length) S2
  | none => .stuck
section
variable {X : Cx} {G : Gx} {W : WX} {e a b c : Expr} {pos : Pos}
/-- the inner walk: what is made is laid into the list at D, the end is K -/
theorem lc_inner {nx : Src} {g : DenG} {t : DenB} {d : Den} {vs own : List Nat} (hv : ∀ j ∈ vs, j ∈ own) {m f : Nat} {D : Addr} {J : It} {K : Hp → Prop} {ι1 : List Addr} {H1 : Hp} {S1 S' : Store} {ρ : Env'} {σ : L2.St} (s1 : Sim G ι1 H1 S1) (re : RE G ι1 H1 ρ σ) (hD : ι1[m]? = some D) (hJ : ItOk G ι1 H1 J nx)
    (e : lcM nx g t d (wipeM ρ own) m f 0 S1 = some S') (hK : ∀ ι' H', Post G ι1 H1 ι' H' S' → K H') :
    ∃ W1 : Nat → Nat → Hp → Prop, (∃ k, W1 0 k H1) ∧ ∀ j k H, W1 j k H → (J.stop j H ∧ K H) ∨ (J.go j H ∧ ∃ Nx : Hp → Prop, (∀ H', Nx H' → ∃ k', k' < k ∧ W1 (j + 1) k' H') ∧ ∀ x H', J.yld j H x H' → tG G vs g x (L2.wipe σ own) H' fun σ3 H5 => L2.wipe σ3 own = L2.wipe σ own ∧ tT G WF t σ3 H5 fun b H6 =>
      if b = true then tD G WF d σ3 H6 fun y H7 => ∃ acc, H7 D = some (.lst acc) ∧ acc.length < sizeLine ∧ Nx (upd H7 D (.lst (acc ++ [y]))) else Nx H6) := by
  refine ⟨fun i k H2 => ∃ ι2 S2, Post G ι1 H1 ι2 H2 S2 ∧ ι2[m]? = some D ∧ lcM nx g t d (wipeM ρ own) m k i S2 = some S', ⟨f, ι1, S1, .refl s1, hD, e⟩, ?_⟩
  rintro i k H2 ⟨ι2, S2, p2, hD2, e2⟩
  have kJ := hJ i ι2 H2 S2 p2
  cases k with
  | zero => cases e2
  | succ k =>
    unfold lcM at e2
    cases e : nx i S2 with
    | stop =>
      rw [e] at e2 kJ
      cases e2
      exact .inl ⟨kJ, hK ι2 H2 p2⟩
    | stuck => rw [e] at e2; cases e2
    | yield w =>
      rw [e] at e2 kJ
      dsimp only at e2 kJ
      refine .inr ⟨kJ.1, fun H3 => ∃ ι3 S3, Post G ι1 H1 ι3 H3 S3 ∧ ι3[m]? = some D ∧ lcM nx g t d (wipeM ρ own) m k (i + 1) S3 = some S', fun H3 n => ⟨k, Nat.lt_succ_self _, n⟩, fun x H3 y => ?_⟩
      obtain ⟨p3, r3⟩ := kJ.2 x H3 y
      have re3 : RE G ι2 H3 (wipeM ρ own) (L2.wipe σ own) := (p2.trans p3).re (re.wipe own)
      refine ⟨ι2, S2, wipeM ρ own, w, p3.sim, re3, r3, ?_⟩
      cases e4 : g w (wipeM ρ own) S2 with
      | err c fs S' => rw [e4] at e2; cases e2
      | stuck => rw [e4] at e2; cases e2
      | ok ρ4 S4 =>
        rw [e4] at e2
        dsimp only at e2
        refine fun ι4 H4 p4 σ4 re4 hv4 hl4 => ⟨wipe_agree hv hv4 hl4, ι4, S4, ρ4, p4.sim, re4, ?_⟩
        have p24 := p3.trans p4
        cases e5 : t ρ4 S4 with
        | err c fs S' => rw [e5] at e2; cases e2
        | stuck => rw [e5] at e2; cases e2
        | ok b S5 =>
          rw [e5] at e2
          cases b with
          | false =>
            dsimp only at e2
            refine fun ι5 H5 p5 => ?_
            dsimp only
            rw [if_neg Bool.false_ne_true]
            exact ⟨ι5, S5, p2.trans (p24.trans p5), (p24.trans p5).ext _ _ hD2, e2⟩
          | true =>
            dsimp only at e2
            refine fun ι5 H5 p5 => ?_
            dsimp only
            rw [if_pos rfl]
            refine ⟨ι5, S5, ρ4, p5.sim, p5.re re4, ?_⟩
            cases e6 : d ρ4 S5 with
            | err c fs S' => rw [e6] at e2; cases e2
            | stuck => rw [e6] at e2; cases e2
            | ok w' S6 =>
              rw [e6] at e2
              dsimp only at e2
              refine fun ι6 H6 p6 v6 r6 => ?_
              cases e7 : S6[m]? with
              | none => rw [e7] at e2; cases e2
              | some o =>
                rw [e7] at e2
                cases o with
                | lst acc =>
                  dsimp only at e2
                  split at e2
                  · rename_i hz
                    have pp := p24.trans (p5.trans p6)
                    have hD6 := pp.ext _ _ hD2
                    obtain ⟨vs', g', q'⟩ := p6.sim.obj _ _ _ e7 hD6
                    have t6 := sqT_upd (K := G.K) (ho := .lst (vs' ++ [v6])) (noTup_of g' (fun _ z => by cases z) (fun _ _ z => by cases z))
                    have p7 := p6.sim.write hD6 g' (fun _ z => by cases z) (fun _ _ z => by cases z) (ho' := .lst (vs' ++ [v6])) (mo := .lst (acc ++ [w'])) ⟨_, upd_same, (q'.append (.cons r6 .nil)).mono (fun _ _ e => e) t6⟩
                    exact ⟨vs', g', by rw [← q'.length]; exact Nat.lt_of_lt_of_le hz (by rw [sizeLine_eq]; decide), ι6, _, p2.trans (pp.trans p7), hD6, e2⟩
                  · cases e2
                | rol acc => cases e2
                | dic kvs => cases e2
                | ins c fs => cases e2
theorem lc2_imp {f : Nat} {it it1 : DenI} {vs vs1 w1 own : List Nat} {g g1 : DenG} {t t1 : DenB} {d : Den} (hv : ∀ j ∈ vs, j ∈ own) (hw : ∀ j ∈ w1, j ∈ vs1) {σ : L2.St} {H : Hp} {Q : VK} (h : tD G W (dLc2 f it g t it1 g1 t1 d own vs1) σ H Q) : tLc2 (tI G W it) (tG G vs g) (tT G WF t) (tI G WF it1) (tG G w1 g1) (tT G WF t1) (tD G WF d) own vs1 σ H Q := by
  obtain ⟨ι, S, ρ, s, re, h⟩ := h
  refine ⟨ι, S, ρ, s, re, (fin.bind h).mono fun nx ι1 H1 S1 p _ h1 J hJ D hD => ?_⟩
  obtain ⟨S1, s1, _, re1, _, h1⟩ := h1
  have re1 := re1 _ _ re
  have p0 := s1.new hD (ho := .lst []) (mo := .lst []) ⟨[], upd_same, .nil⟩
  refine ⟨fun i m H2 => ∃ ι2 S2, Post G ι1 H1 ι2 H2 S2 ∧ ι2[S1.length]? = some D ∧ ∃ S', lcM2 nx g t it1 g1 t1 d (wipeM ρ own) vs1 S1.length f m i S2 = some S' ∧ fin G ι2 H2 (fun c x H' => W c x σ H') (PV G Q) (.ok (.ref S1.length) S'), ⟨f, ι1 ++ [D], S1 ++ [.lst []], p0, by rw [← s1.len]; simp, ?_⟩, ?_⟩
  · cases e : lcM2 nx g t it1 g1 t1 d (wipeM ρ own) vs1 S1.length f f 0 (S1 ++ [.lst []]) with
    | none => rw [e] at h1; exact h1.elim
    | some S' => rw [e] at h1; exact ⟨S', rfl, fin.later p0 h1⟩
  · rintro i m H2 ⟨ι2, S2, p2, hD2, S', e2, h2⟩
    have kJ := hJ i ι2 H2 S2 p2
    cases m with
    | zero => cases e2
    | succ m =>
      unfold lcM2 at e2
      cases e : nx i S2 with
      | stop =>
        rw [e] at e2 kJ
        cases e2
        exact .inl ⟨kJ, h2 ι2 H2 (.refl p2.sim) (.ref D) (.ref hD2)⟩
      | stuck => rw [e] at e2; cases e2
      | yield w =>
        rw [e] at e2 kJ
        dsimp only at e2 kJ
        refine .inr ⟨kJ.1, fun H3 => ∃ ι3 S3, Post G ι1 H1 ι3 H3 S3 ∧ ι3[S1.length]? = some D ∧ ∃ S', lcM2 nx g t it1 g1 t1 d (wipeM ρ own) vs1 S1.length f m (i + 1) S3 = some S' ∧ fin G ι3 H3 (fun c x H' => W c x σ H') (PV G Q) (.ok (.ref S1.length) S'), fun H3 n => ⟨m, Nat.lt_succ_self _, n⟩, fun x H3 y => ?_⟩
        obtain ⟨p3, r3⟩ := kJ.2 x H3 y
        have re3 : RE G ι2 H3 (wipeM ρ own) (L2.wipe σ own) := (p2.trans p3).re (re1.wipe own)
        refine ⟨ι2, S2, wipeM ρ own, w, p3.sim, re3, r3, ?_⟩
        cases e4 : g w (wipeM ρ own) S2 with
        | err c fs S' => rw [e4] at e2; cases e2
        | stuck => rw [e4] at e2; cases e2
        | ok ρ4 S4 =>
          rw [e4] at e2
          dsimp only at e2
          refine fun ι4 H4 p4 σ4 re4 hv4 hl4 => ⟨wipe_agree hv hv4 hl4, ι4, S4, ρ4, p4.sim, re4, ?_⟩
          have p24 := p3.trans p4
          cases e5 : t ρ4 S4 with
          | err c fs S' => rw [e5] at e2; cases e2
          | stuck => rw [e5] at e2; cases e2
          | ok k S5 =>
            rw [e5] at e2
            cases k with
            | false =>
              dsimp only at e2
              refine fun ι5 H5 p5 => ?_
              dsimp only
              rw [if_neg Bool.false_ne_true]
              exact ⟨ι5, S5, p2.trans (p24.trans p5), (p24.trans p5).ext _ _ hD2, S', e2, fin.later (p24.trans p5) h2⟩
            | true =>
              dsimp only at e2
              refine fun ι5 H5 p5 => ?_
              dsimp only
              rw [if_pos rfl]
              refine ⟨ι5, S5, ρ4, p5.sim, p5.re re4, ?_⟩
              cases e6 : it1 ρ4 S5 with
              | err c fs S' => rw [e6] at e2; cases e2
              | stuck => rw [e6] at e2; cases e2
              | ok nx1 S6 =>
                rw [e6] at e2
                dsimp only at e2
                refine fun ι6 H6 p6 J1 hJ1 => ?_
                have pp := p24.trans (p5.trans p6)
                cases e7 : lcM nx1 g1 t1 d (wipeM ρ4 vs1) S1.length f 0 S6 with
                | none => rw [e7] at e2; cases e2
                | some S7 =>
                  rw [e7] at e2
                  dsimp only at e2
                  refine lc_inner hw p6.sim ((p5.trans p6).re re4) (pp.ext _ _ hD2) hJ1 e7 fun ι7 H7 p7 => ?_
                  exact ⟨ι7, S7, p2.trans (pp.trans p7), (pp.trans p7).ext _ _ hD2, S', e2, fin.later (pp.trans p7) h2⟩
theorem de_lc2 {f : Nat} {elt tg iter tg1 iter1 : Expr} {ifs ifs1 : List Expr} {scope : Scope} {own : List (Str × Nat)} {vs vs1 w1 : List Nat} {it it1 : DenI} {g g1 : DenG} {t t1 : DenB} {d : Den} (hc : X.calm = true) (hN : X.N.Nodup) (hi : DI X G W tg iter it) (ok : BlkOk X.N X.env.scope scope own) (hv1 : ∀ i ∈ vs1, i ∈ own.map (·.2))
    (hg : ∀ (s : Shared) (H : Hp) (C : Addr) (cl : List (Str × Addr)) (fp : List Addr), DG (X.blk s H scope (compEnvC scope cl C X.env) fp) G tg vs g) (ht : ∀ (s : Shared) (H : Hp) (C : Addr) (cl : List (Str × Addr)) (fp : List Addr), DTs (X.blk s H scope (compEnvC scope cl C X.env) fp) G WF ifs t)
    (hi1 : ∀ (s : Shared) (H : Hp) (C : Addr) (cl : List (Str × Addr)) (fp : List Addr), DI (X.blk s H scope (compEnvC scope cl C X.env) fp) G WF tg1 iter1 it1)
    (hg1 : ∀ (s : Shared) (H : Hp) (C : Addr) (cl : List (Str × Addr)) (fp : List Addr), DG (X.blk s H scope (compEnvC scope cl C X.env) fp) G tg1 w1 g1) (ht1 : ∀ (s : Shared) (H : Hp) (C : Addr) (cl : List (Str × Addr)) (fp : List Addr), DTs (X.blk s H scope (compEnvC scope cl C X.env) fp) G WF ifs1 t1)
    (he : ∀ (s : Shared) (H : Hp) (C : Addr) (cl : List (Str × Addr)) (fp : List Addr), DE (X.blk s H scope (compEnvC scope cl C X.env) fp) G WF elt d) (hv : ∀ j ∈ vs, j ∈ own.map (·.2) := by decide) (hw : ∀ j ∈ w1, j ∈ vs1 := by decide) (hs : ∀ x, foldedSetIterable iter X.env x = pure x := by intro _; rfl) (hs1 : ∀ env x, foldedSetIterable iter1 env x = pure x := by intro _ _; rfl) :
    DE X G W (.ListComp elt [⟨tg, iter, ifs, 0⟩, ⟨tg1, iter1, ifs1, 0⟩] scope pos) (dLc2 f it g t it1 g1 t1 d (own.map (·.2)) vs1) :=
  ⟨PE.imp (pe_lc2 hc hN hi.run ok hv1 (fun s H C cl fp => (hg s H C cl fp).run) (fun s H C cl fp => (ht s H C cl fp).run) (fun s H C cl fp => (hi1 s H C cl fp).run) (fun s H C cl fp => (hg1 s H C cl fp).run) (fun s H C cl fp => (ht1 s H C cl fp).run) (fun s H C cl fp => (he s H C cl fp).run) hs hs1) fun _ _ _ h => lc2_imp hv hw h⟩
/-- name = [.. for .. for ..] -/
theorem ds_setLc2 (i : Nat) {f : Nat} {y : Str} {py : Pos} {elt tg iter tg1 iter1 : Expr} {ifs ifs1 : List Expr} {scope : Scope} {own : List (Str × Nat)} {spos : Pos} {vs vs1 w1 : List Nat} {it it1 : DenI} {g g1 : DenG} {t t1 : DenB} {d : Den} (hc : X.calm = true) (hN : X.N.Nodup) (hi : DI X G W tg iter it) (ok : BlkOk X.N X.env.scope scope own) (hv1 : ∀ i ∈ vs1, i ∈ own.map (·.2))
    (hg : ∀ (s : Shared) (H : Hp) (C : Addr) (cl : List (Str × Addr)) (fp : List Addr), DG (X.blk s H scope (compEnvC scope cl C X.env) fp) G tg vs g) (ht : ∀ (s : Shared) (H : Hp) (C : Addr) (cl : List (Str × Addr)) (fp : List Addr), DTs (X.blk s H scope (compEnvC scope cl C X.env) fp) G WF ifs t)
    (hi1 : ∀ (s : Shared) (H : Hp) (C : Addr) (cl : List (Str × Addr)) (fp : List Addr), DI (X.blk s H scope (compEnvC scope cl C X.env) fp) G WF tg1 iter1 it1)
    (hg1 : ∀ (s : Shared) (H : Hp) (C : Addr) (cl : List (Str × Addr)) (fp : List Addr), DG (X.blk s H scope (compEnvC scope cl C X.env) fp) G tg1 w1 g1) (ht1 : ∀ (s : Shared) (H : Hp) (C : Addr) (cl : List (Str × Addr)) (fp : List Addr), DTs (X.blk s H scope (compEnvC scope cl C X.env) fp) G WF ifs1 t1)
    (he : ∀ (s : Shared) (H : Hp) (C : Addr) (cl : List (Str × Addr)) (fp : List Addr), DE (X.blk s H scope (compEnvC scope cl C X.env) fp) G WF elt d)
    (hsw : swapsWith (.ListComp elt [⟨tg, iter, ifs, 0⟩, ⟨tg1, iter1, ifs1, 0⟩] scope pos) (some (.Name y py)) spos.line X.env = pure true)
    (hy : X.N[i]? = some y := by rfl) (hyl : X.env.scope.names.lookup y = some .local := by rfl) (hv : ∀ j ∈ vs, j ∈ own.map (·.2) := by decide) (hw : ∀ j ∈ w1, j ∈ vs1 := by decide) (hs : ∀ x, foldedSetIterable iter X.env x = pure x := by intro _; rfl) (hs1 : ∀ env x, foldedSetIterable iter1 env x = pure x := by intro _ _; rfl) :
    DS X G W (.Assign [.Name y py] (.ListComp elt [⟨tg, iter, ifs, 0⟩, ⟨tg1, iter1, ifs1, 0⟩] scope pos) spos) (sAsg (dLc2 f it g t it1 g1 t1 d (own.map (·.2)) vs1) (gN i)) :=
  ⟨PS.imp (ps_setLc2 hc hN hy hyl hsw hi.run ok hv1 (fun s H C cl fp => (hg s H C cl fp).run) (fun s H C cl fp => (ht s H C cl fp).run) (fun s H C cl fp => (hi1 s H C cl fp).run) (fun s H C cl fp => (hg1 s H C cl fp).run) (fun s H C cl fp => (ht1 s H C cl fp).run) (fun s H C cl fp => (he s H C cl fp).run) hs hs1) fun D σ H h => by
    refine lc2_imp (f := f) (W := W) hv hw ?_
    obtain ⟨ι, S, ρ, s, re, h⟩ := h
    refine ⟨ι, S, ρ, s, re, (fin.bindS re h).mono fun w ι1 H1 S1 p _ h1 v r => ?_⟩
    obtain ⟨S1, s1, re1, _, h1⟩ := h1
    exact h1 ι1 H1 (.refl s1) _ (re1.set r i)⟩
end
/-! reading them -/
section
variable {E : EX} {S : Store} {ρ : Env'} {Q : MV → Store → Prop}
theorem wp_lc2 {f : Nat} {it it1 : DenI} {g g1 : DenG} {t t1 : DenB} {d : Den} {own vs1 : List Nat} : wp (dLc2 f it g t it1 g1 t1 d own vs1 ρ S) E Q = wp (it ρ S) E fun nx S1 => wp (match lcM2 nx g t it1 g1 t1 d (wipeM ρ own) vs1 S1.length f f 0 (S1 ++ [.lst []]) with
    | some S2 => (.ok (.ref S1.length) S2 : Res MV)
    | none => .stuck) E Q := wp_bind
/-- the inner walk: what is made is laid behind what is there -/
theorem lc_run {α : Type} {nx : Src} {g : DenG} {t : DenB} {d : Den} {ρ0 : Env'} {S0 : Store} (enc : α → MV) (xs : List α) (p : α → Bool) (fe : α → MV) (src : ∀ i x S', xs[i]? = some x → Gr S0 S' → nx i S' = .yield (enc x)) (stop : ∀ S', Gr S0 S' → nx xs.length S' = .stop)
    (turn : ∀ x ∈ xs, ∀ S', Gr S0 S' → wp (g (enc x) ρ0 S') NE fun ρ1 S1 => wp (t ρ1 S1) NE fun b S2 => b = p x ∧ if b = true then wp (d ρ1 S2) NE fun w S3 => w = fe x ∧ Gr S' S3 else Gr S' S2)
    (pure : ∀ x ∈ xs, p x = true → below 0 (fe x) = true) {acc : List MV} (hacc : belows 0 acc = true) (hlen : acc.length + xs.length ≤ 90000) {f : Nat} (hf : xs.length < f) {S : Store} (g0 : Gr S0 S) (e0 : S[S0.length]? = some (.lst acc)) :
    ∃ S', lcM nx g t d ρ0 S0.length f 0 S = some S' ∧ Gr S0 S' ∧ S'[S0.length]? = some (.lst (acc ++ (xs.filter p).map fe)) := by
  obtain ⟨acc', S', e, h1, h2, h3⟩ := lcM_inv (nx := nx) (g := g) (t := t) (d := d) (ρ0 := ρ0) (m := S0.length) xs.length (fun i a S' => (∃ a', a' = ((xs.take i).filter p).map fe ∧ a = acc ++ a') ∧ Gr S0 S' ∧ S'[S0.length]? = some (.lst a)) (fun i a S' h => h.2.2) (fun a S' h => stop S' h.2.1) (by
    rintro i a S' hi ⟨⟨a', ha, rfl⟩, h, e⟩
    have hxi : xs[i]? = some xs[i] := List.getElem?_eq_getElem hi
    refine ⟨enc xs[i], src i _ S' hxi h, ?_⟩
    refine (turn xs[i] (List.getElem_mem hi) S' h).mono fun ρ1 S1 h1 => h1.mono fun b S2 h2 => ?_
    obtain ⟨hb, h2⟩ := h2
    have htk : xs.take (i + 1) = xs.take i ++ [xs[i]] := by rw [List.take_add_one, hxi]; rfl
    have hal : (acc ++ a').length < 100000 := by
      rw [ha, List.length_append, List.length_map]
      have := List.length_filter_le p (xs.take i)
      rw [List.length_take] at this
      omega
    cases hbb : b with
    | false =>
      rw [hbb] at h2 hb
      rw [if_neg (by simp)] at h2 ⊢
      refine ⟨⟨a', ?_, rfl⟩, h.trans h2, h2.at e⟩
      rw [htk, List.filter_append, ha]
      simp [← hb]
    | true =>
      rw [hbb] at h2 hb
      rw [if_pos rfl] at h2 ⊢
      refine h2.mono fun w S3 h3 => ?_
      obtain ⟨rfl, h3⟩ := h3
      have hacc2 : a' ++ [fe xs[i]] = ((xs.take (i + 1)).filter p).map fe := by
        rw [htk, List.filter_append, ha]
        simp [← hb]
      refine ⟨h3.at e, hal, ⟨a' ++ [fe xs[i]], hacc2, by simp⟩, (h.trans h3).set (Nat.le_refl _) ?_, at_set (h3.at e)⟩
      show belows 0 (acc ++ a' ++ [fe xs[i]]) = true
      rw [List.append_assoc, hacc2]
      refine (blws_all 0 _).mpr fun a hm => ?_
      rcases List.mem_append.mp hm with hm | hm
      · exact (blws_all 0 _).mp hacc a hm
      · obtain ⟨z, hz, rfl⟩ := List.mem_map.mp hm
        rw [List.mem_filter] at hz
        exact pure z (List.mem_of_mem_take hz.1) hz.2) xs.length f 0 acc S (by omega) hf ⟨⟨[], by simp, by simp⟩, g0, e0⟩
  obtain ⟨a', ha, rfl⟩ := h1
  rw [List.take_length] at ha
  exact ⟨S', e, h2, by rw [← ha]; exact h3⟩
/-- two fors, no test on the outer one: what is made, walk by walk -/
theorem wp_lcI2 {α : Type} {nx : Src} {g g1 : DenG} {t t1 : DenB} {it1 : DenI} {d : Den} {ρ0 : Env'} {vs1 : List Nat} {f : Nat} (enc : α → MV) (xs : List α) (mk1 : α → List MV) (hf : xs.length < f) (src : ∀ i x S', xs[i]? = some x → Gr S S' → nx i S' = .yield (enc x)) (stop : ∀ S', Gr S S' → nx xs.length S' = .stop)
    (turn : ∀ x ∈ xs, ∀ (acc : List MV) S', belows 0 acc = true → Gr S S' → S'[S.length]? = some (.lst acc) → (∃ k, acc = ((xs.take k).map mk1).flatten) → wp (g (enc x) ρ0 S') NE fun ρ1 S1 => wp (t ρ1 S1) NE fun b S2 => b = true ∧ wp (it1 ρ1 S2) NE fun nx1 S3 =>
      ∃ S4, lcM nx1 g1 t1 d (wipeM ρ1 vs1) S.length f 0 S3 = some S4 ∧ Gr S S4 ∧ S4[S.length]? = some (.lst (acc ++ mk1 x)))
    (pure : ∀ x ∈ xs, belows 0 (mk1 x) = true)
    (done : ∀ S', Gr S S' → S'[S.length]? = some (.lst ((xs.map mk1).flatten)) → Q (.ref S.length) S') : wp (match lcM2 nx g t it1 g1 t1 d ρ0 vs1 S.length f f 0 (S ++ [.lst []]) with
    | some S2 => (.ok (.ref S.length) S2 : Res MV)
    | none => .stuck) E Q := by
  have key : ∀ (k i : Nat) (acc : List MV) (S' : Store) (ff : Nat), i + k = xs.length → k < ff → acc = ((xs.take i).map mk1).flatten → Gr S S' → S'[S.length]? = some (.lst acc) → ∃ S2, lcM2 nx g t it1 g1 t1 d ρ0 vs1 S.length f ff i S' = some S2 ∧ Gr S S2 ∧ S2[S.length]? = some (.lst ((xs.map mk1).flatten)) := by
    intro k
    induction k with
    | zero =>
      intro i acc S' ff hk hff ha hg he
      obtain ⟨ff, rfl⟩ : ∃ z, ff = z + 1 := ⟨ff - 1, by omega⟩
      have hi : i = xs.length := by omega
      subst hi
      unfold lcM2
      rw [stop S' hg]
      rw [List.take_length] at ha
      exact ⟨S', rfl, hg, by rw [← ha]; exact he⟩
    | succ k ih =>
      intro i acc S' ff hk hff ha hg he
      obtain ⟨ff, rfl⟩ : ∃ z, ff = z + 1 := ⟨ff - 1, by omega⟩
      have hi : i < xs.length := by omega
      have hxi : xs[i]? = some xs[i] := List.getElem?_eq_getElem hi
      have hb : belows 0 acc = true := by
        rw [ha]
        refine (blws_all 0 _).mpr fun w hw => ?_
        obtain ⟨l, hl, hw⟩ := List.mem_flatten.mp hw
        obtain ⟨x, hx, rfl⟩ := List.mem_map.mp hl
        exact (blws_all 0 _).mp (pure x (List.mem_of_mem_take hx)) w hw
      obtain ⟨ρ1, S1, e1, h1⟩ := (turn xs[i] (List.getElem_mem hi) acc S' hb hg he ⟨i, ha⟩).ex
      obtain ⟨b, S2, e2, rfl, h2⟩ := h1.ex
      obtain ⟨nx1, S3, e3, S4, e4, h4, h5⟩ := h2.ex
      unfold lcM2
      simp only [src i _ S' hxi hg, e1, e2, e3, e4]
      refine ih (i + 1) (acc ++ mk1 xs[i]) S4 ff (by omega) (by omega) ?_ h4 h5
      rw [List.take_add_one, hxi, ha]
      show _ = ((xs.take i ++ [xs[i]]).map mk1).flatten
      rw [List.map_append, List.flatten_append]
      congr 1
      exact (List.append_nil _).symm
  obtain ⟨S2, e, h1, h2⟩ := key xs.length 0 [] (S ++ [.lst []]) f (by omega) hf (by simp) (Gr.refl.new rfl) at_new
  rw [e]
  exact done S2 h1 h2
end
end MI

set_option Elab.async false
set_option linter.all false
set_option maxRecDepth 100000
set_option maxHeartbeats 4000000
/-! a tuple once, a tuple no time. -/
namespace MI
open PySem PySem.Spec PyProof.Rows L2
theorem tuple_mul1 (l : Addr) (items : Array Value) (n : Nat) (dd : Option Addr) (sl : Array (Option Value)) (u : Tok) :
    Meets (Builtin.«tuple.__mul__» ⟨[.ref l, .int 1 u], []⟩) (fun _ R s => s.heap.get? l = some { cls := .type "tuple", dict := dd, data := .seq items n, slots := sl } ∧ R (.ok (.ret (Value.ref l))) s) :=
  .of_wp fun prog w A R s h => by
    obtain ⟨hp, g, d, tk, os⟩ := s
    obtain ⟨hl, h⟩ := h
    have f1 := AutoSeq1.idx_int
    wp_walk using wpAny_loadPart' hl
    exact ⟨_, rfl, h⟩
theorem tuple_mul0 (l : Addr) (items : Array Value) (n : Nat) (dd : Option Addr) (sl : Array (Option Value)) (u : Tok) (he : items.isEmpty = false) :
    Meets (Builtin.«tuple.__mul__» ⟨[.ref l, .int 0 u], []⟩) (fun _ R s => s.heap.get? l = some { cls := .type "tuple", dict := dd, data := .seq items n, slots := sl } ∧ R (.ok (.ret (Value.ref s.heap.objs.size))) { s with heap := s.heap.push { cls := Value.type "tuple", data := Data.seq #[] }, toks := s.toks }) :=
  .of_wp fun prog w A R s h => by
    obtain ⟨hp, g, d, tk, os⟩ := s
    obtain ⟨hl, h⟩ := h
    have f1 := AutoSeq1.idx_int
    wp_walk using wpAny_loadPart' hl
    exact ⟨_, rfl, h⟩
def rRepT1 (K : PySem.W.Frag) : R2 := fun x y H Q => ∃ l xs, x = .ref l ∧ y = .int 1 ∧ SqT K H l xs ∧ Q (.ref l) H
def rRepT0 (K : PySem.W.Frag) : R2 := fun x y H Q => ∃ l xs, x = .ref l ∧ y = .int 0 ∧ SqT K H l xs ∧ xs ≠ [] ∧ ∀ p, H p = none → Q (.ref p) (upd H p (.tup []))
section
variable {X : Cx} {G : Gx} {W : WX} {a b : Expr} {pos : Pos} {da db : Den}
theorem op_repT1 : OpR X (binaryOp .Mult) (rRepT1 X.K) := by
  intro pins s σ H x y v u Q I rx ry h
  obtain ⟨l, xs, rfl, rfl, hT, q⟩ := h
  cases rx
  obtain ⟨t, rfl⟩ := ry
  obtain ⟨its, r, ⟨⟨cls, dd, data, sl⟩, ho, hc, n, hd⟩, hs⟩ := I.tuple hT
  simp only at hc hd
  subst hc hd
  exact wpAny_binaryOp_repeat_ref (T := "tuple") (U := "int") (by decide) ⟨_, ho, rfl⟩ (fun s' => typeIs_int s' 1 t) noFill_tuple_mul F.fills_int_mul F.slot_int_rmul repeat_tuple F.slot_int_index.lookup
    (call_meets F.slot_int_rmul (typeIs_int s 1 t) F.entry_int_rmul (F.args_int_rmul_2 _ _) (int_rmul_tuple 1 t l its.toArray n dd sl)
      ⟨ho, rfl, ⟨_, ho, rfl⟩, call_meets F.slot_tuple_mul ⟨_, ho, rfl⟩ F.entry_tuple_mul (F.args_tuple_mul_2 _ _) (tuple_mul1 l its.toArray n dd sl t) ⟨ho, .ref l, H, I, rfl, q⟩⟩)
theorem op_repT0 : OpR X (binaryOp .Mult) (rRepT0 X.K) := by
  intro pins s σ H x y v u Q I rx ry h
  obtain ⟨l, xs, rfl, rfl, hT, hne, q⟩ := h
  cases rx
  obtain ⟨t, rfl⟩ := ry
  obtain ⟨its, r, ⟨⟨cls, dd, data, sl⟩, ho, hc, n, hd⟩, hs⟩ := I.tuple hT
  simp only at hc hd
  subst hc hd
  have hle : its.length = xs.length := r.length.symm
  have hi : its.toArray.isEmpty = false := by
    cases its with
    | nil => exact absurd (List.eq_nil_of_length_eq_zero hle.symm) hne
    | cons a b => rfl
  exact wpAny_binaryOp_repeat_ref (T := "tuple") (U := "int") (by decide) ⟨_, ho, rfl⟩ (fun s' => typeIs_int s' 0 t) noFill_tuple_mul F.fills_int_mul F.slot_int_rmul repeat_tuple F.slot_int_index.lookup
    (call_meets F.slot_int_rmul (typeIs_int s 0 t) F.entry_int_rmul (F.args_int_rmul_2 _ _) (int_rmul_tuple 0 t l its.toArray n dd sl)
      ⟨ho, rfl, ⟨_, ho, rfl⟩, call_meets F.slot_tuple_mul ⟨_, ho, rfl⟩ F.entry_tuple_mul (F.args_tuple_mul_2 _ _) (tuple_mul0 l its.toArray n dd sl t hi) ⟨ho, .ref s.heap.objs.size, _, I.laid (t' := s.toks) (o := .tup []) (fun b ob q => Heap.get?_push_of_some _ q) (Nat.le_refl _) ⟨by rw [sizeLine_eq]; decide, _, .nil, IsTup.new _ _⟩, rfl, q _ (I.hok.fresh (Nat.le_refl _))⟩⟩)
theorem w_mul {G : Gx} : OpW G fMul (fun x y H Q => (rI CMul (fun i j => .int (i * j)) x y H Q) ∨ (rRepT G.K x y H Q ∨ rRep x y H Q)) := by
  intro ι H S E Q w1 w2 v1 v2 s r1 r2 h
  unfold fMul at h
  split at h
  · cases r1
    cases r2
    split at h
    · rename_i i j hz
      refine .inl ⟨_, _, rfl, rfl, ?_, h ι H (.refl s) _ (.int _)⟩
      simp only [Bool.or_eq_true, Bool.and_eq_true, decide_eq_true_eq] at hz
      exact hz
    · exact h.elim
  · cases r1 with
    | tup t q =>
      cases r2
      split at h
      · rename_i l k hz
        simp only [Bool.and_eq_true, decide_eq_true_eq] at hz
        obtain ⟨z1, z2, z3, z4⟩ := hz
        refine .inr (.inl ⟨_, _, _, rfl, rfl, t, fun e => z1 ?_, z2, z3, by rw [← q.length]; exact z4, new_tup s (rws_rep q _) h⟩)
        subst e
        cases q
        rfl
      · exact h.elim
  · cases r1 with
    | ref i =>
      cases r2
      split at h
      · rename_i l hS
        obtain ⟨vs, g, q⟩ := s.obj _ _ _ hS i
        split at h
        · rename_i k _ _ hz
          simp only [Bool.and_eq_true, decide_eq_true_eq] at hz
          obtain ⟨z1, z2, z3⟩ := hz
          refine .inr (.inr ⟨_, _, vs, rfl, rfl, g, by omega, by omega, ?_, new_lst s (rws_rep q _) h⟩)
          rw [← q.length]
          have hk : k.toNat ≤ 100 := by omega
          exact Nat.le_trans (Nat.mul_le_mul z3 hk) (by rw [sizeLine_eq]; decide)
        · exact h.elim
      · exact h.elim
  · exact h.elim
def fMulX (w1 w2 : MV) (S : Store) : Res MV := match w1, w2 with
  | .tup x, .int k => if k = 1 then .ok (.tup x) S else if k = 0 then (if x ≠ [] then .ok (.tup []) S else .stuck) else fMul (.tup x) (.int k) S
  | w1, w2 => fMul w1 w2 S
theorem de_mulX (hK : X.K = G.K) (ha : DE X G W a da) (hb : DE X G W b db) : DE X G W (.BinOp a .Mult b pos) (dBin fMulX da db) := by
  refine de_op (OpR.or (OpR.or op_repT1 op_repT0) (OpR.or op_mul (OpR.or op_repT op_rep))) ?_ ha hb
  rw [hK]
  intro ι H S E Q w1 w2 v1 v2 s r1 r2 h
  have old : fin G ι H E (PV G Q) (fMul w1 w2 S) → _ := fun h => w_mul ι H S E Q w1 w2 v1 v2 s r1 r2 h
  unfold fMulX at h
  split at h
  · cases r1 with
    | tup t q =>
      cases r2
      split at h
      · rename_i hk
        subst hk
        exact .inl (.inl ⟨_, _, rfl, rfl, t, h ι H (.refl s) _ (.tup t q)⟩)
      · split at h
        · rename_i hk
          subst hk
          split at h
          · rename_i hx
            refine .inl (.inr ⟨_, _, rfl, rfl, t, fun e => hx ?_, new_tup s .nil h⟩)
            subst e
            cases q
            rfl
          · exact h.elim
        · exact .inr (old h)
  · exact .inr (old h)
end
end MI

set_option Elab.async false
set_option linter.all false
set_option maxRecDepth 100000
set_option maxHeartbeats 1000000
/-! reversed(range(n)), dict(list of pairs with text keys). -/
namespace MI
open PySem PySem.Spec PyProof.Rows L2
section
variable {X : Cx} {G : Gx} {W : WX} {a b : Expr} {pos : Pos} {da db : Den} {dr : DenL} {es : List Expr}
def srcRev (j : Int) : Src := fun i _ => if i < j.toNat then .yield (.int ((j.toNat : Int) - 1 - i)) else .stop
def revOf (w : MV) (S : Store) : Res Src := match w with
  | .int j => if decide (-100000 ≤ j) && decide (j ≤ 100000) then .ok (srcRev j) S else .stuck
  | _ => .stuck
def iRev (d : Den) : DenI := fun ρ S => (d ρ S).bind revOf
theorem it_rev {ι : List Addr} {H : Hp} (j : Int) : ItOk G ι H (Itc (0 + (((j - 0).toNat : Nat) : Int) - 1) (-1) (j - 0).toNat) (srcRev j) := fun i ι1 H1 S1 p => by
  unfold srcRev
  rw [Int.sub_zero]
  by_cases hl : i < j.toNat
  · rw [if_pos hl]
    refine ⟨hl, fun x H' y => ?_⟩
    obtain ⟨rfl, rfl⟩ := y
    refine ⟨.refl p.sim, ?_⟩
    rw [show (0 : Int) + (j.toNat : Int) - 1 + (i : Int) * -1 = (j.toNat : Int) - 1 - i from by omega]
    exact .int _
  · rw [if_neg hl]
    exact Nat.le_of_not_lt hl
theorem di_rev {tg : Expr} {p p2 pos2 : Pos} (hg : Gl X "reversed") (hm : X.mg "reversed" = none) (hg2 : Gl X "range") (hm2 : X.mg "range" = none) (ha : DE X G W a da) (na : starEach [a] X.env = (false, eval a X.env) :: starEach [] X.env := by rfl)
    (hs : starEach [.Call (.Name "range" p2) [a] [] pos2] X.env = (false, eval (.Call (.Name "range" p2) [a] [] pos2) X.env) :: starEach [] X.env := by rfl) : DI X G W tg (.Call (.Name "reversed" p) [.Call (.Name "range" p2) [a] [] pos2] [] pos) (iRev da) := ⟨PI.imp (pi_revR hg hm (prg_1 hg2 hm2 ha.run na) hs) fun σ H R h => by
  obtain ⟨ι, S, ρ, s, re, h⟩ := h
  refine ⟨ι, S, ρ, s, re, (fin.bind h).mono fun w ι1 H1 S1 p _ h1 v r => ?_⟩
  obtain ⟨S1, s1, _, _, _, h1⟩ := h1
  unfold revOf at h1
  split at h1
  · split at h1
    · rename_i j _ _ hz
      simp only [Bool.and_eq_true, decide_eq_true_eq] at hz
      cases r
      exact ⟨j, rfl, by omega, by omega, by omega, by omega, h1 ι1 H1 (.refl s1) _ (it_rev j)⟩
    · exact h1.elim
  · exact h1.elim⟩
def pairsM : List MV → Option (List (Key × MV))
  | [] => some []
  | .tup [.str k, v] :: r => (pairsM r).map ((.inr k, v) :: ·)
  | _ => none
def mergeM (kvs more : List (Key × MV)) : List (Key × MV) := more.foldl (fun acc kv => putM acc kv.1 kv.2) kvs
def fDicOf (ws : List MV) (S : Store) : Res MV := match ws with
  | [.ref n] => match S[n]? with
    | some (.lst l) => match pairsM l with
      | some kvs => .ok (.ref S.length) (S ++ [.dic (mergeM [] kvs)])
      | none => .stuck
    | _ => .stuck
  | _ => .stuck
theorem pairs_ok {ι : List Addr} {H : Hp} : ∀ {l : List MV} {vs : List V} {kvs : List (Key × MV)}, RWs G ι H l vs → pairsM l = some kvs → ∃ (ps : List Addr) (kv : List (Key × V)), vs = ps.map V.ref ∧ Paired (fun p kv => SqT G.K H p [kV kv.1, kv.2]) ps kv ∧ kv.map (·.1) = kvs.map (·.1) ∧ RWs G ι H (kvs.map (·.2)) (kv.map (·.2))
  | [], _, kvs, r, e => by
    cases r
    cases e
    exact ⟨[], [], rfl, .nil, rfl, .nil⟩
  | w :: l, _, kvs, r, e => by
    cases r with
    | cons r1 r2 =>
      unfold pairsM at e
      split at e
      · rename_i hh; cases hh
      · rename_i k v r' hh
        cases hh
        cases e2 : pairsM l with
        | none => rw [e2] at e; cases e
        | some m =>
          rw [e2] at e
          cases e
          obtain ⟨ps, kv, rfl, hp, hk, hr⟩ := pairs_ok r2 e2
          cases r1 with
          | tup t q =>
            obtain ⟨a1, a2, rfl, q1, q2⟩ := rws2 q
            cases q1
            exact ⟨_ :: ps, (.inr k, a2) :: kv, rfl, .cons t hp, by simp [hk], .cons q2 hr⟩
      · cases e
theorem merge_ok {ι : List Addr} {H : Hp} : ∀ {more : List (Key × MV)} {mv : List (Key × V)} {kvs : List (Key × MV)} {kv : List (Key × V)}, mv.map (·.1) = more.map (·.1) → RWs G ι H (more.map (·.2)) (mv.map (·.2)) → kv.map (·.1) = kvs.map (·.1) → RWs G ι H (kvs.map (·.2)) (kv.map (·.2)) →
    (mergeK kv mv).map (·.1) = (mergeM kvs more).map (·.1) ∧ RWs G ι H ((mergeM kvs more).map (·.2)) ((mergeK kv mv).map (·.2))
  | [], mv, kvs, kv, e, _, e2, r2 => by
    cases mv with
    | nil => exact ⟨e2, r2⟩
    | cons _ _ => simp at e
  | p :: more, mv, kvs, kv, e, r, e2, r2 => by
    cases mv with
    | nil => simp at e
    | cons q mv =>
      simp only [List.map_cons, List.cons.injEq] at e
      simp only [List.map_cons] at r
      cases r with
      | cons r1 r3 =>
        obtain ⟨h1, h2⟩ := kvs_put (k := p.1) r1 e2 r2
        have h3 := merge_ok e.2 r3 (kvs := putM kvs p.1 p.2) (kv := putK kv p.1 q.2) h1 h2
        show (mergeK (putK kv q.1 q.2) mv).map (·.1) = (mergeM (putM kvs p.1 p.2) more).map (·.1) ∧ RWs G ι H ((mergeM (putM kvs p.1 p.2) more).map (·.2)) ((mergeK (putK kv q.1 q.2) mv).map (·.2))
        rw [e.1]
        exact h3
theorem w_dicOf : ClW G fDicOf (fun xs H Q => ∃ (a : Addr) (ps : List Addr) (kvs : List (Key × V)), xs = [.ref a] ∧ SqL G.K H a (ps.map V.ref) ∧ Paired (fun p kv => SqT G.K H p [kV kv.1, kv.2]) ps kvs ∧ ∀ p, H p = none → Q (.ref p) (upd H p (.dK (mergeK [] kvs)))) := fun ι H S E Q ws vs s r h => by
  unfold fDicOf at h
  split at h
  · obtain ⟨v, rfl, r1⟩ := rws1 r
    split at h
    · rename_i n l hS
      split at h
      · rename_i kvs hk
        cases r1 with
        | ref i =>
          obtain ⟨us, g, q⟩ := s.obj _ _ _ hS i
          obtain ⟨ps, kv, rfl, hp, e1, r2⟩ := pairs_ok q hk
          obtain ⟨m1, m2⟩ := merge_ok (kvs := []) (kv := []) e1 r2 rfl .nil
          refine ⟨_, ps, kv, rfl, .of g, hp, fun p hpn => ?_⟩
          have q0 := s.lay hpn (.dK (mergeK [] kv))
          have ext : ∀ (n : Nat) (a : Addr), ι[n]? = some a → (ι ++ [p])[n]? = some a := fun n a e => by
            rw [List.getElem?_append_left (List.getElem?_eq_some_iff.mp e).1]; exact e
          have qq := s.new hpn (ho := .dK (mergeK [] kv)) (mo := .dic (mergeM [] kvs)) ⟨_, upd_same, m1, m2.mono ext q0.tup⟩
          exact h _ _ qq (.ref p) (.ref (by rw [← s.len]; simp))
      · exact h.elim
    · exact h.elim
  · exact h.elim
theorem de_dicOf {p : Pos} (hc : X.calm = true) (hK : X.K = G.K) (hg : Gl X "dict") (hm : X.mg "dict" = none) (ha : DA X G W (a :: es) dr)
    (he : starEach (a :: es) X.env = (false, eval a X.env) :: starEach es X.env := by rfl) (hpl : (backTo pos (starEach es X.env)).any (·.1) = false := by rfl) : DE X G W (.Call (.Name "dict" p) (a :: es) [] pos) (dCall fDicOf dr) :=
  de_callTy (call_dictP hc) (by rw [hK]; exact w_dicOf) hg hm (by decide +kernel) ha (by decide) (by decide) he hpl
end
section
variable {S : Store} {E : EX} {QI : Src → Store → Prop} {ρ : Env'}
theorem wp_irev {d : Den} : wp (iRev d ρ S) E QI = wp (d ρ S) E fun w S1 => wp (revOf w S1) E QI := wp_bind
theorem wp_rev {j : Int} (h1 : 0 ≤ j) (h2 : j ≤ 100000) : wp (revOf (.int j) S) E QI = QI (srcRev j) S := by
  unfold revOf
  dsimp only
  rw [decide_eq_true (by omega), decide_eq_true h2]
  rfl
theorem wp_forV {QF : Fl → Store → Prop} {g : DenG} {body : DenS} {f : Nat} (n : Nat) (Inv : Nat → Env' → Store → Prop) (hf : n < f) (h0 : Inv 0 ρ S)
    (turn : ∀ i k ρ S, i + k + 1 = n → Inv i ρ S → wp (g (.int (k : Nat)) ρ S) NE fun ρ1 S1 => wp (body ρ1 S1) NE fun fl S2 => keep (Inv (i + 1)) QF fl S2)
    (done : ∀ ρ S, Inv n ρ S → QF (.next ρ) S) : wp (forM (srcRev (n : Int)) g body f 0 ρ S) E QF :=
  wp_forG (fun pre _ => .int ((n - 1 - pre.length : Nat) : Int)) (List.range n) (fun pre => Inv pre.length)
    (fun pre x post ρ S e _ => by
      have := congrArg List.length e
      simp at this
      unfold srcRev
      rw [if_pos (by simp; omega)]
      simp
      omega)
    (fun ρ S _ => by
      unfold srcRev
      rw [if_neg (by simp)])
    (fun pre x post ρ S e h => by
      have h2 := congrArg List.length e
      simp at h2
      rw [show (pre ++ [x]).length = pre.length + 1 from by simp]
      exact turn pre.length (n - 1 - pre.length) ρ S (by omega) h)
    (fun ρ S h => done ρ S (by simpa using h)) (List.range n) [] f ρ S rfl (by simpa using hf) h0
end
end MI

set_option Elab.async false
set_option linter.all false
set_option maxRecDepth 100000
/-! x += e for whole numbers -/
namespace MI
open PySem PySem.Spec PyProof.Rows L2
abbrev fPlus := fInt (fun _ _ => true) (fun i j => .int (i + j))
section
variable {X : Cx} {G : Gx} {W : WX} {a : Expr} {da : Den} {pos : Pos}
theorem bindS_bind {α β : Type} {r : Res α} {f : α → Store → Res β} {ρ : Env'} {k : β → Store → Res Fl} : (r.bind f).bindS ρ k = r.bindS ρ fun w S => (f w S).bindS ρ k := by
  cases r <;> rfl
theorem ds_aug (i : Nat) {x : Str} {pos' : Pos} (hN : X.N.Nodup) (ha : DE X G W a da) (hi : X.N[i]? = some x := by rfl) (hx : Loc X.env.scope x := by first | exact Or.inl rfl | exact Or.inr rfl) (hf : X.fn x = true ∨ X.env.scope.names.lookup x = some .local := by first | exact .inl rfl | exact .inr rfl) : DS X G W (.AugAssign (.Name x pos') .Add a pos) (sAsg (dBin fPlus (dVar i) da) (gN i)) := ⟨PS.imp (ps_aug (i := i) hN hi hx ha.run ip_add hf) fun D σ H h => by
  obtain ⟨ι, S, ρ, s, re, h⟩ := h
  unfold sAsg dBin at h
  unfold dVar at h
  split at h
  · rename_i w e1
    obtain ⟨v, e2, r⟩ := re.get i w e1
    refine ⟨v, e2, ι, S, ρ, s, re, ?_⟩
    have h : fin G ι H NoE (want G W D) (((da ρ S).bind fun y S2 => fPlus w y S2).bindS ρ fun w S1 => match gN i w ρ S1 with
      | .ok ρ1 S2 => .ok (.next ρ1) S2
      | _ => .stuck) := h
    rw [bindS_bind] at h
    refine (fin.bindS re h).mono fun y ι1 H1 S1 p _ h1 vy ry => ?_
    obtain ⟨S1, s1, re1, m1, h1⟩ := h1
    have r1 := m1 _ _ r
    cases w <;> try exact h1.elim
    cases y <;> try exact h1.elim
    cases r1
    cases ry
    exact ⟨_, _, rfl, rfl, h1 ι1 H1 (.refl s1) _ (re1.set (.int _) i)⟩
  · exact h.elim⟩
end
end MI

set_option Elab.async false
set_option linter.all false
set_option maxRecDepth 100000
/-! texts in order: <, sorted; the place of a text in a list -/
namespace MI
open PySem PySem.Spec PyProof.Rows L2
section
variable {X : Cx} {G : Gx} {W : WX} {a : Expr} {es : List Expr} {da : Den} {dr : DenL} {pos : Pos}
def fLtS (w1 w2 : MV) (S : Store) : Res MV := match w1, w2 with
  | .str x, .str y => .ok (.bl (decide (x.cps.toList < y.cps.toList))) S
  | _, _ => .stuck
theorem w_ltS : OpW G fLtS (fun x y H Q => ∃ i j, x = .str i ∧ y = .str j ∧ Q (.bl (decide (i.cps.toList < j.cps.toList))) H) := fun ι H S E Q w1 w2 v1 v2 s r1 r2 h => by
  unfold fLtS at h
  split at h
  · cases r1; cases r2
    exact ⟨_, _, rfl, rfl, h ι H (.refl s) _ (.bl _)⟩
  · exact h.elim
theorem cmp_ltS : CmpOk X G .Lt fLtS := ⟨_, op_lt_str, w_ltS⟩
/-- xs.index(y), y a text -/
def fIndex (o : MV) (ws : List MV) (S : Store) : Res MV := match o, ws with
  | .ref n, [.str x] => match S[n]? with
    | some (.lst l) => if l.all flatM = true then match l.findIdx? (fun y => eqF y (.str x)) with
      | some j => .ok (.int (j : Nat)) S
      | none => .stuck
      else .stuck
    | _ => .stuck
  | _, _ => .stuck
theorem rws_at {ι : List Addr} {H : Hp} : ∀ {ws : List MV} {vs : List V}, RWs G ι H ws vs → ∀ {j : Nat} {w : MV}, ws[j]? = some w → ∃ v, vs[j]? = some v ∧ RW G ι H w v
  | [], _, _, j, w, h => by simp at h
  | y :: ws, _, q, j, w, h => by
    cases q with
    | cons q1 q2 =>
      cases j with
      | zero =>
        simp at h
        subst h
        exact ⟨_, rfl, q1⟩
      | succ j =>
        simp at h
        obtain ⟨v, e, r⟩ := rws_at q2 h
        exact ⟨v, by simpa using e, r⟩
theorem rws_back {ι : List Addr} {H : Hp} : ∀ {ws : List MV} {vs : List V}, RWs G ι H ws vs → ∀ {j : Nat} {v : V}, vs[j]? = some v → ∃ w, ws[j]? = some w ∧ RW G ι H w v
  | [], _, q, j, v, h => by cases q; simp at h
  | y :: ws, _, q, j, v, h => by
    cases q with
    | cons q1 q2 =>
      cases j with
      | zero =>
        simp at h
        subst h
        exact ⟨_, rfl, q1⟩
      | succ j =>
        simp at h
        obtain ⟨w, e, r⟩ := rws_back q2 h
        exact ⟨w, by simpa using e, r⟩
theorem w_index : MtW G fIndex (rIndex G.K) := fun ι H S E Q w v ws vs s r1 r2 h => by
  unfold fIndex at h
  split at h
  · rename_i n x
    cases r1 with
    | ref i =>
      split at h
      · rename_i l hS
        obtain ⟨xs, g, q⟩ := s.obj _ _ _ hS i
        split at h
        · rename_i hf
          split at h
          · rename_i j hj
            obtain ⟨y, rfl, r3⟩ := rws1 r2
            obtain ⟨hj1, hj2, hj3⟩ := List.findIdx?_eq_some_iff_getElem.mp hj
            obtain ⟨z, hz, rz⟩ := rws_at q (List.getElem?_eq_getElem hj1)
            refine ⟨_, xs, y, j, z, rfl, rfl, .of g, flat_ok r3 rfl, flats_ok q hf, hz, by rw [← eqF_ok rz r3]; exact hj2, fun m z' hm hz' => ?_, h ι H (.refl s) _ (.int _)⟩
            obtain ⟨w', hw', rw'⟩ := rws_back q hz'
            have hlt : m < l.length := (List.getElem?_eq_some_iff.mp hw').1
            have he := hj3 m hm
            rw [List.getElem?_eq_getElem hlt] at hw'
            cases hw'
            rw [← eqF_ok rw' r3]
            simpa using he
          · exact h.elim
        · exact h.elim
      · exact h.elim
  · exact h.elim
theorem de_index {b : Expr} {apos : Pos} (hK : X.K = G.K) (ho : DE X G W a da) (ha : DA X G W (b :: es) dr) (hbase : attributeBase a "index" X.env (eval a X.env) = eval a X.env := by rfl)
    (hfew : ((backTo pos (starEach (b :: es) X.env)).all (fun x => !x.1) && (backToKw pos (keywordEach [] X.env)).all (fun x => x.1.isSome)
      && decide ((b :: es).length + ([] : List Keyword).length + (if ([] : List Keyword).isEmpty then 0 else 1) < 30)) = true := by rfl)
    (hline : (apos.endLine == pos.line) = true := by rfl) (hs : starEach (b :: es) X.env = (false, eval b X.env) :: starEach es X.env := by rfl) (hplain : (backTo pos (starEach es X.env)).any (·.1) = false := by rfl) :
    DE X G W (.Call (.Attribute a "index" apos) (b :: es) [] pos) (dMet isLst fIndex da dr) :=
  ⟨PE.imp (pe_bm PySem.F.plainAttrs_list PySem.F.slot_list_index PySem.F.type_list_index mt_index ho.run ha.run hbase hfew hline hs hplain) fun σ H Q h => by rw [hK]; exact met_imp w_index h⟩
/-! sorted(xs), xs a list of texts -/
def leS (x y : Str) : Bool := !decide (y.cps.toList < x.cps.toList)
def sortS (xs : List Str) : List Str := xs.mergeSort leS
theorem leS_iff {x y : Str} : leS x y = true ↔ x.cps.toList ≤ y.cps.toList := by
  unfold leS
  simp
theorem leS_trans (x y z : Str) (h1 : leS x y = true) (h2 : leS y z = true) : leS x z = true := by
  rw [leS_iff] at *
  exact List.le_trans h1 h2
theorem leS_total (x y : Str) : (leS x y || leS y x) = true := by
  rw [Bool.or_eq_true, leS_iff, leS_iff]
  exact List.le_total _ _
theorem leS_anti {x y : Str} (h1 : leS x y = true) (h2 : leS y x = true) : x = y := by
  rw [leS_iff] at *
  have := List.le_antisymm h1 h2
  obtain ⟨a⟩ := x
  obtain ⟨b⟩ := y
  congr 1
  exact Array.toList_inj.mp this
theorem ltCps_eq : ∀ a b : List Nat, ltCps a b = decide (a < b)
  | [], [] => by simp [ltCps]
  | [], _ :: _ => by simp [ltCps]
  | _ :: _, [] => by simp [ltCps]
  | a :: l, b :: m => by
    have := ltCps_eq l m
    simp only [ltCps, List.cons_lt_cons_iff, this]
    by_cases h : a = b <;> simp [h]
theorem rising_iff : ∀ (x : Str) (r : List Str), risingS x r = true → (∀ y ∈ r, leS x y = true) ∧ r.Pairwise fun a b => leS a b = true
  | x, [], _ => ⟨by simp, .nil⟩
  | x, y :: r, h => by
    rw [risingS.eq_2, Bool.and_eq_true, ltCps_eq] at h
    have hxy : leS x y = true := h.1
    obtain ⟨h1, h2⟩ := rising_iff y r h.2
    refine ⟨fun z hz => ?_, .cons h1 h2⟩
    rcases List.mem_cons.mp hz with rfl | hz
    · exact hxy
    · exact leS_trans _ _ _ hxy (h1 z hz)
theorem sortS_eq {xs ys : List Str} (hp : ys.Perm xs) (hs : sortedS ys = true) : ys = sortS xs := by
  have h1 : ys.Pairwise fun a b => leS a b = true := by
    cases ys with
    | nil => exact .nil
    | cons y r =>
      obtain ⟨a, b⟩ := rising_iff y r hs
      exact .cons a b
  have h2 : (sortS xs).Pairwise fun a b => leS a b = true := List.pairwise_mergeSort leS_trans leS_total xs
  exact List.Perm.eq_of_pairwise (fun a b _ _ => leS_anti) h1 h2 (hp.trans (List.mergeSort_perm xs leS).symm)
theorem sortS_perm (xs : List Str) : (sortS xs).Perm xs := List.mergeSort_perm xs leS
theorem sortS_pair (xs : List Str) : (sortS xs).Pairwise fun a b => leS a b = true := List.pairwise_mergeSort leS_trans leS_total xs
def strsM : List MV → Option (List Str)
  | [] => some []
  | .str z :: r => (strsM r).map (z :: ·)
  | _ :: _ => none
theorem strsM_map : ∀ l : List Str, strsM (l.map .str) = some l
  | [] => rfl
  | z :: l => by
    rw [List.map_cons]
    unfold strsM
    rw [strsM_map l]
    rfl
theorem strsM_ok {ι : List Addr} {H : Hp} : ∀ {l : List MV} {vs : List V} {xs : List Str}, strsM l = some xs → RWs G ι H l vs → vs = xs.map V.str
  | [], _, _, e, r => by cases e; cases r; rfl
  | w :: l, _, _, e, r => by
    cases r with
    | cons r1 r2 =>
      cases r1 <;> unfold strsM at e <;> try cases e
      cases h : strsM l with
      | none => rw [h] at e; cases e
      | some ys =>
        rw [h] at e
        cases e
        rw [strsM_ok h r2]
        rfl
theorem rws_strs {ι : List Addr} {H : Hp} : ∀ xs : List Str, RWs G ι H (xs.map .str) (xs.map V.str)
  | [] => .nil
  | x :: xs => .cons (.str x) (rws_strs xs)
def fSortS : FnM := fun ws S => match ws with
  | [.ref n] => match S[n]? with
    | some (.lst l) => match strsM l with
      | some xs => if xs.length < 64 then .ok (.ref S.length) (S ++ [.lst ((sortS xs).map .str)]) else .stuck
      | none => .stuck
    | _ => .stuck
  | _ => .stuck
theorem w_sortS : ClW G fSortS (rSortedS G.K) := fun ι H S E Q ws vs s r h => by
  unfold fSortS at h
  split at h
  · obtain ⟨v, rfl, r1⟩ := rws1 r
    cases r1 with
    | ref i =>
      split at h
      · rename_i l hS
        obtain ⟨us, g, q⟩ := s.obj _ _ _ hS i
        split at h
        · rename_i xs e
          split at h
          · rename_i hl
            have z := strsM_ok e q
            subst z
            refine ⟨_, xs, rfl, .of g, hl, fun ys p hp hs hn => ?_⟩
            rw [sortS_eq hp hs]
            exact new_lst s (rws_strs _) h p hn
          · exact h.elim
        · exact h.elim
      · exact h.elim
  · exact h.elim
theorem de_sortS {p : Pos} (hK : X.K = G.K) (hg : Gl X "sorted") (hm : X.mg "sorted" = none) (ha : DA X G W (a :: es) dr)
    (he : starEach (a :: es) X.env = (false, eval a X.env) :: starEach es X.env := by rfl) (hpl : (backTo pos (starEach es X.env)).any (·.1) = false := by rfl) : DE X G W (.Call (.Name "sorted" p) (a :: es) [] pos) (dCall fSortS dr) :=
  de_callB cr_sortedS (by rw [hK]; exact w_sortS) hg hm (by decide +kernel) ha (by decide) (by decide) he hpl
theorem wp_sortS {E : EX} {S : Store} {Q : MV → Store → Prop} {n : Nat} {xs : List Str} (e : S[n]? = some (.lst (xs.map .str))) (hl : xs.length < 64) : wp (fSortS [.ref n] S) E Q = Q (.ref S.length) (S ++ [.lst ((sortS xs).map .str)]) := by
  unfold fSortS
  simp only [e, strsM_map]
  rw [if_pos hl]
  rfl
theorem wp_ltS {E : EX} {S : Store} {Q : MV → Store → Prop} {x y : Str} : wp (fLtS (.str x) (.str y) S) E Q = Q (.bl (decide (x.cps.toList < y.cps.toList))) S := rfl
end
end MI

set_option Elab.async false
set_option linter.all false
set_option maxRecDepth 100000
/-! o.m(e, ..), m a method of an own class that raises nothing -/
namespace MI
open PySem PySem.Spec PyProof.Rows L2
def dMeth (cn m : Str) (g : FnM) (o : Den) (r : DenL) : Den := fun ρ S => (o ρ S).bind fun w S1 => match insAt cn w S1 with
  | some (_, fs) => if fs.lookup m = none then (r ρ S1).bind fun ws S2 => noErr (g (w :: ws) S2) else .stuck
  | none => .stuck
theorem lookup_names {α β : Type} {m : Str} : ∀ {l : List (Str × α)} {k : List (Str × β)}, l.map (·.1) = k.map (·.1) → k.lookup m = none → l.lookup m = none
  | [], _, _, _ => rfl
  | (a, x) :: l, [], e, _ => by cases e
  | (a, x) :: l, (b, y) :: k, e, h => by
    rw [List.map_cons, List.map_cons] at e
    injection e with e1 e2
    have e1 : a = b := e1
    subst e1
    rw [List.lookup_cons] at h ⊢
    cases hb : (m == a) with
    | true => rw [hb] at h; cases h
    | false =>
      rw [hb] at h
      exact lookup_names e2 h
section
variable {X : Cx} {G : Gx} {W : WX} {o e : Expr} {es : List Expr} {pos apos : Pos} {dO : Den} {dr : DenL}
theorem noErr_fin {ι : List Addr} {H : Hp} {Q : VK} {E E' : Value → Option Addr → Hp → Prop} {r : Res MV} (h : fin G ι H E (PV G Q) (noErr r)) : fin G ι H E' (PV G Q) r := by
  unfold noErr at h
  split at h
  · exact h.elim
  · cases r with
    | ok u S2 => exact h
    | err c fs S2 => rename_i ne; exact absurd rfl (ne c fs S2)
    | stuck => exact h
theorem de_meth {m cn : Str} {C f : Addr} {fd : FuncData} {ps : List Str} {k : Nat} {g : FnM} (hK : X.K = G.K) (hC : G.ct cn = some C) (c : Cls G.K C) (hm : Meth G.K C m f) (F : FnOk X.prog X.w X.K X.mg X.base (L2.CX X.prog X.w) k f fd ps (spF G g)) (hr : Room k X.A) (hb : Binds X.K fd ps [])
    (hx : Passes (L2.CX X.prog X.w) X (fun _ _ _ => False)) (ho : DE X G W o dO) (ha : DA X G W (e :: es) dr) {pl : Sem Bool} (he : starEach (e :: es) X.env = (false, eval e X.env) :: starEach es X.env := by rfl) (hpl : (backTo pos (starEach es X.env)).any (·.1) = false := by rfl)
    (hev : eval ((o.Attribute m apos).Call (e :: es) [] pos) X.env = (do
      let ov ← eval o X.env
      standAt apos.atName
      let __x ← holding [ov] (getMethod ov m pl)
      match __x with
        | (f, first) => callWith pos f first (backTo pos (starEach (e :: es) X.env)) (backToKw pos (keywordEach [] X.env))) := by rfl) : DE X G W (.Call (.Attribute o m apos) (e :: es) [] pos) (dMeth cn m g dO dr) := ⟨PE.imp (pe_meth (C := C) ho.run (hK ▸ c) (hK ▸ hm) F hr hb .nil hx ha.run he hpl hev) fun σ H Q h => by
  obtain ⟨ι, S, ρ, s, re, h⟩ := h
  refine ⟨ι, S, ρ, s, re, (fin.bind h).mono fun w ι1 H1 S1 p _ h1 v r => ?_⟩
  obtain ⟨S1, s1, _, re1, _, h1⟩ := h1
  split at h1
  · rename_i k fs ei
    obtain ⟨a, dx, fv, rfl, i, hS, g', q1, q2⟩ := ins_ok hC s1 r ei
    split at h1
    · rename_i hl
      refine ⟨a, dx, fv, rfl, g', lookup_names q1 hl, ι1, S1, ρ, s1, re1 _ _ re, (fin.bind h1).mono fun ws ι2 H2 S2 p2 _ h2 vs r2 => ?_⟩
      obtain ⟨S2, s2, m2, _, _, h2⟩ := h2
      exact ⟨ι2, S2, w :: ws, s2, .cons (m2 _ _ r) (by simpa using r2), noErr_fin h2⟩
    · exact h1.elim
  · exact h1.elim⟩
/-- o.m(), m a method of an own class that raises nothing -/
theorem de_meth0 {m cn : Str} {C f : Addr} {fd : FuncData} {ps : List Str} {k : Nat} {g : FnM} (hK : X.K = G.K) (hC : G.ct cn = some C) (c : Cls G.K C) (hm : Meth G.K C m f) (F : FnOk X.prog X.w X.K X.mg X.base (L2.CX X.prog X.w) k f fd ps (spF G g)) (hr : Room k X.A) (hb : Binds X.K fd ps [])
    (hx : Passes (L2.CX X.prog X.w) X (fun _ _ _ => False)) (ho : DE X G W o dO) {pl : Sem Bool}
    (hev : eval ((o.Attribute m apos).Call [] [] pos) X.env = (do
      let ov ← eval o X.env
      standAt apos.atName
      let __x ← holding [ov] (getMethod ov m pl)
      match __x with
        | (f, first) => callWith pos f first (backTo pos (starEach [] X.env)) (backToKw pos (keywordEach [] X.env))) := by rfl) : DE X G W (.Call (.Attribute o m apos) [] [] pos) (dMeth cn m g dO aNil) := ⟨PE.imp (pe_meth0 (C := C) ho.run (hK ▸ c) (hK ▸ hm) F hr hb .nil hx hev) fun σ H Q h => by
  obtain ⟨ι, S, ρ, s, re, h⟩ := h
  refine ⟨ι, S, ρ, s, re, (fin.bind h).mono fun w ι1 H1 S1 p _ h1 v r => ?_⟩
  obtain ⟨S1, s1, _, re1, _, h1⟩ := h1
  split at h1
  · rename_i k fs ei
    obtain ⟨a, dx, fv, rfl, i, hS, g', q1, q2⟩ := ins_ok hC s1 r ei
    split at h1
    · rename_i hl
      exact ⟨a, dx, fv, rfl, g', lookup_names q1 hl, ι1, S1, [w], s1, .cons r .nil, noErr_fin h1⟩
    · exact h1.elim
  · exact h1.elim⟩
/-! xs.pop() -/
def fPop (o : MV) (S : Store) : Res MV := match o with
  | .ref n => match S[n]? with
    | some (.lst l) => match l[l.length - 1]? with
      | some w => .ok w (S.set n (.lst l.dropLast))
      | none => .stuck
    | _ => .stuck
  | _ => .stuck
def dPop (o : Den) : Den := fun ρ S => (o ρ S).bind fun w S1 => fPop w S1
theorem rws_dropLast {ι : List Addr} {H : Hp} : ∀ {l : List MV} {vs : List V}, RWs G ι H l vs → RWs G ι H l.dropLast vs.dropLast
  | [], _, r => by cases r; exact .nil
  | [w], _, r => by
    cases r with
    | cons r1 r2 => cases r2; exact .nil
  | w :: u :: l, _, r => by
    cases r with
    | cons r1 r2 =>
      have ih := rws_dropLast r2
      cases r2 with
      | cons r3 r4 => exact .cons r1 ih
theorem de_pop (hK : X.K = G.K) (ho : DE X G W o dO) (hbase : attributeBase o "pop" X.env (eval o X.env) = eval o X.env := by rfl) (hline : (apos.endLine == pos.line) = true := by rfl) : DE X G W (.Call (.Attribute o "pop" apos) [] [] pos) (dPop dO) :=
  ⟨PE.imp (pe_bm0 PySem.F.plainAttrs_list PySem.F.slot_list_pop PySem.F.type_list_pop mt_pop ho.run hbase hline) fun σ H Q h => by
  obtain ⟨ι, S, ρ, s, re, h⟩ := h
  refine ⟨ι, S, ρ, s, re, (fin.bind h).mono fun w ι1 H1 S1 p _ h1 v r => ?_⟩
  obtain ⟨S1, s1, _, re1, _, h1⟩ := h1
  unfold fPop at h1
  split at h1
  · cases r with
    | ref i =>
      split at h1
      · rename_i l hS
        obtain ⟨xs, g, q⟩ := s1.obj _ _ _ hS i
        split at h1
        · rename_i u hu
          obtain ⟨y, hy, ry⟩ := rws_at q hu
          rw [q.length] at hy
          have t := sqT_upd (K := G.K) (ho := .lst xs.dropLast) (noTup_of g (fun _ z => by cases z) (fun _ _ z => by cases z))
          have pw := s1.write i g (fun _ z => by cases z) (fun _ _ z => by cases z) (ho' := .lst xs.dropLast) (mo := .lst l.dropLast) ⟨_, upd_same, (rws_dropLast q).mono (fun _ _ e => e) t⟩
          refine ⟨?_, _, xs, y, rfl, rfl, g, hy, h1 _ _ pw y (pw.rw ry)⟩
          rw [hK]
          exact .inl ⟨rfl, xs, .of g⟩
        · exact h1.elim
      · exact h1.elim
  · exact h1.elim⟩
/-! o.f += e, whole numbers -/
def sFldAugM (cn f : Str) (o e : Den) : DenS := fun ρ S => (o ρ S).bindS ρ fun ow S1 => match insAt cn ow S1 with
  | some (_, fs) => match fs.lookup f with
    | some (.int i) => (e ρ S1).bindS ρ fun w S2 => match w with
      | .int j => match insAt cn ow S2 with
        | some (n', fs') => if fs'.length < 900 then .ok (.next ρ) (S2.set n' (.ins cn (putFM f (.int (i + j)) fs'))) else .stuck
        | none => .stuck
      | _ => .stuck
    | _ => .stuck
  | none => .stuck
theorem ds_fldaug {f cn : Str} {C : Addr} {value : Expr} {tpos : Pos} {dV : Den} (hK : X.K = G.K) (hC : G.ct cn = some C) (c : Cls G.K C) (n : NoAttr G.K C f) (ho : DE X G W o dO) (hv : DE X G W value dV) :
    DS X G W (.AugAssign (.Attribute o f tpos) .Add value pos) (sFldAugM cn f dO dV) := ⟨PS.imp (ps_fldaug ho.run hv.run in_add) fun D σ H h => by
  obtain ⟨ι, S, ρ, s, re, h⟩ := h
  refine ⟨ι, S, ρ, s, re, (fin.bindS re h).mono fun ow ι1 H1 S1 p _ h1 ov r => ?_⟩
  obtain ⟨S1, s1, re1, m1, h1⟩ := h1
  split at h1
  · rename_i k fs e
    obtain ⟨a, dx, fv, rfl, i, hS, g, q1, q2⟩ := ins_ok hC s1 r e
    split at h1
    · rename_i j ej
      obtain ⟨x, ex, rx⟩ := flds_get q1 q2 ej
      cases rx
      refine ⟨a, C, dx, fv, _, rfl, g, by rw [hK]; exact c, by rw [hK]; exact n, ex, ι1, S1, ρ, s1, re1, (fin.bindS re1 h1).mono fun w ι2 H2 S2 p2 _ h2 v r2 => ?_⟩
      obtain ⟨S2, s2, re2, m2, h2⟩ := h2
      split at h2
      · rename_i j2 hj2
        cases r2
        split at h2
        · rename_i k2 fs2 e2
          obtain ⟨a', dx', fv', ea, i2, hS2, g2, z1, z2⟩ := ins_ok hC s2 (m2 _ _ r) e2
          cases ea
          split at h2
          · rename_i hz
            have hl : fv'.length = fs2.length := by
              have := congrArg List.length z1
              simpa using this
            have t := sqT_upd (K := G.K) (ho := .ins C dx' (putF f (.int (j + j2)) fv')) (noTup_of g2 (fun _ z => by cases z) (fun _ _ z => by cases z))
            obtain ⟨y1, y2⟩ := flds_put (f := f) (RW.int (j + j2)) z1 z2
            have pw := s2.write i2 g2 (fun _ z => by cases z) (fun _ _ z => by cases z) (ho' := .ins C dx' (putF f (.int (j + j2)) fv')) (mo := .ins cn (putFM f (.int (j + j2)) fs2)) ⟨C, dx', _, hC, upd_same, y1, y2.mono (fun _ _ e => e) t⟩
            exact ⟨_, _, rfl, rfl, dx', fv', g2, by omega, h2 ι2 _ pw σ (pw.re re2)⟩
          · exact h2.elim
        · exact h2.elim
      · exact h2.elim
    · exact h1.elim
  · exact h1.elim⟩
end
end MI

set_option Elab.async false
set_option linter.all false
set_option maxRecDepth 100000
/-! set(xs) of keys of any one kind; len(set(xs)) of texts -/
namespace SetM
open PySem PySem.Spec PyProof.Rows
section
variable {K : Type} [DecidableEq K]
def addK (l : List K) (k : K) : List K := if k ∈ l then l else k :: l
def seen (ks : List K) : List K := ks.foldl addK []
theorem mem_addK {l : List K} {k j : K} : j ∈ addK l k ↔ j ∈ l ∨ j = k := by
  unfold addK
  split
  · rename_i h
    exact ⟨.inl, fun e => e.elim id fun e => e ▸ h⟩
  · rw [List.mem_cons]
    exact ⟨fun e => e.elim .inr .inl, fun e => e.elim .inr .inl⟩
theorem seen_snoc {ks : List K} {i : Nat} {k : K} (h : ks[i]? = some k) : seen (ks.take (i + 1)) = addK (seen (ks.take i)) k := by
  unfold seen
  rw [List.take_add_one, h, List.foldl_append]
  rfl
theorem len_addK (l : List K) (k : K) : (addK l k).length = if decide (k ∈ l) = true then l.length else l.length + 1 := by
  unfold addK
  by_cases h : k ∈ l <;> simp [h]
theorem seen_len (ks : List K) : (seen ks).length ≤ ks.length := by
  have : ∀ (ks l : List K), (ks.foldl addK l).length ≤ l.length + ks.length := fun ks => by
    induction ks with
    | nil => intro l; simp
    | cons k ks ih =>
      intro l
      rw [List.foldl_cons]
      have h1 := ih (addK l k)
      have h2 := len_addK l k
      rw [List.length_cons]
      split at h2 <;> omega
  simpa [seen] using this ks []
theorem mem_seen {ks : List K} {k : K} : k ∈ seen ks ↔ k ∈ ks := by
  have : ∀ (ks l : List K), k ∈ ks.foldl addK l ↔ k ∈ l ∨ k ∈ ks := fun ks => by
    induction ks with
    | nil => intro l; simp
    | cons j ks ih =>
      intro l
      rw [List.foldl_cons, ih, mem_addK, List.mem_cons, or_assoc]
  simpa [seen] using this ks []
theorem seen_nodup {ks : List K} (h : ks.Nodup) : (seen ks).length = ks.length := by
  have : ∀ (ks l : List K), ks.Nodup → (∀ k ∈ ks, k ∉ l) → (ks.foldl addK l).length = l.length + ks.length := fun ks => by
    induction ks with
    | nil => intro l _ _; simp
    | cons k ks ih =>
      intro l hn hl
      obtain ⟨h1, h2⟩ := List.nodup_cons.mp hn
      have h3 := hl k (by simp)
      rw [List.foldl_cons, ih (addK l k) h2 fun j hj => by
        rw [mem_addK]
        rintro (e | e)
        · exact hl j (List.mem_cons_of_mem _ hj) e
        · exact h1 (e ▸ hj), len_addK, if_neg (by simpa using h3), List.length_cons]
      omega
  simpa [seen] using this ks [] h (by simp)
end
section
variable {K : Type} [DecidableEq K] {prog : Program} {w : World} {A : Around}
theorem setOf_like {kk : KeyKind prog w K} {h : Heap} {a : Addr} {S S' : K → Bool} {n n' : Nat} (so : h.SetOf kk a S n) (e : S' = S) (z : n' = n) : h.SetOf kk a S' n' := e ▸ z ▸ so
/-- the walk that fills a set -/
theorem fills {R : Result → Shared → Prop} {I S : Addr} {fp wr : List Addr} {G : Array GenState → Array GenState → Prop} {n : Nat} {P : Nat → Value → Prop} {St : Nat → Shared → Prop} (kk : KeyKind prog w K) (W : WalksS prog w A.in1 I fp wr G n P St) (off : S ∉ fp) (ks : List K)
    (few : n + 1 < scanBound) (hks : ks.length = n) (own : ∀ i v, P i v → ∃ k, ks[i]? = some k ∧ kk.is k v = true ∧ v.scannable = true) : ∀ (d i : Nat), i + d = n → ∀ s : Shared, St i s → s.heap.SetOf kk S (fun k => decide (k ∈ seen (ks.take i))) (seen (ks.take i)).length →
      (∀ s', Moved (S :: wr) G s s' → s'.heap.SetOf kk S (fun k => decide (k ∈ seen ks)) (seen ks).length → R (.ok (.ret .none)) s') → codeAny (model prog w) A (.builtin "set.update.loop" ⟨[.ref S, .ref I], []⟩) R s := by
  have apart : S ∉ wr := fun h => off (W.sub _ h)
  intro d
  induction d with
  | zero =>
    intro i e s st so out
    have e : i = n := by omega
    subst e
    rw [← hks, List.take_length] at so
    refine codeAny_builtin F.entry_set_update_loop ?_
    rw [Around.under_plainId F.plain_set_update_loop _]
    show wpAny _ A.in1 (pyNext (.ref I) >>= _) _ _ s
    refine wpAny_bind (W.done s _ _ st fun s' mv => ?_)
    show wpAny _ A.in1 (ret Value.none) _ _ s'
    obtain ⟨ob, x1, x2, x3, here, more⟩ := so
    exact wpAny_pure (out s' (mv.mono fun b hb => List.mem_cons_of_mem _ hb) ⟨ob, x1, x2, x3, mv.heap S _ apart here, more⟩)
  | succ d ih =>
    intro i e s st so out
    refine codeAny_builtin F.entry_set_update_loop ?_
    rw [Around.under_plainId F.plain_set_update_loop _]
    show wpAny _ A.in1 (pyNext (.ref I) >>= _) _ _ s
    refine wpAny_bind (W.item i s _ _ (by omega) st fun v s1 pv st1 mv => ?_)
    obtain ⟨k, hk, isk, sc⟩ := own i v pv
    have so1 : s1.heap.SetOf kk S (fun k => decide (k ∈ seen (ks.take i))) (seen (ks.take i)).length := by
      obtain ⟨ob, x1, x2, x3, here, more⟩ := so
      exact ⟨ob, x1, x2, x3, mv.heap S _ apart here, more⟩
    show wpAny _ A.in1 (holding [v] (setAdd S v) >>= _) _ _ s1
    refine wpAny_bind (wpAny_holding ?_)
    unfold setAdd
    refine wpAny_holding (wpAny_bind (kk.pyHash isk ?_))
    have l1 := seen_len (ks.take i)
    have l2 : (ks.take i).length ≤ i := by rw [List.length_take]; omega
    refine wpAny_setAddHashed_of (s := { s1 with toks := s1.toks + 1 }) isk sc so1 (by omega) fun h' same so2 => ?_
    have so3 : h'.SetOf kk S (fun j => decide (j ∈ seen (ks.take (i + 1)))) (seen (ks.take (i + 1))).length := by
      rw [seen_snoc hk]
      refine setOf_like so2 (funext fun j => ?_) (len_addK _ _)
      rw [Bool.eq_iff_iff]
      simp [mem_addK]
    refine wpAny_pure ⟨plainId_quiet F.plain_set_update_loop _, ih (i + 1) (by omega) _ (W.frame _ s1 _ _ st1 (Nat.le_succ _) fun b hb o q => ?_) so3 fun s2 mv2 so4 => out s2 (Moved.trans W.gtrans ((mv.mono fun b hb => List.mem_cons_of_mem _ hb).then_heap (Nat.le_succ _) fun b o hb q => ?_) mv2) so4⟩
    · have ne : b ≠ S := fun z => off (z ▸ hb)
      exact (same.2 b ne).trans q
    · have ne : b ≠ S := fun z => hb (z ▸ List.mem_cons_self)
      exact (same.2 b ne).trans q
end
section
variable {K : Type} [DecidableEq K] {prog : Program} {w : World} {A : Around} {E : Value → Shared → Prop} {s : Shared}
/-- an empty set as it is made -/
abbrev bare (led : Bool) : Obj := { cls := .type "set", dict := none, data := .set #[] 0 (.fresh 0 0 led) }
/-- behind set(xs) -/
def Made (kk : KeyKind prog w K) (ks : List K) (h h' : Heap) : Prop := h'.SetOf kk h.objs.size (fun k => decide (k ∈ seen ks)) (seen ks).length ∧ ∀ b o, b < h.objs.size → h.get? b = some o → h'.get? b = some o
set_option maxHeartbeats 3200000 in
/-- set's own __init__ over a list -/
theorem init_list (kk : KeyKind prog w K) (ks : List K) {l : Addr} {items : Array Value} (quiet : A.handled = none) (isl : s.heap.IsList l items) (hks : ks.length = items.size) (few : items.size + 1 < scanBound)
    (own : ∀ (i : Nat) (v : Value), items[i]? = some v → ∃ k, ks[i]? = some k ∧ kk.is k v = true ∧ v.scannable = true) (led : Bool) {R : Result → Shared → Prop}
    (out : ∀ h' tk, Made kk ks s.heap h' → R (.ok (.ret .none)) { s with heap := h', toks := tk }) : codeAny (model prog w) A (.builtin "set.__init__" ⟨[.ref s.heap.objs.size, .ref l], []⟩) R { s with heap := s.heap.push (bare led) } := by
  have at0 : (s.heap.push (bare led)).get? s.heap.objs.size = some (bare led) := Heap.get?_push_size _ rfl
  have ty : Shared.TypeIs { s with heap := s.heap.push (bare led) } (.ref s.heap.objs.size) "set" := ⟨_, at0, rfl⟩
  refine codeAny_builtin F.entry_set_init ?_
  rw [Around.under_plainId F.called_set.init.plain _]
  obtain ⟨⟨c1, c2, c3, c4⟩, there, e1, n1, e2⟩ := isl
  simp only at e1 e2
  subst e1 e2
  have there1 := Heap.get?_push_of_some (bare led) there
  have isl1 : (s.heap.push (bare led)).IsList l items := ⟨_, there1, rfl, n1, rfl⟩
  have q1 := F.sub_list_set
  have q2 := F.sub_list_frozenset
  have q3 : (Value.type "list" == Value.type "dict") = false := by decide
  unfold Builtin.«set.__init__» noKeywords Builtin.Frozenset.updateFrom
  generalize hPI : pyIter = PI
  wp_walk
  subst hPI
  have quiet3 : A.in1.in1.handled = none := by simp [quiet]
  have low : l < s.heap.objs.size := Heap.lt_size there
  have z1 : (s.heap.push (bare led)).objs.size = s.heap.objs.size + 1 := Heap.size_push ..
  have ne1 : l ≠ (s.heap.push (bare led)).objs.size := by
    rw [z1]
    exact Nat.ne_of_lt (Nat.lt_succ_of_lt low)
  refine wpAny_pyIter_list isl1 (wpAny_bind (wpAny_runValue ?_))
  refine fills kk (Walks.list quiet3 _ l ne1 items).toS (S := s.heap.objs.size) (fun m => by
    rw [z1] at m
    rcases List.mem_cons.mp m with e | e
    · exact Nat.ne_of_lt (Nat.lt_succ_self _) e
    · exact Nat.ne_of_gt low (List.mem_singleton.mp e)) ks few hks own items.size 0 (Nat.zero_add _) _ ?_ ?_ fun s2 mv so => ?_
  · exact ⟨⟨_, Heap.get?_push_size _ rfl, rfl, rfl⟩, isl1.push _⟩
  · have at1 := Heap.get?_push_of_some { cls := .type "list_iterator", data := .fields #[.ref l, .int 0 0] } at0
    exact ⟨_, #[], 0, _, at1, ⟨rfl, rfl, rfl⟩, rfl, fun e he => by simp at he, fun k => by simp [seen], by decide, by rfl, rfl⟩
  · obtain ⟨h2, g2, d2, tk2, os2⟩ := s2
    obtain rfl : g2 = s.gens := mv.gens
    obtain rfl : d2 = s.drawn := mv.drawn
    obtain rfl : os2 = s.os := mv.os
    show wpAny _ _ _ _ _ _
    refine wpAny_pure ?_
    show wpAny _ _ (ret Value.none) _ _ _
    refine wpAny_pure (out h2 tk2 ⟨so, fun b o hb e => ?_⟩)
    refine mv.heap b o ?_ (Heap.get?_push_of_some _ (Heap.get?_push_of_some _ e))
    rw [z1]
    intro m
    rcases List.mem_cons.mp m with e | e
    · exact Nat.ne_of_lt hb e
    · exact Nat.ne_of_lt (Nat.lt_succ_of_lt hb) (List.mem_singleton.mp e)
set_option maxHeartbeats 3200000 in
/-- set(xs), xs a list -/
theorem call_list (kk : KeyKind prog w K) (ks : List K) {l : Addr} {items : Array Value} {Q : Value → Shared → Prop} (quiet : A.handled = none) (isl : s.heap.IsList l items) (hks : ks.length = items.size) (few : items.size + 1 < scanBound)
    (own : ∀ (i : Nat) (v : Value), items[i]? = some v → ∃ k, ks[i]? = some k ∧ kk.is k v = true ∧ v.scannable = true) (out : ∀ h' tk, Made kk ks s.heap h' → Q (.ref s.heap.objs.size) { s with heap := h', toks := tk }) : wpAny (model prog w) A (call (.type "set") [.ref l]) Q E s := by
  obtain ⟨c, tl, q1⟩ := F.called_set.mro
  have q2 := F.called_set.made
  have q3 := F.called_set.sub
  have q4 := F.called_set.notType
  have q5 := F.called_set.canCreate
  have q6 := F.typeCall_set_1 (.ref l)
  refine wpAny_call (codeAny_of_tree ?_)
  show wpAny _ _ (callAny (.type "set") _) _ _ _
  refine wpAny_pure ⟨Code.quiet_builtin _ (by decide +kernel), codeAny_builtin F.entry_type_call ?_⟩
  rw [Around.under_plain (weight_type_call_type "set" [.ref l] []) rfl]
  repeat (any_goals (first | assumption | wp_step))
  refine codeAny_mono (code_set_new_1 (.ref l) (E := E) (Q₁ := fun v s1 => ∃ led, v = .ref s.heap.objs.size ∧ s1 = { s with heap := s.heap.push (bare led) }) fun led => ⟨led, rfl, rfl⟩) fun r s1 hr => ?_
  rcases r with e | fl
  · exact hr
  · cases fl with
    | ret v =>
      obtain ⟨led, rfl, rfl⟩ := hr
      have at0 : (s.heap.push (bare led)).get? s.heap.objs.size = some (bare led) := Heap.get?_push_size _ rfl
      have ty : Shared.TypeIs { s with heap := s.heap.push (bare led) } (.ref s.heap.objs.size) "set" := ⟨_, at0, rfl⟩
      have q7 := F.called_set.init.lookup
      have q8 := F.called_set.init.bind (.ref s.heap.objs.size)
      repeat (any_goals (first | assumption | wp_step))
      refine codeAny_call_builtin_code (plainId_quiet F.called_set.init.plain _) (check_set_init_1 ty ?_)
      refine init_list (A := A.in1) kk ks (by simpa using quiet) isl hks few own led fun h' tk made => ?_
      repeat (any_goals (first | assumption | wp_step))
      exact out h' tk made
    | _ => exact hr.elim
end
end SetM

set_option Elab.async false
set_option linter.all false
set_option maxRecDepth 100000
namespace MI
open PySem PySem.Spec PyProof.Rows L2
/-! ### len(set(xs)), xs a list of texts and whole numbers -/
abbrev rLenSet (K : PySem.W.Frag) : V → Hp → VK → Prop := fun x H Q => ∃ (l : Addr) (ks : List Key), x = .ref l ∧ SqL K H l (ks.map kV) ∧ ks.length < 4000 ∧ Q (.int (SetM.seen ks).length) H
theorem pe_lenSetM {X : Cx} {a : Expr} {ta : TE} {p p2 q pos : Pos} (hc : X.calm = true) (hg : Gl X "len") (hm : X.mg "len" = none) (hg2 : Gl X "set") (hm2 : X.mg "set" = none) (ha : PE X a ta)
    (na : starEach [a] X.env = (false, eval a X.env) :: starEach [] X.env := by rfl) : PE X (.Call (.Name "len" p) [.Call (.Name "set" p2) [a] [] q] [] pos) (tUn (rLenSet X.K) ta) := ⟨fun pins s σ H Q I h => by
  refine Call_ (ld_blt I hg hm boot_len (PyProof.Rows.callWith_builtin1 (PyProof.Rows.args_cons ?_ rfl) rfl rfl))
  refine Call_ (ld_blt I hg2 hm2 boot_set (PyProof.Rows.callWith_type1 (PyProof.Rows.args_cons ?_ na) na rfl))
  refine thn (ha.run pins s σ H _ I h) fun v s1 ⟨x, H1, I1, r1, l, ks, ex, hq, few, q1⟩ => PyProof.Rows.args_nil ?_
  subst ex
  cases r1
  obtain ⟨its, r, pl, hz⟩ := I1.list hq
  have hl : ks.length = its.toArray.size := by rw [List.size_toArray, ← r.length, List.length_map]
  refine SetM.call_list (mixKind X.prog X.w) ks (I1.ok.hd hc) pl.isList hl (by unfold scanBound; omega) (fun i v hv => ?_) fun h' tk made => ?_
  · have hi : i < ks.length := by
      rw [hl]
      exact (Array.getElem?_eq_some_iff.mp hv).1
    obtain ⟨u, hu, ru⟩ := r.get (i := i) (x := kV ks[i]) (by simp [hi])
    have e : v = u := by
      rw [← Array.getElem?_toList] at hv
      exact Option.some.inj (hv.symm.trans (by simpa using hu))
    subst e
    exact ⟨ks[i], List.getElem?_eq_getElem hi, kV_is ru, key_scan ru⟩
  · refine PyProof.Rows.args_nil ?_
    obtain ⟨⟨o, es, ep, t, ho, hex, hd, _, _, _, hf, hn⟩, old⟩ := made
    have I2 : Inv X pins σ H1 { s1 with heap := h', toks := tk } := I1.kept fun b o e => old b o (Heap.lt_size e) e
    have le := SetM.seen_len ks
    exact call_len_set ho hex hd hf (by rw [hn]; omega) ⟨.int (SetM.seen ks).length, H1, I2.tok _, ⟨_, by rw [hn]⟩, q1⟩⟩
def keysL : List MV → Option (List Key)
  | [] => some []
  | w :: r => match keyM w, keysL r with
    | some k, some ks => some (k :: ks)
    | _, _ => none
theorem keysL_ok {G : Gx} {ι : List Addr} {H : Hp} : ∀ {l : List MV} {vs : List V} {ks : List Key}, RWs G ι H l vs → keysL l = some ks → vs = ks.map kV
  | [], _, _, r, e => by cases e; cases r; rfl
  | w :: l, _, _, r, e => by
    cases r with
    | cons r1 r2 =>
      unfold keysL at e
      split at e
      · rename_i k ks e1 e2
        cases e
        rw [key_ok r1 e1, keysL_ok r2 e2]
        rfl
      · cases e
def fLenSet (w : MV) (S : Store) : Res MV := match w with
  | .ref n => match S[n]? with
    | some (.lst l) => match keysL l with
      | some ks => if ks.length < 4000 then .ok (.int (SetM.seen ks).length) S else .stuck
      | none => .stuck
    | _ => .stuck
  | _ => .stuck
section
variable {X : Cx} {G : Gx} {W : WX} {a : Expr} {da : Den} {pos p p2 q : Pos}
theorem w_lenSet : UnW G fLenSet (rLenSet G.K) := fun ι H S E Q w v s r h => by
  unfold fLenSet at h
  split at h
  · cases r with
    | ref i =>
      split at h
      · rename_i l hS
        obtain ⟨us, g, qs⟩ := s.obj _ _ _ hS i
        split at h
        · rename_i ks e
          split at h
          · rename_i few
            rw [keysL_ok qs e] at g
            exact ⟨_, ks, rfl, .of g, few, h ι H (.refl s) _ (.int _)⟩
          · exact h.elim
        · exact h.elim
      · exact h.elim
  · exact h.elim
theorem de_lenSet (hK : X.K = G.K) (hc : X.calm = true) (hg : Gl X "len") (hm : X.mg "len" = none) (hg2 : Gl X "set") (hm2 : X.mg "set" = none) (ha : DE X G W a da)
    (na : starEach [a] X.env = (false, eval a X.env) :: starEach [] X.env := by rfl) : DE X G W (.Call (.Name "len" p) [.Call (.Name "set" p2) [a] [] q] [] pos) (dUn fLenSet da) :=
  ⟨PE.imp (pe_lenSetM hc hg hm hg2 hm2 ha.run na) fun _ _ _ h => by rw [hK]; exact un_imp w_lenSet h⟩
theorem keysL_strs : ∀ l : List Str, keysL (l.map .str) = some (l.map .inr)
  | [] => rfl
  | z :: l => by
    rw [List.map_cons]
    unfold keysL
    rw [keysL_strs l]
    rfl
theorem wp_lenSet {E : EX} {S : Store} {Q : MV → Store → Prop} {n : Nat} {xs : List Str} (e : S[n]? = some (.lst (xs.map .str))) (hl : xs.length < 4000) (hn : xs.Nodup) : wp (fLenSet (.ref n) S) E Q = Q (.int xs.length) S := by
  unfold fLenSet
  simp only [e, keysL_strs, List.length_map]
  rw [if_pos hl, SetM.seen_nodup (List.Pairwise.map _ (fun a b h z => h (Sum.inr.inj z)) hn), List.length_map]
  rfl
end
end MI

set_option Elab.async false
set_option linter.all false
set_option maxRecDepth 100000
set_option maxHeartbeats 1000000
namespace K06
open PySem PySem.Spec PyProof.Rows L2 MI
def d_names_of : DenS :=
  (sRet (dTup (aCons (dC (.str "top")) (aStar (dLc 4096 (iAnyD (dVar 0)) (gN 1) bYes (dBin fIx (dVar 1) (dC (.int 0))) [1]) aNil))))
def D_names_of : FnM := mkFn (List.length (["classes"] : List Str)) (List.length n_names_of) d_names_of
theorem ok_names_of {P : Program} {w : World} {K : PySem.W.Frag} {mg : Str → Option Value} {base : Heap} (T : Txt K mg w) : FnOk P w K mg base (L2.CX P w) 1 T.f_names_of T.d_names_of ["classes"] (spF (GG T) D_names_of) :=
  fn_ok (N := n_names_of) (ps := ["classes"]) (k := 0) (G := GG T) (body := d_names_of) T.F_names_of sc_names_of fun cdv A outer s H E hr => by
  unfold d_names_of
  exact (dss_one (ds_ret (de_tup (da_cons de_str (da_star rfl (de_lc (f := 4096) (own := [("row", 1)]) rfl sc_names_of.nd (di_any rfl (de_var 0)) (blkOk_by (own := [("row", 1)]) (N := n_names_of) (sc := defScope s_names_of) (by decide +kernel)) (fun _ _ _ _ _ => (dg_name 1 sc_names_of.nd)) (fun _ _ _ _ _ => dts_nil) (fun _ _ _ _ _ => (de_ix rfl hr.units (de_var 1) de_int))) da_nil)))))
def d_is_class : DenS :=
  (sRet (dBin fIn (dVar 1) (dCall D_names_of (aCons (dVar 0) aNil))))
def D_is_class : FnM := mkFn (List.length (["classes", "name"] : List Str)) (List.length n_is_class) d_is_class
theorem ok_is_class {P : Program} {w : World} {K : PySem.W.Frag} {mg : Str → Option Value} {base : Heap} (T : Txt K mg w) : FnOk P w K mg base (L2.CX P w) 2 T.f_is_class T.d_is_class ["classes", "name"] (spF (GG T) D_is_class) :=
  fn_ok (N := n_is_class) (ps := ["classes", "name"]) (k := 1) (G := GG T) (body := d_is_class) T.F_is_class sc_is_class fun cdv A outer s H E hr => by
  unfold d_is_class
  exact (dss_one (ds_ret (de_cmp' (cmp_in rfl) (de_var 1) (de_call (takes_of rfl rfl rfl rfl) (ok_names_of T) (hr.mono (by decide)) (by rfl) T.m_names_of T.F_names_of.kp T.b_names_of (da_cons (de_var 0) da_nil)) (by rfl))))
def d_class_of : DenS :=
  (sSeq (sFor 4096 (iAnyD (dVar 0)) (gN 2) (sIf (bCmp fEq (dBin fIx (dVar 2) (dC (.int 0))) (dVar 1)) (sRet (dVar 2)) sNil))
  (sRet (dC c_TOP)))
def D_class_of : FnM := mkFn (List.length (["classes", "name"] : List Str)) (List.length n_class_of) d_class_of
theorem ok_class_of {P : Program} {w : World} {K : PySem.W.Frag} {mg : Str → Option Value} {base : Heap} (T : Txt K mg w) : FnOk P w K mg base (L2.CX P w) 1 T.f_class_of T.d_class_of ["classes", "name"] (spF (GG T) D_class_of) :=
  fn_ok (N := n_class_of) (ps := ["classes", "name"]) (k := 0) (G := GG T) (body := d_class_of) T.F_class_of sc_class_of fun cdv A outer s H E hr => by
  unfold d_class_of
  exact (dss_cons (ds_for (f := 4096) (passes_of rfl) rfl (di_any rfl (de_var 0)) (dg_name 2 sc_class_of.nd) (dss_one (ds_if (dt_cmp (cmp_eq rfl hr.units) (de_ix rfl hr.units (de_var 2) de_int) (de_var 1) (nomark _)) (dss_one (ds_ret (de_var 2))) dss_nil)))
    (dss_one (ds_ret (de_glob (by rfl) T.m_TOP T.r_TOP (T.k_TOP _)))))
def d_line_up : DenS :=
  (sSeq (sAsg (dLst aNil) (gN 2))
  (sSeq (whM (bCmp fNe (dVar 1) (dC (.str "top"))) (sSeq (sExpr (dMet isLst fAppend (dVar 2) (aCons (dVar 1) aNil)))
  (sAsg (dBin fIx (dCall D_class_of (aCons (dVar 0) (aCons (dVar 1) aNil))) (dC (.int 1))) (gN 1))) 4096)
  (sRet (dTup (aStar (dVar 2) (aCons (dC (.str "top")) aNil))))))
def D_line_up : FnM := mkFn (List.length (["classes", "name"] : List Str)) (List.length n_line_up) d_line_up
theorem ok_line_up {P : Program} {w : World} {K : PySem.W.Frag} {mg : Str → Option Value} {base : Heap} (T : Txt K mg w) : FnOk P w K mg base (L2.CX P w) 2 T.f_line_up T.d_line_up ["classes", "name"] (spF (GG T) D_line_up) :=
  fn_ok (N := n_line_up) (ps := ["classes", "name"]) (k := 1) (G := GG T) (body := d_line_up) T.F_line_up sc_line_up fun cdv A outer s H E hr => by
  unfold d_line_up
  exact (dss_cons (ds_set 2 sc_line_up.nd (de_lst da_nil))
    (dss_cons (ds_while (f := 4096) (passes_of rfl) (dt_cmp (cmp_ne rfl hr.units) (de_var 1) de_str (nomark _)) (dss_cons (ds_expr (de_append rfl (de_var 2) (da_cons (de_var 1) da_nil)))
    (dss_one (ds_set 1 sc_line_up.nd (de_ix rfl hr.units (de_call (takes_of rfl rfl rfl rfl) (ok_class_of T) (hr.mono (by decide)) (by rfl) T.m_class_of T.F_class_of.kp T.b_class_of (da_cons (de_var 0) (da_cons (de_var 1) da_nil))) de_int)))))
    (dss_one (ds_ret (de_tup (da_star rfl (de_var 2) (da_cons de_str da_nil)))))))
def d_fields_up : DenS :=
  (sSeq (sAsg (dLst aNil) (gN 2))
  (sSeq (sFor 4096 (iAnyD (dUn fBack (dCall D_line_up (aCons (dVar 0) (aCons (dVar 1) aNil))))) (gN 3) (sExpr (dMet isLst fExtend (dVar 2) (aCons (dBin fIx (dCall D_class_of (aCons (dVar 0) (aCons (dVar 3) aNil))) (dC (.int 2))) aNil))))
  (sRet (dUn fTupOf (dVar 2)))))
def D_fields_up : FnM := mkFn (List.length (["classes", "name"] : List Str)) (List.length n_fields_up) d_fields_up
theorem ok_fields_up {P : Program} {w : World} {K : PySem.W.Frag} {mg : Str → Option Value} {base : Heap} (T : Txt K mg w) : FnOk P w K mg base (L2.CX P w) 3 T.f_fields_up T.d_fields_up ["classes", "name"] (spF (GG T) D_fields_up) :=
  fn_ok (N := n_fields_up) (ps := ["classes", "name"]) (k := 2) (G := GG T) (body := d_fields_up) T.F_fields_up sc_fields_up fun cdv A outer s H E hr => by
  unfold d_fields_up
  exact (dss_cons (ds_set 2 sc_fields_up.nd (de_lst da_nil))
    (dss_cons (ds_for (f := 4096) (passes_of rfl) rfl (di_any rfl (de_back rfl (de_call (takes_of rfl rfl rfl rfl) (ok_line_up T) (hr.mono (by decide)) (by rfl) T.m_line_up T.F_line_up.kp T.b_line_up (da_cons (de_var 0) (da_cons (de_var 1) da_nil))))) (dg_name 3 sc_fields_up.nd) (dss_one (ds_expr (de_extend rfl (de_var 2) (da_cons (de_ix rfl hr.units (de_call (takes_of rfl rfl rfl rfl) (ok_class_of T) (hr.mono (by decide)) (by rfl) T.m_class_of T.F_class_of.kp T.b_class_of (da_cons (de_var 0) (da_cons (de_var 3) da_nil))) de_int) da_nil)))))
    (dss_one (ds_ret (de_tupOf rfl (by rfl) T.z_tuple (de_var 2))))))
def d_field_kind : DenS :=
  (sSeq (sFor 4096 (iAnyD (dCall D_fields_up (aCons (dVar 0) (aCons (dVar 1) aNil)))) (gT (gsCons (gN 3) (gsCons (gN 4) gsNil))) (sIf (bCmp fEq (dVar 3) (dVar 2)) (sRet (dVar 4)) sNil))
  (sRet (dC .non)))
def D_field_kind : FnM := mkFn (List.length (["classes", "name", "word"] : List Str)) (List.length n_field_kind) d_field_kind
theorem ok_field_kind {P : Program} {w : World} {K : PySem.W.Frag} {mg : Str → Option Value} {base : Heap} (T : Txt K mg w) : FnOk P w K mg base (L2.CX P w) 4 T.f_field_kind T.d_field_kind ["classes", "name", "word"] (spF (GG T) D_field_kind) :=
  fn_ok (N := n_field_kind) (ps := ["classes", "name", "word"]) (k := 3) (G := GG T) (body := d_field_kind) T.F_field_kind sc_field_kind fun cdv A outer s H E hr => by
  unfold d_field_kind
  exact (dss_cons (ds_for (f := 4096) (passes_of rfl) rfl (di_any rfl (de_call (takes_of rfl rfl rfl rfl) (ok_fields_up T) (hr.mono (by decide)) (by rfl) T.m_fields_up T.F_fields_up.kp T.b_fields_up (da_cons (de_var 0) (da_cons (de_var 1) da_nil)))) (dg_tup rfl rfl (dgs_cons (dg_name 3 sc_field_kind.nd) (dgs_cons (dg_name 4 sc_field_kind.nd) dgs_nil)) (gs_len (gs_len gs_len0))) (dss_one (ds_if (dt_cmp (cmp_eq rfl hr.units) (de_var 3) (de_var 2) (nomark _)) (dss_one (ds_ret (de_var 4))) dss_nil)))
    (dss_one (ds_ret de_non)))
def d_nearest : DenS :=
  (sSeq (sFor 4096 (iAnyD (dCall D_line_up (aCons (dVar 0) (aCons (dVar 1) aNil)))) (gN 3) (sFor 4096 (iRng enumOf (aCons (dBin fIx (dCall D_class_of (aCons (dVar 0) (aCons (dVar 3) aNil))) (dC (.int 3))) aNil)) (gT (gsCons (gN 4) (gsCons (gN 5) gsNil))) (sIf (bCmp fEq (dBin fIx (dVar 5) (dC (.int 0))) (dVar 2)) (sRet (dTup (aCons (dVar 3) (aCons (dVar 4) aNil)))) sNil)))
  (sRet (dC .non)))
def D_nearest : FnM := mkFn (List.length (["classes", "name", "word"] : List Str)) (List.length n_nearest) d_nearest
theorem ok_nearest {P : Program} {w : World} {K : PySem.W.Frag} {mg : Str → Option Value} {base : Heap} (T : Txt K mg w) : FnOk P w K mg base (L2.CX P w) 3 T.f_nearest T.d_nearest ["classes", "name", "word"] (spF (GG T) D_nearest) :=
  fn_ok (N := n_nearest) (ps := ["classes", "name", "word"]) (k := 2) (G := GG T) (body := d_nearest) T.F_nearest sc_nearest fun cdv A outer s H E hr => by
  unfold d_nearest
  exact (dss_cons (ds_for (f := 4096) (passes_of rfl) rfl (di_any rfl (de_call (takes_of rfl rfl rfl rfl) (ok_line_up T) (hr.mono (by decide)) (by rfl) T.m_line_up T.F_line_up.kp T.b_line_up (da_cons (de_var 0) (da_cons (de_var 1) da_nil)))) (dg_name 3 sc_nearest.nd) (dss_one (ds_for (f := 4096) (passes_of rfl) rfl (di_enum rfl (by rfl) T.z_enumerate (da_cons (de_ix rfl hr.units (de_call (takes_of rfl rfl rfl rfl) (ok_class_of T) (hr.mono (by decide)) (by rfl) T.m_class_of T.F_class_of.kp T.b_class_of (da_cons (de_var 0) (da_cons (de_var 3) da_nil))) de_int) da_nil)) (dg_tup rfl rfl (dgs_cons (dg_name 4 sc_nearest.nd) (dgs_cons (dg_name 5 sc_nearest.nd) dgs_nil)) (gs_len (gs_len gs_len0))) (dss_one (ds_if (dt_cmp (cmp_eq rfl hr.units) (de_ix rfl hr.units (de_var 5) de_int) (de_var 2) (nomark _)) (dss_one (ds_ret (de_tup (da_cons (de_var 3) (da_cons (de_var 4) da_nil))))) dss_nil)))))
    (dss_one (ds_ret de_non)))
def d_method_at : DenS :=
  (sRet (dBin fIx (dBin fIx (dCall D_class_of (aCons (dVar 0) (aCons (dVar 1) aNil))) (dC (.int 3))) (dVar 2)))
def D_method_at : FnM := mkFn (List.length (["classes", "name", "place"] : List Str)) (List.length n_method_at) d_method_at
theorem ok_method_at {P : Program} {w : World} {K : PySem.W.Frag} {mg : Str → Option Value} {base : Heap} (T : Txt K mg w) : FnOk P w K mg base (L2.CX P w) 2 T.f_method_at T.d_method_at ["classes", "name", "place"] (spF (GG T) D_method_at) :=
  fn_ok (N := n_method_at) (ps := ["classes", "name", "place"]) (k := 1) (G := GG T) (body := d_method_at) T.F_method_at sc_method_at fun cdv A outer s H E hr => by
  unfold d_method_at
  exact (dss_one (ds_ret (de_ix rfl hr.units (de_ix rfl hr.units (de_call (takes_of rfl rfl rfl rfl) (ok_class_of T) (hr.mono (by decide)) (by rfl) T.m_class_of T.F_class_of.kp T.b_class_of (da_cons (de_var 0) (da_cons (de_var 1) da_nil))) de_int) (de_var 2))))
def d_nearest_method : DenS :=
  (sSeq (sAsg (dCall D_nearest (aCons (dVar 0) (aCons (dVar 1) (aCons (dVar 2) aNil)))) (gT (gsCons (gN 3) (gsCons (gN 4) gsNil))))
  (sRet (dCall D_method_at (aCons (dVar 0) (aCons (dVar 3) (aCons (dVar 4) aNil))))))
def D_nearest_method : FnM := mkFn (List.length (["classes", "name", "word"] : List Str)) (List.length n_nearest_method) d_nearest_method
theorem ok_nearest_method {P : Program} {w : World} {K : PySem.W.Frag} {mg : Str → Option Value} {base : Heap} (T : Txt K mg w) : FnOk P w K mg base (L2.CX P w) 4 T.f_nearest_method T.d_nearest_method ["classes", "name", "word"] (spF (GG T) D_nearest_method) :=
  fn_ok (N := n_nearest_method) (ps := ["classes", "name", "word"]) (k := 3) (G := GG T) (body := d_nearest_method) T.F_nearest_method sc_nearest_method fun cdv A outer s H E hr => by
  unfold d_nearest_method
  exact (dss_cons (ds_asg (de_call (takes_of rfl rfl rfl rfl) (ok_nearest T) (hr.mono (by decide)) (by rfl) T.m_nearest T.F_nearest.kp T.b_nearest (da_cons (de_var 0) (da_cons (de_var 1) (da_cons (de_var 2) da_nil)))) (dg_tup rfl rfl (dgs_cons (dg_name 3 sc_nearest_method.nd) (dgs_cons (dg_name 4 sc_nearest_method.nd) dgs_nil)) (gs_len (gs_len gs_len0))))
    (dss_one (ds_ret (de_call (takes_of rfl rfl rfl rfl) (ok_method_at T) (hr.mono (by decide)) (by rfl) T.m_method_at T.F_method_at.kp T.b_method_at (da_cons (de_var 0) (da_cons (de_var 3) (da_cons (de_var 4) da_nil)))))))
def d_is_word : DenS :=
  (sSeq (sIf (bOr (bNot (bTru (dUn (fIsT "str") (dVar 0)))) (bNot (fun ρ S => ((dChain fLe fLe (dC (.int 1)) (dCall fLen (aCons (dVar 0) aNil)) (dC (.int 6))) ρ S).bind boolOf))) (sRet (dC (.bl false))) sNil)
  (sRet (dCall (fAllAny fun bs => bs.all id) (aCons (dLc 4096 (iAnyD (dVar 0)) (gN 1) bYes (dBin fIn (dVar 1) (dC c_LETTERS)) [1]) aNil))))
def D_is_word : FnM := mkFn (List.length (["value"] : List Str)) (List.length n_is_word) d_is_word
theorem ok_is_word {P : Program} {w : World} {K : PySem.W.Frag} {mg : Str → Option Value} {base : Heap} (T : Txt K mg w) : FnOk P w K mg base (L2.CX P w) 1 T.f_is_word T.d_is_word ["value"] (spF (GG T) D_is_word) :=
  fn_ok (N := n_is_word) (ps := ["value"]) (k := 0) (G := GG T) (body := d_is_word) T.F_is_word sc_is_word fun cdv A outer s H E hr => by
  unfold d_is_word
  exact (dss_cons (ds_if (dw_dt (dw_or (dt_not (dt_truth rfl (de_isT (T := "str") rfl (by rfl) T.z_isinstance (by rfl) T.z_str (by decide +kernel) kit_str (by decide) (by decide) (de_var 0)))) (dw_or1 (dt_not (dt_chain cmp_le cmp_le de_int (de_len rfl (by rfl) T.z_len (da_cons (de_var 0) da_nil)) de_int))))) (dss_one (ds_ret de_bl)) dss_nil)
    (dss_one (ds_ret (de_all rfl rfl (by rfl) T.z_all (da_cons (de_lc (f := 4096) (own := [("letter", 1)]) rfl sc_is_word.nd (di_any rfl (de_var 0)) (blkOk_by (own := [("letter", 1)]) (N := n_is_word) (sc := defScope s_is_word) (by decide +kernel)) (fun _ _ _ _ _ => (dg_name 1 sc_is_word.nd)) (fun _ _ _ _ _ => dts_nil) (fun _ _ _ _ _ => (de_cmp' (cmp_in rfl) (de_var 1) (de_glob (by rfl) T.m_LETTERS T.r_LETTERS (T.k_LETTERS _)) (by rfl)))) da_nil)))))
def d_is_number : DenS :=
  (sRet (dAnd (dUn (fIsT "int") (dVar 0)) (dAnd (dNot (dUn (fIsT "bool") (dVar 0))) (dChain fLe fLe (dC (.int 0)) (dVar 0) (dVar 1)))))
def D_is_number : FnM := mkFn (List.length (["value", "most"] : List Str)) (List.length n_is_number) d_is_number
theorem ok_is_number {P : Program} {w : World} {K : PySem.W.Frag} {mg : Str → Option Value} {base : Heap} (T : Txt K mg w) : FnOk P w K mg base (L2.CX P w) 1 T.f_is_number T.d_is_number ["value", "most"] (spF (GG T) D_is_number) :=
  fn_ok (N := n_is_number) (ps := ["value", "most"]) (k := 0) (G := GG T) (body := d_is_number) T.F_is_number sc_is_number fun cdv A outer s H E hr => by
  unfold d_is_number
  exact (dss_one (ds_ret (de_and (de_isT (T := "int") rfl (by rfl) T.z_isinstance (by rfl) T.z_int (by decide +kernel) kit_int (by decide) (by decide) (de_var 0)) (de_and (de_not (de_isT (T := "bool") rfl (by rfl) T.z_isinstance (by rfl) T.z_bool (by decide +kernel) kit_bool (by decide) (by decide) (de_var 0))) (de_one (de_chain cmp_le cmp_le de_int (de_var 0) (de_var 1)))))))
def d_is_tuple : DenS :=
  (sRet (dAnd (dUn (fIsT "tuple") (dVar 0)) (dChain fLe fLe (dVar 1) (dCall fLen (aCons (dVar 0) aNil)) (dVar 2))))
def D_is_tuple : FnM := mkFn (List.length (["value", "least", "most"] : List Str)) (List.length n_is_tuple) d_is_tuple
theorem ok_is_tuple {P : Program} {w : World} {K : PySem.W.Frag} {mg : Str → Option Value} {base : Heap} (T : Txt K mg w) : FnOk P w K mg base (L2.CX P w) 1 T.f_is_tuple T.d_is_tuple ["value", "least", "most"] (spF (GG T) D_is_tuple) :=
  fn_ok (N := n_is_tuple) (ps := ["value", "least", "most"]) (k := 0) (G := GG T) (body := d_is_tuple) T.F_is_tuple sc_is_tuple fun cdv A outer s H E hr => by
  unfold d_is_tuple
  exact (dss_one (ds_ret (de_and (de_isT (T := "tuple") rfl (by rfl) T.z_isinstance (by rfl) T.z_tuple (by decide +kernel) kit_tuple (by decide) (by decide) (de_var 0)) (de_one (de_chain cmp_le cmp_le (de_var 1) (de_len rfl (by rfl) T.z_len (da_cons (de_var 0) da_nil)) (de_var 2))))))
def d_can_be_part : DenS :=
  (sSeq (sIf (bCmp fEq (dVar 2) (dC (.str "number"))) (sRet (dCall D_is_number (aCons (dVar 4) (aCons (dC (.int 15)) aNil)))) sNil)
  (sSeq (sIf (bCmp fEq (dVar 2) (dC (.str "local"))) (sRet (dCall D_is_number (aCons (dVar 4) (aCons (dC (.int 3)) aNil)))) sNil)
  (sSeq (sIf (bCmp fEq (dVar 2) (dC (.str "step"))) (sRet (dCall D_is_number (aCons (dVar 4) (aCons (dBin fSub (dVar 1) (dC (.int 1))) aNil)))) sNil)
  (sSeq (sIf (bCmp fEq (dVar 2) (dC (.str "class"))) (sRet (dCall D_is_class (aCons (dVar 0) (aCons (dVar 4) aNil)))) sNil)
  (sSeq (sIf (bCmp fEq (dVar 2) (dC (.str "field"))) (sRet (dBin fIsNot (dCall D_field_kind (aCons (dVar 0) (aCons (dBin fIx (dVar 3) (dC (.int 1))) (aCons (dVar 4) aNil)))) (dC .non))) sNil)
  (sRet (dBin fIsNot (dCall D_nearest (aCons (dVar 0) (aCons (dBin fIx (dVar 3) (dC (.int 1))) (aCons (dVar 4) aNil)))) (dC .non))))))))
def D_can_be_part : FnM := mkFn (List.length (["classes", "many", "part", "step", "value"] : List Str)) (List.length n_can_be_part) d_can_be_part
theorem ok_can_be_part {P : Program} {w : World} {K : PySem.W.Frag} {mg : Str → Option Value} {base : Heap} (T : Txt K mg w) : FnOk P w K mg base (L2.CX P w) 5 T.f_can_be_part T.d_can_be_part ["classes", "many", "part", "step", "value"] (spF (GG T) D_can_be_part) :=
  fn_ok (N := n_can_be_part) (ps := ["classes", "many", "part", "step", "value"]) (k := 4) (G := GG T) (body := d_can_be_part) T.F_can_be_part sc_can_be_part fun cdv A outer s H E hr => by
  unfold d_can_be_part
  exact (dss_cons (ds_if (dt_cmp (cmp_eq rfl hr.units) (de_var 2) de_str (nomark _)) (dss_one (ds_ret (de_call (takes_of rfl rfl rfl rfl) (ok_is_number T) (hr.mono (by decide)) (by rfl) T.m_is_number T.F_is_number.kp T.b_is_number (da_cons (de_var 4) (da_cons de_int da_nil))))) dss_nil)
    (dss_cons (ds_if (dt_cmp (cmp_eq rfl hr.units) (de_var 2) de_str (nomark _)) (dss_one (ds_ret (de_call (takes_of rfl rfl rfl rfl) (ok_is_number T) (hr.mono (by decide)) (by rfl) T.m_is_number T.F_is_number.kp T.b_is_number (da_cons (de_var 4) (da_cons de_int da_nil))))) dss_nil)
    (dss_cons (ds_if (dt_cmp (cmp_eq rfl hr.units) (de_var 2) de_str (nomark _)) (dss_one (ds_ret (de_call (takes_of rfl rfl rfl rfl) (ok_is_number T) (hr.mono (by decide)) (by rfl) T.m_is_number T.F_is_number.kp T.b_is_number (da_cons (de_var 4) (da_cons (de_sub (de_var 1) de_int) da_nil))))) dss_nil)
    (dss_cons (ds_if (dt_cmp (cmp_eq rfl hr.units) (de_var 2) de_str (nomark _)) (dss_one (ds_ret (de_call (takes_of rfl rfl rfl rfl) (ok_is_class T) (hr.mono (by decide)) (by rfl) T.m_is_class T.F_is_class.kp T.b_is_class (da_cons (de_var 0) (da_cons (de_var 4) da_nil))))) dss_nil)
    (dss_cons (ds_if (dt_cmp (cmp_eq rfl hr.units) (de_var 2) de_str (nomark _)) (dss_one (ds_ret (de_cmp' cmp_isNot (de_call (takes_of rfl rfl rfl rfl) (ok_field_kind T) (hr.mono (by decide)) (by rfl) T.m_field_kind T.F_field_kind.kp T.b_field_kind (da_cons (de_var 0) (da_cons (de_ix rfl hr.units (de_var 3) de_int) (da_cons (de_var 4) da_nil)))) de_non (nomark _)))) dss_nil)
    (dss_one (ds_ret (de_cmp' cmp_isNot (de_call (takes_of rfl rfl rfl rfl) (ok_nearest T) (hr.mono (by decide)) (by rfl) T.m_nearest T.F_nearest.kp T.b_nearest (da_cons (de_var 0) (da_cons (de_ix rfl hr.units (de_var 3) de_int) (da_cons (de_var 4) da_nil)))) de_non (nomark _)))))))))
def d_is_step : DenS :=
  (sSeq (sIf (bOr (bNot (bTru (dCall D_is_tuple (aCons (dVar 2) (aCons (dC (.int 1)) (aCons (dC (.int 3)) aNil)))))) (bOr (bNot (bTru (dUn (fIsT "str") (dBin fIx (dVar 2) (dC (.int 0)))))) (fun ρ S => ((dUn (fNotInK tb_PARTS) (dBin fIx (dVar 2) (dC (.int 0)))) ρ S).bind boolOf))) (sRet (dC (.bl false))) sNil)
  (sSeq (sAsg (dUn (fIxK tb_PARTS) (dBin fIx (dVar 2) (dC (.int 0)))) (gN 3))
  (sSeq (sIf (bCmp fNe (dCall fLen (aCons (dVar 2) aNil)) (dBin fAdd (dCall fLen (aCons (dVar 3) aNil)) (dC (.int 1)))) (sRet (dC (.bl false))) sNil)
  (sSeq (sFor 4096 (iRng zipOf (aCons (dVar 3) (aCons (dSl (dVar 2) (oSome (dC (.int 1))) oNone) aNil))) (gT (gsCons (gN 4) (gsCons (gN 5) gsNil))) (sIf (bNot (bTru (dCall D_can_be_part (aCons (dVar 0) (aCons (dVar 1) (aCons (dVar 4) (aCons (dVar 2) (aCons (dVar 5) aNil)))))))) (sRet (dC (.bl false))) sNil))
  (sRet (dC (.bl true)))))))
def D_is_step : FnM := mkFn (List.length (["classes", "many", "step"] : List Str)) (List.length n_is_step) d_is_step
theorem ok_is_step {P : Program} {w : World} {K : PySem.W.Frag} {mg : Str → Option Value} {base : Heap} (T : Txt K mg w) : FnOk P w K mg base (L2.CX P w) 6 T.f_is_step T.d_is_step ["classes", "many", "step"] (spF (GG T) D_is_step) :=
  fn_ok (N := n_is_step) (ps := ["classes", "many", "step"]) (k := 5) (G := GG T) (body := d_is_step) T.F_is_step sc_is_step fun cdv A outer s H E hr => by
  unfold d_is_step
  exact (dss_cons (ds_if (dw_dt (dw_or (dt_not (dt_truth rfl (de_call (takes_of rfl rfl rfl rfl) (ok_is_tuple T) (hr.mono (by decide)) (by rfl) T.m_is_tuple T.F_is_tuple.kp T.b_is_tuple (da_cons (de_var 2) (da_cons de_int (da_cons de_int da_nil)))))) (dw_or (dt_not (dt_truth rfl (de_isT (T := "str") rfl (by rfl) T.z_isinstance (by rfl) T.z_str (by decide +kernel) kit_str (by decide) (by decide) (de_ix rfl hr.units (de_var 2) de_int)))) (dw_or1 (dt_notInK rfl (T.t_PARTS _) (by rfl) T.m_PARTS (de_ix rfl hr.units (de_var 2) de_int)))))) (dss_one (ds_ret de_bl)) dss_nil)
    (dss_cons (ds_set 3 sc_is_step.nd (de_ixK rfl (T.t_PARTS _) (by rfl) T.m_PARTS (de_ix rfl hr.units (de_var 2) de_int)))
    (dss_cons (ds_if (dt_cmp (cmp_ne rfl hr.units) (de_len rfl (by rfl) T.z_len (da_cons (de_var 2) da_nil)) (de_add rfl (de_len rfl (by rfl) T.z_len (da_cons (de_var 3) da_nil)) de_int) (nomark _)) (dss_one (ds_ret de_bl)) dss_nil)
    (dss_cons (ds_for (f := 4096) (passes_of rfl) rfl (di_zip rfl (by rfl) T.z_zip (da_cons (de_var 3) (da_cons (de_sl rfl (de_var 2) (do_some de_int) do_none) da_nil))) (dg_tup rfl rfl (dgs_cons (dg_name 4 sc_is_step.nd) (dgs_cons (dg_name 5 sc_is_step.nd) dgs_nil)) (gs_len (gs_len gs_len0))) (dss_one (ds_if (dt_not (dt_truth rfl (de_call (takes_of rfl rfl rfl rfl) (ok_can_be_part T) (hr.mono (by decide)) (by rfl) T.m_can_be_part T.F_can_be_part.kp T.b_can_be_part (da_cons (de_var 0) (da_cons (de_var 1) (da_cons (de_var 4) (da_cons (de_var 2) (da_cons (de_var 5) da_nil)))))))) (dss_one (ds_ret de_bl)) dss_nil)))
    (dss_one (ds_ret de_bl))))))
def d_bad_step : DenS :=
  (sSeq (sAsg (dCall fLen (aCons (dVar 1) aNil)) (gN 2))
  (sSeq (sFor 4096 (iRng enumOf (aCons (dVar 1) aNil)) (gT (gsCons (gN 3) (gsCons (gN 4) gsNil))) (sIf (bNot (bTru (dCall D_is_step (aCons (dVar 0) (aCons (dVar 2) (aCons (dVar 4) aNil)))))) (sRet (dVar 3)) sNil))
  (sSeq (sIf (bCmp fNotIn (dBin fIx (dBin fIx (dVar 1) (dUn fNeg (dC (.int 1)))) (dC (.int 0))) (dC c_LAST)) (sRet (dBin fSub (dVar 2) (dC (.int 1)))) sNil)
  (sRet (dC .non)))))
def D_bad_step : FnM := mkFn (List.length (["classes", "code"] : List Str)) (List.length n_bad_step) d_bad_step
theorem ok_bad_step {P : Program} {w : World} {K : PySem.W.Frag} {mg : Str → Option Value} {base : Heap} (T : Txt K mg w) : FnOk P w K mg base (L2.CX P w) 7 T.f_bad_step T.d_bad_step ["classes", "code"] (spF (GG T) D_bad_step) :=
  fn_ok (N := n_bad_step) (ps := ["classes", "code"]) (k := 6) (G := GG T) (body := d_bad_step) T.F_bad_step sc_bad_step fun cdv A outer s H E hr => by
  unfold d_bad_step
  exact (dss_cons (ds_set 2 sc_bad_step.nd (de_len rfl (by rfl) T.z_len (da_cons (de_var 1) da_nil)))
    (dss_cons (ds_for (f := 4096) (passes_of rfl) rfl (di_enum rfl (by rfl) T.z_enumerate (da_cons (de_var 1) da_nil)) (dg_tup rfl rfl (dgs_cons (dg_name 3 sc_bad_step.nd) (dgs_cons (dg_name 4 sc_bad_step.nd) dgs_nil)) (gs_len (gs_len gs_len0))) (dss_one (ds_if (dt_not (dt_truth rfl (de_call (takes_of rfl rfl rfl rfl) (ok_is_step T) (hr.mono (by decide)) (by rfl) T.m_is_step T.F_is_step.kp T.b_is_step (da_cons (de_var 0) (da_cons (de_var 2) (da_cons (de_var 4) da_nil)))))) (dss_one (ds_ret (de_var 3))) dss_nil)))
    (dss_cons (ds_if (dt_cmp (cmp_notIn rfl) (de_ix rfl hr.units (de_ix rfl hr.units (de_var 1) (de_neg de_int)) de_int) (de_glob (by rfl) T.m_LAST T.r_LAST (T.k_LAST _)) (by rfl)) (dss_one (ds_ret (de_sub (de_var 2) de_int))) dss_nil)
    (dss_one (ds_ret de_non)))))
def d_is_handler : DenS :=
  (sSeq (sIf (bOr (bNot (bTru (dCall D_is_tuple (aCons (dVar 2) (aCons (dC (.int 4)) (aCons (dC (.int 4)) aNil)))))) (bOr (bNot (bTru (dCall D_is_number (aCons (dBin fIx (dVar 2) (dC (.int 0))) (aCons (dBin fSub (dVar 1) (dC (.int 1))) aNil))))) (bNot (bTru (dCall D_is_number (aCons (dBin fIx (dVar 2) (dC (.int 1))) (aCons (dVar 1) aNil))))))) (sRet (dC (.bl false))) sNil)
  (sRet (dAnd (dBin fLt (dBin fIx (dVar 2) (dC (.int 0))) (dBin fIx (dVar 2) (dC (.int 1)))) (dAnd (dCall D_is_class (aCons (dVar 0) (aCons (dBin fIx (dVar 2) (dC (.int 2))) aNil))) (dCall D_is_number (aCons (dBin fIx (dVar 2) (dC (.int 3))) (aCons (dBin fSub (dVar 1) (dC (.int 1))) aNil)))))))
def D_is_handler : FnM := mkFn (List.length (["classes", "many", "row"] : List Str)) (List.length n_is_handler) d_is_handler
theorem ok_is_handler {P : Program} {w : World} {K : PySem.W.Frag} {mg : Str → Option Value} {base : Heap} (T : Txt K mg w) : FnOk P w K mg base (L2.CX P w) 3 T.f_is_handler T.d_is_handler ["classes", "many", "row"] (spF (GG T) D_is_handler) :=
  fn_ok (N := n_is_handler) (ps := ["classes", "many", "row"]) (k := 2) (G := GG T) (body := d_is_handler) T.F_is_handler sc_is_handler fun cdv A outer s H E hr => by
  unfold d_is_handler
  exact (dss_cons (ds_if (dw_dt (dw_or (dt_not (dt_truth rfl (de_call (takes_of rfl rfl rfl rfl) (ok_is_tuple T) (hr.mono (by decide)) (by rfl) T.m_is_tuple T.F_is_tuple.kp T.b_is_tuple (da_cons (de_var 2) (da_cons de_int (da_cons de_int da_nil)))))) (dw_or (dt_not (dt_truth rfl (de_call (takes_of rfl rfl rfl rfl) (ok_is_number T) (hr.mono (by decide)) (by rfl) T.m_is_number T.F_is_number.kp T.b_is_number (da_cons (de_ix rfl hr.units (de_var 2) de_int) (da_cons (de_sub (de_var 1) de_int) da_nil))))) (dw_or1 (dt_not (dt_truth rfl (de_call (takes_of rfl rfl rfl rfl) (ok_is_number T) (hr.mono (by decide)) (by rfl) T.m_is_number T.F_is_number.kp T.b_is_number (da_cons (de_ix rfl hr.units (de_var 2) de_int) (da_cons (de_var 1) da_nil))))))))) (dss_one (ds_ret de_bl)) dss_nil)
    (dss_one (ds_ret (de_and (de_cmp' cmp_lt (de_ix rfl hr.units (de_var 2) de_int) (de_ix rfl hr.units (de_var 2) de_int) (nomark _)) (de_and (de_call (takes_of rfl rfl rfl rfl) (ok_is_class T) (hr.mono (by decide)) (by rfl) T.m_is_class T.F_is_class.kp T.b_is_class (da_cons (de_var 0) (da_cons (de_ix rfl hr.units (de_var 2) de_int) da_nil))) (de_one (de_call (takes_of rfl rfl rfl rfl) (ok_is_number T) (hr.mono (by decide)) (by rfl) T.m_is_number T.F_is_number.kp T.b_is_number (da_cons (de_ix rfl hr.units (de_var 2) de_int) (da_cons (de_sub (de_var 1) de_int) da_nil)))))))))
def d_bad_handler : DenS :=
  (sSeq (sFor 4096 (iRng enumOf (aCons (dVar 2) aNil)) (gT (gsCons (gN 3) (gsCons (gN 4) gsNil))) (sIf (bNot (bTru (dCall D_is_handler (aCons (dVar 0) (aCons (dVar 1) (aCons (dVar 4) aNil)))))) (sRet (dVar 3)) sNil))
  (sRet (dC .non)))
def D_bad_handler : FnM := mkFn (List.length (["classes", "many", "handlers"] : List Str)) (List.length n_bad_handler) d_bad_handler
theorem ok_bad_handler {P : Program} {w : World} {K : PySem.W.Frag} {mg : Str → Option Value} {base : Heap} (T : Txt K mg w) : FnOk P w K mg base (L2.CX P w) 4 T.f_bad_handler T.d_bad_handler ["classes", "many", "handlers"] (spF (GG T) D_bad_handler) :=
  fn_ok (N := n_bad_handler) (ps := ["classes", "many", "handlers"]) (k := 3) (G := GG T) (body := d_bad_handler) T.F_bad_handler sc_bad_handler fun cdv A outer s H E hr => by
  unfold d_bad_handler
  exact (dss_cons (ds_for (f := 4096) (passes_of rfl) rfl (di_enum rfl (by rfl) T.z_enumerate (da_cons (de_var 2) da_nil)) (dg_tup rfl rfl (dgs_cons (dg_name 3 sc_bad_handler.nd) (dgs_cons (dg_name 4 sc_bad_handler.nd) dgs_nil)) (gs_len (gs_len gs_len0))) (dss_one (ds_if (dt_not (dt_truth rfl (de_call (takes_of rfl rfl rfl rfl) (ok_is_handler T) (hr.mono (by decide)) (by rfl) T.m_is_handler T.F_is_handler.kp T.b_is_handler (da_cons (de_var 0) (da_cons (de_var 1) (da_cons (de_var 4) da_nil)))))) (dss_one (ds_ret (de_var 3))) dss_nil)))
    (dss_one (ds_ret de_non)))
def d_is_new_class : DenS :=
  (sSeq (sIf (bOr (bNot (bTru (dCall D_is_tuple (aCons (dVar 1) (aCons (dC (.int 4)) (aCons (dC (.int 4)) aNil)))))) (bOr (bNot (bTru (dCall D_is_word (aCons (dBin fIx (dVar 1) (dC (.int 0))) aNil)))) (bOr (bCmp fIn (dBin fIx (dVar 1) (dC (.int 0))) (dC c_TAKEN_NAMES)) (bCmp fIn (dBin fIx (dVar 1) (dC (.int 0))) (dVar 0))))) (sRet (dC (.bl false))) sNil)
  (sRet (dOr (dBin fEq (dBin fIx (dVar 1) (dC (.int 1))) (dC (.str "top"))) (dBin fIn (dBin fIx (dVar 1) (dC (.int 1))) (dVar 0)))))
def D_is_new_class : FnM := mkFn (List.length (["earlier", "row"] : List Str)) (List.length n_is_new_class) d_is_new_class
theorem ok_is_new_class {P : Program} {w : World} {K : PySem.W.Frag} {mg : Str → Option Value} {base : Heap} (T : Txt K mg w) : FnOk P w K mg base (L2.CX P w) 2 T.f_is_new_class T.d_is_new_class ["earlier", "row"] (spF (GG T) D_is_new_class) :=
  fn_ok (N := n_is_new_class) (ps := ["earlier", "row"]) (k := 1) (G := GG T) (body := d_is_new_class) T.F_is_new_class sc_is_new_class fun cdv A outer s H E hr => by
  unfold d_is_new_class
  exact (dss_cons (ds_if (dw_dt (dw_or (dt_not (dt_truth rfl (de_call (takes_of rfl rfl rfl rfl) (ok_is_tuple T) (hr.mono (by decide)) (by rfl) T.m_is_tuple T.F_is_tuple.kp T.b_is_tuple (da_cons (de_var 1) (da_cons de_int (da_cons de_int da_nil)))))) (dw_or (dt_not (dt_truth rfl (de_call (takes_of rfl rfl rfl rfl) (ok_is_word T) (hr.mono (by decide)) (by rfl) T.m_is_word T.F_is_word.kp T.b_is_word (da_cons (de_ix rfl hr.units (de_var 1) de_int) da_nil)))) (dw_or (dt_cmp (cmp_in rfl) (de_ix rfl hr.units (de_var 1) de_int) (de_glob (by rfl) T.m_TAKEN_NAMES T.r_TAKEN_NAMES (T.k_TAKEN_NAMES _)) (by rfl)) (dw_or1 (dt_cmp (cmp_in rfl) (de_ix rfl hr.units (de_var 1) de_int) (de_var 0) (by rfl))))))) (dss_one (ds_ret de_bl)) dss_nil)
    (dss_one (ds_ret (de_or (de_cmp' (cmp_eq rfl hr.units) (de_ix rfl hr.units (de_var 1) de_int) de_str (nomark _)) (de_one (de_cmp' (cmp_in rfl) (de_ix rfl hr.units (de_var 1) de_int) (de_var 0) (by rfl)))))))
def d_check_names : DenS :=
  (sSeq (sIf (bNot (bTru (dCall D_is_tuple (aCons (dVar 0) (aCons (dC (.int 1)) (aCons (dC (.int 8)) aNil)))))) sNever sNil)
  (sSeq (sAsg (dLst aNil) (gN 1))
  (sFor 4096 (iRng enumOf (aCons (dVar 0) aNil)) (gT (gsCons (gN 2) (gsCons (gN 3) gsNil))) (sSeq (sIf (bNot (bTru (dCall D_is_new_class (aCons (dVar 1) (aCons (dVar 3) aNil))))) sNever sNil)
  (sExpr (dMet isLst fAppend (dVar 1) (aCons (dBin fIx (dVar 3) (dC (.int 0))) aNil)))))))
def D_check_names : FnM := mkFn (List.length (["classes"] : List Str)) (List.length n_check_names) d_check_names
theorem ok_check_names {P : Program} {w : World} {K : PySem.W.Frag} {mg : Str → Option Value} {base : Heap} (T : Txt K mg w) : FnOk P w K mg base (L2.CX P w) 3 T.f_check_names T.d_check_names ["classes"] (spF (GG T) D_check_names) :=
  fn_ok (N := n_check_names) (ps := ["classes"]) (k := 2) (G := GG T) (body := d_check_names) T.F_check_names sc_check_names fun cdv A outer s H E hr => by
  unfold d_check_names
  exact (dss_cons (ds_if (dt_not (dt_truth rfl (de_call (takes_of rfl rfl rfl rfl) (ok_is_tuple T) (hr.mono (by decide)) (by rfl) T.m_is_tuple T.F_is_tuple.kp T.b_is_tuple (da_cons (de_var 0) (da_cons de_int (da_cons de_int da_nil)))))) (dss_one ds_never) dss_nil)
    (dss_cons (ds_set 1 sc_check_names.nd (de_lst da_nil))
    (dss_one (ds_for (f := 4096) (passes_of rfl) rfl (di_enum rfl (by rfl) T.z_enumerate (da_cons (de_var 0) da_nil)) (dg_tup rfl rfl (dgs_cons (dg_name 2 sc_check_names.nd) (dgs_cons (dg_name 3 sc_check_names.nd) dgs_nil)) (gs_len (gs_len gs_len0))) (dss_cons (ds_if (dt_not (dt_truth rfl (de_call (takes_of rfl rfl rfl rfl) (ok_is_new_class T) (hr.mono (by decide)) (by rfl) T.m_is_new_class T.F_is_new_class.kp T.b_is_new_class (da_cons (de_var 1) (da_cons (de_var 3) da_nil))))) (dss_one ds_never) dss_nil)
    (dss_one (ds_expr (de_append rfl (de_var 1) (da_cons (de_ix rfl hr.units (de_var 3) de_int) da_nil)))))))))
def d_is_told_kind : DenS :=
  (sRet (dOr (dBin fEq (dVar 1) (dC (.str "num"))) (dCall D_is_class (aCons (dVar 0) (aCons (dVar 1) aNil)))))
def D_is_told_kind : FnM := mkFn (List.length (["classes", "value"] : List Str)) (List.length n_is_told_kind) d_is_told_kind
theorem ok_is_told_kind {P : Program} {w : World} {K : PySem.W.Frag} {mg : Str → Option Value} {base : Heap} (T : Txt K mg w) : FnOk P w K mg base (L2.CX P w) 3 T.f_is_told_kind T.d_is_told_kind ["classes", "value"] (spF (GG T) D_is_told_kind) :=
  fn_ok (N := n_is_told_kind) (ps := ["classes", "value"]) (k := 2) (G := GG T) (body := d_is_told_kind) T.F_is_told_kind sc_is_told_kind fun cdv A outer s H E hr => by
  unfold d_is_told_kind
  exact (dss_one (ds_ret (de_or (de_cmp' (cmp_eq rfl hr.units) (de_var 1) de_str (nomark _)) (de_one (de_call (takes_of rfl rfl rfl rfl) (ok_is_class T) (hr.mono (by decide)) (by rfl) T.m_is_class T.F_is_class.kp T.b_is_class (da_cons (de_var 0) (da_cons (de_var 1) da_nil)))))))
def d_are_fields : DenS :=
  (sSeq (sIf (bNot (bTru (dCall D_is_tuple (aCons (dVar 2) (aCons (dC (.int 0)) (aCons (dC (.int 4)) aNil)))))) (sRet (dC (.bl false))) sNil)
  (sSeq (sAsg (dLc 4096 (iAnyD (dCall D_fields_up (aCons (dVar 0) (aCons (dVar 1) aNil)))) (gT (gsCons (gN 5) (gsCons (gN 6) gsNil))) bYes (dVar 5) [5, 6]) (gN 3))
  (sSeq (sFor 4096 (iAnyD (dVar 2)) (gN 4) (sSeq (sIf (bOr (bNot (bTru (dCall D_is_tuple (aCons (dVar 4) (aCons (dC (.int 2)) (aCons (dC (.int 2)) aNil)))))) (bOr (bNot (bTru (dCall D_is_word (aCons (dBin fIx (dVar 4) (dC (.int 0))) aNil)))) (bCmp fIn (dBin fIx (dVar 4) (dC (.int 0))) (dVar 3)))) (sRet (dC (.bl false))) sNil)
  (sSeq (sIf (bNot (bTru (dCall D_is_told_kind (aCons (dVar 0) (aCons (dBin fIx (dVar 4) (dC (.int 1))) aNil))))) (sRet (dC (.bl false))) sNil)
  (sExpr (dMet isLst fAppend (dVar 3) (aCons (dBin fIx (dVar 4) (dC (.int 0))) aNil))))))
  (sRet (dC (.bl true))))))
def D_are_fields : FnM := mkFn (List.length (["classes", "upper", "fields"] : List Str)) (List.length n_are_fields) d_are_fields
theorem ok_are_fields {P : Program} {w : World} {K : PySem.W.Frag} {mg : Str → Option Value} {base : Heap} (T : Txt K mg w) : FnOk P w K mg base (L2.CX P w) 4 T.f_are_fields T.d_are_fields ["classes", "upper", "fields"] (spF (GG T) D_are_fields) :=
  fn_ok (N := n_are_fields) (ps := ["classes", "upper", "fields"]) (k := 3) (G := GG T) (body := d_are_fields) T.F_are_fields sc_are_fields fun cdv A outer s H E hr => by
  unfold d_are_fields
  exact (dss_cons (ds_if (dt_not (dt_truth rfl (de_call (takes_of rfl rfl rfl rfl) (ok_is_tuple T) (hr.mono (by decide)) (by rfl) T.m_is_tuple T.F_is_tuple.kp T.b_is_tuple (da_cons (de_var 2) (da_cons de_int (da_cons de_int da_nil)))))) (dss_one (ds_ret de_bl)) dss_nil)
    (dss_cons (ds_setLc 3 (f := 4096) (own := [("word", 5), ("_", 6)]) rfl sc_are_fields.nd (di_any rfl (de_call (takes_of rfl rfl rfl rfl) (ok_fields_up T) (hr.mono (by decide)) (by rfl) T.m_fields_up T.F_fields_up.kp T.b_fields_up (da_cons (de_var 0) (da_cons (de_var 1) da_nil)))) (blkOk_by (own := [("word", 5), ("_", 6)]) (N := n_are_fields) (sc := defScope s_are_fields) (by decide +kernel)) (fun _ _ _ _ _ => (dg_tup rfl rfl (dgs_cons (dg_name 5 sc_are_fields.nd) (dgs_cons (dg_name 6 sc_are_fields.nd) dgs_nil)) (gs_len (gs_len gs_len0)))) (fun _ _ _ _ _ => dts_nil) (fun _ _ _ _ _ => (de_var 5)) (sw_true rfl rfl rfl (by decide +kernel)))
    (dss_cons (ds_for (f := 4096) (passes_of rfl) rfl (di_any rfl (de_var 2)) (dg_name 4 sc_are_fields.nd) (dss_cons (ds_if (dw_dt (dw_or (dt_not (dt_truth rfl (de_call (takes_of rfl rfl rfl rfl) (ok_is_tuple T) (hr.mono (by decide)) (by rfl) T.m_is_tuple T.F_is_tuple.kp T.b_is_tuple (da_cons (de_var 4) (da_cons de_int (da_cons de_int da_nil)))))) (dw_or (dt_not (dt_truth rfl (de_call (takes_of rfl rfl rfl rfl) (ok_is_word T) (hr.mono (by decide)) (by rfl) T.m_is_word T.F_is_word.kp T.b_is_word (da_cons (de_ix rfl hr.units (de_var 4) de_int) da_nil)))) (dw_or1 (dt_cmp (cmp_in rfl) (de_ix rfl hr.units (de_var 4) de_int) (de_var 3) (by rfl)))))) (dss_one (ds_ret de_bl)) dss_nil)
    (dss_cons (ds_if (dt_not (dt_truth rfl (de_call (takes_of rfl rfl rfl rfl) (ok_is_told_kind T) (hr.mono (by decide)) (by rfl) T.m_is_told_kind T.F_is_told_kind.kp T.b_is_told_kind (da_cons (de_var 0) (da_cons (de_ix rfl hr.units (de_var 4) de_int) da_nil))))) (dss_one (ds_ret de_bl)) dss_nil)
    (dss_one (ds_expr (de_append rfl (de_var 3) (da_cons (de_ix rfl hr.units (de_var 4) de_int) da_nil)))))))
    (dss_one (ds_ret de_bl)))))
def d_is_method : DenS :=
  (sSeq (sIf (bOr (bNot (bTru (dCall D_is_tuple (aCons (dVar 3) (aCons (dVar 4) (aCons (dVar 4) aNil)))))) (bOr (bNot (bTru (dCall D_is_word (aCons (dBin fIx (dVar 3) (dC (.int 0))) aNil)))) (bCmp fIn (dBin fIx (dVar 3) (dC (.int 0))) (dVar 2)))) (sRet (dC (.bl false))) sNil)
  (sSeq (sAsg (dSl (dVar 3) oNone (oSome (dC (.int 3)))) (gT (gsCons (gN 5) (gsCons (gN 6) (gsCons (gN 7) gsNil)))))
  (sSeq (sIf (bOr (bNot (bTru (dCall D_is_tuple (aCons (dVar 6) (aCons (dC (.int 0)) (aCons (dC (.int 3)) aNil)))))) (bNot (bTru (dCall (fAllAny fun bs => bs.all id) (aCons (dLc 4096 (iAnyD (dVar 6)) (gN 8) bYes (dCall D_is_told_kind (aCons (dVar 0) (aCons (dVar 8) aNil))) [8]) aNil))))) (sRet (dC (.bl false))) sNil)
  (sSeq (sIf (bNot (bTru (dCall D_is_told_kind (aCons (dVar 0) (aCons (dVar 7) aNil))))) (sRet (dC (.bl false))) sNil)
  (sSeq (sIf (bCmp fIs (dCall D_nearest (aCons (dVar 0) (aCons (dVar 1) (aCons (dVar 5) aNil)))) (dC .non)) (sRet (dC (.bl true))) sNil)
  (sRet (dBin fEq (dSl (dCall D_nearest_method (aCons (dVar 0) (aCons (dVar 1) (aCons (dVar 5) aNil)))) (oSome (dC (.int 1))) (oSome (dC (.int 3)))) (dTup (aCons (dVar 6) (aCons (dVar 7) aNil))))))))))
def D_is_method : FnM := mkFn (List.length (["classes", "upper", "words", "method", "parts"] : List Str)) (List.length n_is_method) d_is_method
theorem ok_is_method {P : Program} {w : World} {K : PySem.W.Frag} {mg : Str → Option Value} {base : Heap} (T : Txt K mg w) : FnOk P w K mg base (L2.CX P w) 5 T.f_is_method T.d_is_method ["classes", "upper", "words", "method", "parts"] (spF (GG T) D_is_method) :=
  fn_ok (N := n_is_method) (ps := ["classes", "upper", "words", "method", "parts"]) (k := 4) (G := GG T) (body := d_is_method) T.F_is_method sc_is_method fun cdv A outer s H E hr => by
  unfold d_is_method
  exact (dss_cons (ds_if (dw_dt (dw_or (dt_not (dt_truth rfl (de_call (takes_of rfl rfl rfl rfl) (ok_is_tuple T) (hr.mono (by decide)) (by rfl) T.m_is_tuple T.F_is_tuple.kp T.b_is_tuple (da_cons (de_var 3) (da_cons (de_var 4) (da_cons (de_var 4) da_nil)))))) (dw_or (dt_not (dt_truth rfl (de_call (takes_of rfl rfl rfl rfl) (ok_is_word T) (hr.mono (by decide)) (by rfl) T.m_is_word T.F_is_word.kp T.b_is_word (da_cons (de_ix rfl hr.units (de_var 3) de_int) da_nil)))) (dw_or1 (dt_cmp (cmp_in rfl) (de_ix rfl hr.units (de_var 3) de_int) (de_var 2) (by rfl)))))) (dss_one (ds_ret de_bl)) dss_nil)
    (dss_cons (ds_asg (de_sl rfl (de_var 3) do_none (do_some de_int)) (dg_tup rfl rfl (dgs_cons (dg_name 5 sc_is_method.nd) (dgs_cons (dg_name 6 sc_is_method.nd) (dgs_cons (dg_name 7 sc_is_method.nd) dgs_nil))) (gs_len (gs_len (gs_len gs_len0)))))
    (dss_cons (ds_if (dw_dt (dw_or (dt_not (dt_truth rfl (de_call (takes_of rfl rfl rfl rfl) (ok_is_tuple T) (hr.mono (by decide)) (by rfl) T.m_is_tuple T.F_is_tuple.kp T.b_is_tuple (da_cons (de_var 6) (da_cons de_int (da_cons de_int da_nil)))))) (dw_or1 (dt_not (dt_truth rfl (de_all rfl rfl (by rfl) T.z_all (da_cons (de_lc (f := 4096) (own := [("kind", 8)]) rfl sc_is_method.nd (di_any rfl (de_var 6)) (blkOk_by (own := [("kind", 8)]) (N := n_is_method) (sc := defScope s_is_method) (by decide +kernel)) (fun _ _ _ _ _ => (dg_name 8 sc_is_method.nd)) (fun _ _ _ _ _ => dts_nil) (fun _ _ _ _ _ => (de_call takes0 (ok_is_told_kind T) (hr.mono (by decide)) (by rfl) T.m_is_told_kind T.F_is_told_kind.kp T.b_is_told_kind (da_cons (de_var 0) (da_cons (de_var 8) da_nil))))) da_nil))))))) (dss_one (ds_ret de_bl)) dss_nil)
    (dss_cons (ds_if (dt_not (dt_truth rfl (de_call (takes_of rfl rfl rfl rfl) (ok_is_told_kind T) (hr.mono (by decide)) (by rfl) T.m_is_told_kind T.F_is_told_kind.kp T.b_is_told_kind (da_cons (de_var 0) (da_cons (de_var 7) da_nil))))) (dss_one (ds_ret de_bl)) dss_nil)
    (dss_cons (ds_if (dt_cmp cmp_is (de_call (takes_of rfl rfl rfl rfl) (ok_nearest T) (hr.mono (by decide)) (by rfl) T.m_nearest T.F_nearest.kp T.b_nearest (da_cons (de_var 0) (da_cons (de_var 1) (da_cons (de_var 5) da_nil)))) de_non (nomark _)) (dss_one (ds_ret de_bl)) dss_nil)
    (dss_one (ds_ret (de_cmp' (cmp_eq rfl hr.units) (de_sl rfl (de_call (takes_of rfl rfl rfl rfl) (ok_nearest_method T) (hr.mono (by decide)) (by rfl) T.m_nearest_method T.F_nearest_method.kp T.b_nearest_method (da_cons (de_var 0) (da_cons (de_var 1) (da_cons (de_var 5) da_nil)))) (do_some de_int) (do_some de_int)) (de_tup (da_cons (de_var 6) (da_cons (de_var 7) da_nil))) (nomark _)))))))))
def d_check_methods : DenS :=
  (sSeq (sAsg (dBin fIx (dVar 0) (dVar 1)) (gT (gsCons (gN 3) (gsCons (gN 4) (gsCons (gN 3) (gsCons (gN 5) gsNil))))))
  (sSeq (sIf (bNot (bTru (dCall D_is_tuple (aCons (dVar 5) (aCons (dC (.int 0)) (aCons (dC (.int 4)) aNil)))))) sNever sNil)
  (sSeq (sAsg (dLst aNil) (gN 6))
  (sFor 4096 (iRng enumOf (aCons (dVar 5) aNil)) (gT (gsCons (gN 7) (gsCons (gN 8) gsNil))) (sSeq (sIf (bNot (bTru (dCall D_is_method (aCons (dVar 0) (aCons (dVar 4) (aCons (dVar 6) (aCons (dVar 8) (aCons (dVar 2) aNil)))))))) sNever sNil)
  (sExpr (dMet isLst fAppend (dVar 6) (aCons (dBin fIx (dVar 8) (dC (.int 0))) aNil))))))))
def D_check_methods : FnM := mkFn (List.length (["classes", "index", "parts"] : List Str)) (List.length n_check_methods) d_check_methods
theorem ok_check_methods {P : Program} {w : World} {K : PySem.W.Frag} {mg : Str → Option Value} {base : Heap} (T : Txt K mg w) : FnOk P w K mg base (L2.CX P w) 6 T.f_check_methods T.d_check_methods ["classes", "index", "parts"] (spF (GG T) D_check_methods) :=
  fn_ok (N := n_check_methods) (ps := ["classes", "index", "parts"]) (k := 5) (G := GG T) (body := d_check_methods) T.F_check_methods sc_check_methods fun cdv A outer s H E hr => by
  unfold d_check_methods
  exact (dss_cons (ds_asg (de_ix rfl hr.units (de_var 0) (de_var 1)) (dg_tup rfl rfl (dgs_cons (dg_name 3 sc_check_methods.nd) (dgs_cons (dg_name 4 sc_check_methods.nd) (dgs_cons (dg_name 3 sc_check_methods.nd) (dgs_cons (dg_name 5 sc_check_methods.nd) dgs_nil)))) (gs_len (gs_len (gs_len (gs_len gs_len0))))))
    (dss_cons (ds_if (dt_not (dt_truth rfl (de_call (takes_of rfl rfl rfl rfl) (ok_is_tuple T) (hr.mono (by decide)) (by rfl) T.m_is_tuple T.F_is_tuple.kp T.b_is_tuple (da_cons (de_var 5) (da_cons de_int (da_cons de_int da_nil)))))) (dss_one ds_never) dss_nil)
    (dss_cons (ds_set 6 sc_check_methods.nd (de_lst da_nil))
    (dss_one (ds_for (f := 4096) (passes_of rfl) rfl (di_enum rfl (by rfl) T.z_enumerate (da_cons (de_var 5) da_nil)) (dg_tup rfl rfl (dgs_cons (dg_name 7 sc_check_methods.nd) (dgs_cons (dg_name 8 sc_check_methods.nd) dgs_nil)) (gs_len (gs_len gs_len0))) (dss_cons (ds_if (dt_not (dt_truth rfl (de_call (takes_of rfl rfl rfl rfl) (ok_is_method T) (hr.mono (by decide)) (by rfl) T.m_is_method T.F_is_method.kp T.b_is_method (da_cons (de_var 0) (da_cons (de_var 4) (da_cons (de_var 6) (da_cons (de_var 8) (da_cons (de_var 2) da_nil)))))))) (dss_one ds_never) dss_nil)
    (dss_one (ds_expr (de_append rfl (de_var 6) (da_cons (de_ix rfl hr.units (de_var 8) de_int) da_nil))))))))))
def d_check_code : DenS :=
  (sSeq (sAsg (dSl (dBin fIx (dBin fIx (dBin fIx (dVar 0) (dVar 1)) (dC (.int 3))) (dVar 2)) (oSome (dC (.int 3))) oNone) (gT (gsCons (gN 3) (gsCons (gN 4) gsNil))))
  (sSeq (sIf (bNot (bTru (dCall D_is_tuple (aCons (dVar 3) (aCons (dC (.int 1)) (aCons (dC (.int 20)) aNil)))))) sNever sNil)
  (sSeq (sAsg (dCall D_bad_step (aCons (dVar 0) (aCons (dVar 3) aNil))) (gN 5))
  (sSeq (sIf (bCmp fIsNot (dVar 5) (dC .non)) sNever sNil)
  (sSeq (sIf (bNot (bTru (dCall D_is_tuple (aCons (dVar 4) (aCons (dC (.int 0)) (aCons (dC (.int 4)) aNil)))))) sNever sNil)
  (sSeq (sAsg (dCall D_bad_handler (aCons (dVar 0) (aCons (dCall fLen (aCons (dVar 3) aNil)) (aCons (dVar 4) aNil)))) (gN 6))
  (sIf (bCmp fIsNot (dVar 6) (dC .non)) sNever sNil)))))))
def D_check_code : FnM := mkFn (List.length (["classes", "index", "place"] : List Str)) (List.length n_check_code) d_check_code
theorem ok_check_code {P : Program} {w : World} {K : PySem.W.Frag} {mg : Str → Option Value} {base : Heap} (T : Txt K mg w) : FnOk P w K mg base (L2.CX P w) 8 T.f_check_code T.d_check_code ["classes", "index", "place"] (spF (GG T) D_check_code) :=
  fn_ok (N := n_check_code) (ps := ["classes", "index", "place"]) (k := 7) (G := GG T) (body := d_check_code) T.F_check_code sc_check_code fun cdv A outer s H E hr => by
  unfold d_check_code
  exact (dss_cons (ds_asg (de_sl rfl (de_ix rfl hr.units (de_ix rfl hr.units (de_ix rfl hr.units (de_var 0) (de_var 1)) de_int) (de_var 2)) (do_some de_int) do_none) (dg_tup rfl rfl (dgs_cons (dg_name 3 sc_check_code.nd) (dgs_cons (dg_name 4 sc_check_code.nd) dgs_nil)) (gs_len (gs_len gs_len0))))
    (dss_cons (ds_if (dt_not (dt_truth rfl (de_call (takes_of rfl rfl rfl rfl) (ok_is_tuple T) (hr.mono (by decide)) (by rfl) T.m_is_tuple T.F_is_tuple.kp T.b_is_tuple (da_cons (de_var 3) (da_cons de_int (da_cons de_int da_nil)))))) (dss_one ds_never) dss_nil)
    (dss_cons (ds_set 5 sc_check_code.nd (de_call (takes_of rfl rfl rfl rfl) (ok_bad_step T) (hr.mono (by decide)) (by rfl) T.m_bad_step T.F_bad_step.kp T.b_bad_step (da_cons (de_var 0) (da_cons (de_var 3) da_nil))))
    (dss_cons (ds_if (dt_cmp cmp_isNot (de_var 5) de_non (nomark _)) (dss_one ds_never) dss_nil)
    (dss_cons (ds_if (dt_not (dt_truth rfl (de_call (takes_of rfl rfl rfl rfl) (ok_is_tuple T) (hr.mono (by decide)) (by rfl) T.m_is_tuple T.F_is_tuple.kp T.b_is_tuple (da_cons (de_var 4) (da_cons de_int (da_cons de_int da_nil)))))) (dss_one ds_never) dss_nil)
    (dss_cons (ds_set 6 sc_check_code.nd (de_call (takes_of rfl rfl rfl rfl) (ok_bad_handler T) (hr.mono (by decide)) (by rfl) T.m_bad_handler T.F_bad_handler.kp T.b_bad_handler (da_cons (de_var 0) (da_cons (de_len rfl (by rfl) T.z_len (da_cons (de_var 3) da_nil)) (da_cons (de_var 4) da_nil)))))
    (dss_one (ds_if (dt_cmp cmp_isNot (de_var 6) de_non (nomark _)) (dss_one ds_never) dss_nil))))))))
def d_check_shells : DenS :=
  (sSeq (sExpr (dCall D_check_names (aCons (dVar 0) aNil)))
  (sFor 4096 (iRng enumOf (aCons (dVar 0) aNil)) (gT (gsCons (gN 2) (gsCons (gN 3) gsNil))) (sSeq (sIf (bNot (bTru (dCall D_are_fields (aCons (dVar 0) (aCons (dBin fIx (dVar 3) (dC (.int 1))) (aCons (dBin fIx (dVar 3) (dC (.int 2))) aNil)))))) sNever sNil)
  (sExpr (dCall D_check_methods (aCons (dVar 0) (aCons (dVar 2) (aCons (dVar 1) aNil))))))))
def D_check_shells : FnM := mkFn (List.length (["classes", "parts"] : List Str)) (List.length n_check_shells) d_check_shells
theorem ok_check_shells {P : Program} {w : World} {K : PySem.W.Frag} {mg : Str → Option Value} {base : Heap} (T : Txt K mg w) : FnOk P w K mg base (L2.CX P w) 7 T.f_check_shells T.d_check_shells ["classes", "parts"] (spF (GG T) D_check_shells) :=
  fn_ok (N := n_check_shells) (ps := ["classes", "parts"]) (k := 6) (G := GG T) (body := d_check_shells) T.F_check_shells sc_check_shells fun cdv A outer s H E hr => by
  unfold d_check_shells
  exact (dss_cons (ds_expr (de_call (takes_of rfl rfl rfl rfl) (ok_check_names T) (hr.mono (by decide)) (by rfl) T.m_check_names T.F_check_names.kp T.b_check_names (da_cons (de_var 0) da_nil)))
    (dss_one (ds_for (f := 4096) (passes_of rfl) rfl (di_enum rfl (by rfl) T.z_enumerate (da_cons (de_var 0) da_nil)) (dg_tup rfl rfl (dgs_cons (dg_name 2 sc_check_shells.nd) (dgs_cons (dg_name 3 sc_check_shells.nd) dgs_nil)) (gs_len (gs_len gs_len0))) (dss_cons (ds_if (dt_not (dt_truth rfl (de_call (takes_of rfl rfl rfl rfl) (ok_are_fields T) (hr.mono (by decide)) (by rfl) T.m_are_fields T.F_are_fields.kp T.b_are_fields (da_cons (de_var 0) (da_cons (de_ix rfl hr.units (de_var 3) de_int) (da_cons (de_ix rfl hr.units (de_var 3) de_int) da_nil)))))) (dss_one ds_never) dss_nil)
    (dss_one (ds_expr (de_call (takes_of rfl rfl rfl rfl) (ok_check_methods T) (hr.mono (by decide)) (by rfl) T.m_check_methods T.F_check_methods.kp T.b_check_methods (da_cons (de_var 0) (da_cons (de_var 2) (da_cons (de_var 1) da_nil))))))))))
def d_check_classes : DenS :=
  (sSeq (sExpr (dCall D_check_shells (aCons (dVar 0) (aCons (dC (.int 5)) aNil))))
  (sFor 4096 (iRng enumOf (aCons (dVar 0) aNil)) (gT (gsCons (gN 1) (gsCons (gN 2) gsNil))) (sFor 4096 (iRng rng1 (aCons (dCall fLen (aCons (dBin fIx (dVar 2) (dC (.int 3))) aNil)) aNil)) (gN 3) (sExpr (dCall D_check_code (aCons (dVar 0) (aCons (dVar 1) (aCons (dVar 3) aNil))))))))
def D_check_classes : FnM := mkFn (List.length (["classes"] : List Str)) (List.length n_check_classes) d_check_classes
theorem ok_check_classes {P : Program} {w : World} {K : PySem.W.Frag} {mg : Str → Option Value} {base : Heap} (T : Txt K mg w) : FnOk P w K mg base (L2.CX P w) 9 T.f_check_classes T.d_check_classes ["classes"] (spF (GG T) D_check_classes) :=
  fn_ok (N := n_check_classes) (ps := ["classes"]) (k := 8) (G := GG T) (body := d_check_classes) T.F_check_classes sc_check_classes fun cdv A outer s H E hr => by
  unfold d_check_classes
  exact (dss_cons (ds_expr (de_call (takes_of rfl rfl rfl rfl) (ok_check_shells T) (hr.mono (by decide)) (by rfl) T.m_check_shells T.F_check_shells.kp T.b_check_shells (da_cons (de_var 0) (da_cons de_int da_nil))))
    (dss_one (ds_for (f := 4096) (passes_of rfl) rfl (di_enum rfl (by rfl) T.z_enumerate (da_cons (de_var 0) da_nil)) (dg_tup rfl rfl (dgs_cons (dg_name 1 sc_check_classes.nd) (dgs_cons (dg_name 2 sc_check_classes.nd) dgs_nil)) (gs_len (gs_len gs_len0))) (dss_one (ds_for (f := 4096) (passes_of rfl) rfl (di_rng1 (by rfl) T.z_range (da_cons (de_len rfl (by rfl) T.z_len (da_cons (de_ix rfl hr.units (de_var 2) de_int) da_nil)) da_nil)) (dg_name 3 sc_check_classes.nd) (dss_one (ds_expr (de_call (takes_of rfl rfl rfl rfl) (ok_check_code T) (hr.mono (by decide)) (by rfl) T.m_check_code T.F_check_code.kp T.b_check_code (da_cons (de_var 0) (da_cons (de_var 1) (da_cons (de_var 3) da_nil)))))))))))
def d_House___init__ : DenS :=
  (sSeq (sExpr (dCall D_check_classes (aCons (dVar 1) aNil)))
  (sFldM "House" "_classes" (dVar 0) (dVar 1)))
def D_House___init__ : FnM := mkFn (List.length (["self", "classes"] : List Str)) (List.length n_House___init__) d_House___init__
theorem ok_House___init__ {P : Program} {w : World} {K : PySem.W.Frag} {mg : Str → Option Value} {base : Heap} (T : Txt K mg w) : FnOk P w K mg base (L2.CX P w) 10 T.f_House___init__ T.d_House___init__ ["self", "classes"] (spF (GG T) D_House___init__) :=
  fn_ok (N := n_House___init__) (ps := ["self", "classes"]) (k := 9) (G := GG T) (body := d_House___init__) T.F_House___init__ sc_House___init__ fun cdv A outer s H E hr => by
  unfold d_House___init__
  exact (dss_cons (ds_expr (de_call (takes_of rfl rfl rfl rfl) (ok_check_classes T) (hr.mono (by decide)) (by rfl) T.m_check_classes T.F_check_classes.kp T.b_check_classes (da_cons (de_var 1) da_nil)))
    (dss_one (ds_fld (cn := "House") rfl (ct_House T) T.cl_House T.na_House__classes (de_var 0) (de_var 1))))
def d_House_classes : DenS :=
  (sRet (dUn (fFld "House" "_classes") (dVar 0)))
def D_House_classes : FnM := mkFn (List.length (["self"] : List Str)) (List.length n_House_classes) d_House_classes
theorem ok_House_classes {P : Program} {w : World} {K : PySem.W.Frag} {mg : Str → Option Value} {base : Heap} (T : Txt K mg w) : FnOk P w K mg base (L2.CX P w) 1 T.f_House_classes T.d_House_classes ["self"] (spF (GG T) D_House_classes) :=
  fn_ok (N := n_House_classes) (ps := ["self"]) (k := 0) (G := GG T) (body := d_House_classes) T.F_House_classes sc_House_classes fun cdv A outer s H E hr => by
  unfold d_House_classes
  exact (dss_one (ds_ret (de_fld (cn := "House") rfl (ct_House T) T.cl_House T.na_House__classes (de_var 0))))
def d_check_house : DenS :=
  (sIf (bNot (bTru (dUn (fIsOwn "House") (dVar 0)))) sNever sNil)
def D_check_house : FnM := mkFn (List.length (["house"] : List Str)) (List.length n_check_house) d_check_house
theorem ok_check_house {P : Program} {w : World} {K : PySem.W.Frag} {mg : Str → Option Value} {base : Heap} (T : Txt K mg w) : FnOk P w K mg base (L2.CX P w) 1 T.f_check_house T.d_check_house ["house"] (spF (GG T) D_check_house) :=
  fn_ok (N := n_check_house) (ps := ["house"]) (k := 0) (G := GG T) (body := d_check_house) T.F_check_house sc_check_house fun cdv A outer s H E hr => by
  unfold d_check_house
  exact (dss_one (ds_if (dt_not (dt_truth rfl (de_isOwn (cn := "House") rfl (ct_House T) T.oc_House (by rfl) T.z_isinstance (by rfl) T.m_House (de_var 0)))) (dss_one ds_never) dss_nil))
def d_check_name : DenS :=
  (sSeq (sExpr (dCall D_check_house (aCons (dVar 0) aNil)))
  (sIf (bNot (bTru (dCall D_is_class (aCons (dUn (fProp "House" D_House_classes) (dVar 0)) (aCons (dVar 1) aNil))))) sNever sNil))
def D_check_name : FnM := mkFn (List.length (["house", "name"] : List Str)) (List.length n_check_name) d_check_name
theorem ok_check_name {P : Program} {w : World} {K : PySem.W.Frag} {mg : Str → Option Value} {base : Heap} (T : Txt K mg w) : FnOk P w K mg base (L2.CX P w) 3 T.f_check_name T.d_check_name ["house", "name"] (spF (GG T) D_check_name) :=
  fn_ok (N := n_check_name) (ps := ["house", "name"]) (k := 2) (G := GG T) (body := d_check_name) T.F_check_name sc_check_name fun cdv A outer s H E hr => by
  unfold d_check_name
  exact (dss_cons (ds_expr (de_call (takes_of rfl rfl rfl rfl) (ok_check_house T) (hr.mono (by decide)) (by rfl) T.m_check_house T.F_check_house.kp T.b_check_house (da_cons (de_var 0) da_nil)))
    (dss_one (ds_if (dt_not (dt_truth rfl (de_call (takes_of rfl rfl rfl rfl) (ok_is_class T) (hr.mono (by decide)) (by rfl) T.m_is_class T.F_is_class.kp T.b_is_class (da_cons (de_prop (cn := "House") rfl (ct_House T) T.cl_House T.pr_House_classes (ok_House_classes T) (hr.mono (by decide)) T.b_House_classes (de_var 0)) (da_cons (de_var 1) da_nil))))) (dss_one ds_never) dss_nil)))
def d_fields_of : DenS :=
  (sSeq (sExpr (dCall D_check_name (aCons (dVar 0) (aCons (dVar 1) aNil))))
  (sRet (dCall D_fields_up (aCons (dUn (fProp "House" D_House_classes) (dVar 0)) (aCons (dVar 1) aNil)))))
def D_fields_of : FnM := mkFn (List.length (["house", "name"] : List Str)) (List.length n_fields_of) d_fields_of
theorem ok_fields_of {P : Program} {w : World} {K : PySem.W.Frag} {mg : Str → Option Value} {base : Heap} (T : Txt K mg w) : FnOk P w K mg base (L2.CX P w) 4 T.f_fields_of T.d_fields_of ["house", "name"] (spF (GG T) D_fields_of) :=
  fn_ok (N := n_fields_of) (ps := ["house", "name"]) (k := 3) (G := GG T) (body := d_fields_of) T.F_fields_of sc_fields_of fun cdv A outer s H E hr => by
  unfold d_fields_of
  exact (dss_cons (ds_expr (de_call (takes_of rfl rfl rfl rfl) (ok_check_name T) (hr.mono (by decide)) (by rfl) T.m_check_name T.F_check_name.kp T.b_check_name (da_cons (de_var 0) (da_cons (de_var 1) da_nil))))
    (dss_one (ds_ret (de_call (takes_of rfl rfl rfl rfl) (ok_fields_up T) (hr.mono (by decide)) (by rfl) T.m_fields_up T.F_fields_up.kp T.b_fields_up (da_cons (de_prop (cn := "House") rfl (ct_House T) T.cl_House T.pr_House_classes (ok_House_classes T) (hr.mono (by decide)) T.b_House_classes (de_var 0)) (da_cons (de_var 1) da_nil))))))
def d__law_taken : DenS :=
  (sSeq (sIf (bCmp fGt (dBin fIx (dVar 0) (dC (.int 3))) (dC (.int 0))) (sSeq (sAsg (dBin fMod (dCall fIntOf (aCons (dBin fIx (dVar 0) (dC (.int 3))) aNil)) (dVar 1)) (gN 3))
  (sSeq (sAsg (dBin fDiv (dBin fIx (dVar 0) (dC (.int 3))) (dVar 1)) (gS (dVar 0) (dC (.int 3))))
  (sRet (dVar 3)))) sNil)
  (sSeq (sAsg (dBin fAdd (dBin fIx (dVar 0) (dC (.int 1))) (dC (.int 1))) (gS (dVar 0) (dC (.int 1))))
  (sSeq (sIf (bCmp fGt (dBin fIx (dVar 0) (dC (.int 1))) (dCall fLen (aCons (dBin fIx (dVar 0) (dC (.int 0))) aNil))) (sSeq (sAsg (dBin fMod (dCall fIntOf (aCons (dBin fAdd (dBin fMul (dBin fIx (dVar 0) (dC (.int 2))) (dC (.int 48271))) (dC (.int 11))) aNil)) (dC (.int 2147483647))) (gS (dVar 0) (dC (.int 2))))
  (sRet (dBin fMod (dCall fIntOf (aCons (dBin fDiv (dBin fIx (dVar 0) (dC (.int 2))) (dC (.int 7))) aNil)) (dVar 1)))) sNil)
  (sSeq (sAsg (dBin fIx (dBin fIx (dVar 0) (dC (.int 0))) (dBin fSub (dBin fIx (dVar 0) (dC (.int 1))) (dC (.int 1)))) (gN 2))
  (sSeq (sAsg (dBin fMod (dCall fIntOf (aCons (dBin fAdd (dBin fAdd (dBin fMul (dBin fIx (dVar 0) (dC (.int 2))) (dC (.int 48271))) (dVar 2)) (dC (.int 11))) aNil)) (dC (.int 2147483647))) (gS (dVar 0) (dC (.int 2))))
  (sSeq (sIf (bCmp fGe (dVar 2) (dBin fPow (dC (.int 10)) (dC (.int 18)))) (sAsg (dBin fDiv (dVar 2) (dVar 1)) (gS (dVar 0) (dC (.int 3)))) sNil)
  (sRet (dBin fMod (dCall fIntOf (aCons (dVar 2) aNil)) (dVar 1)))))))))
def D__law_taken : FnM := mkFn (List.length (["row", "many"] : List Str)) (List.length n__law_taken) d__law_taken
theorem ok__law_taken {P : Program} {w : World} {K : PySem.W.Frag} {mg : Str → Option Value} {base : Heap} (T : Txt K mg w) : FnOk P w K mg base (L2.CX P w) 1 T.f__law_taken T.d__law_taken ["row", "many"] (spF (GG T) D__law_taken) :=
  fn_ok (N := n__law_taken) (ps := ["row", "many"]) (k := 0) (G := GG T) (body := d__law_taken) T.F__law_taken sc__law_taken fun cdv A outer s H E hr => by
  unfold d__law_taken
  exact (dss_cons (ds_if (dt_cmp cmp_gt (de_ix rfl hr.units (de_var 0) de_int) de_int (nomark _)) (dss_cons (ds_set 3 sc__law_taken.nd (de_mod (de_intOf (by rfl) T.z_int (da_cons (de_ix rfl hr.units (de_var 0) de_int) da_nil)) (de_var 1)))
    (dss_cons (ds_asg (de_div (de_ix rfl hr.units (de_var 0) de_int) (de_var 1)) (dg_sub (W := fun _ _ _ _ => False) hr.units (de_var 0) de_int))
    (dss_one (ds_ret (de_var 3))))) dss_nil)
    (dss_cons (ds_asg (de_add rfl (de_ix rfl hr.units (de_var 0) de_int) de_int) (dg_sub (W := fun _ _ _ _ => False) hr.units (de_var 0) de_int))
    (dss_cons (ds_if (dt_cmp cmp_gt (de_ix rfl hr.units (de_var 0) de_int) (de_len rfl (by rfl) T.z_len (da_cons (de_ix rfl hr.units (de_var 0) de_int) da_nil)) (nomark _)) (dss_cons (ds_asg (de_mod (de_intOf (by rfl) T.z_int (da_cons (de_add rfl (de_mul rfl (de_ix rfl hr.units (de_var 0) de_int) de_int) de_int) da_nil)) de_int) (dg_sub (W := fun _ _ _ _ => False) hr.units (de_var 0) de_int))
    (dss_one (ds_ret (de_mod (de_intOf (by rfl) T.z_int (da_cons (de_div (de_ix rfl hr.units (de_var 0) de_int) de_int) da_nil)) (de_var 1))))) dss_nil)
    (dss_cons (ds_set 2 sc__law_taken.nd (de_ix rfl hr.units (de_ix rfl hr.units (de_var 0) de_int) (de_sub (de_ix rfl hr.units (de_var 0) de_int) de_int)))
    (dss_cons (ds_asg (de_mod (de_intOf (by rfl) T.z_int (da_cons (de_add rfl (de_add rfl (de_mul rfl (de_ix rfl hr.units (de_var 0) de_int) de_int) (de_var 2)) de_int) da_nil)) de_int) (dg_sub (W := fun _ _ _ _ => False) hr.units (de_var 0) de_int))
    (dss_cons (ds_if (dt_cmp cmp_ge (de_var 2) (de_pow de_int de_int) (nomark _)) (dss_one (ds_asg (de_div (de_var 2) (de_var 1)) (dg_sub (W := fun _ _ _ _ => False) hr.units (de_var 0) de_int))) dss_nil)
    (dss_one (ds_ret (de_mod (de_intOf (by rfl) T.z_int (da_cons (de_var 2) da_nil)) (de_var 1))))))))))
def d__law_pick : DenS :=
  (sRet (dBin fIx (dVar 1) (dCall D__law_taken (aCons (dVar 0) (aCons (dCall fLen (aCons (dVar 1) aNil)) aNil)))))
def D__law_pick : FnM := mkFn (List.length (["row", "things"] : List Str)) (List.length n__law_pick) d__law_pick
theorem ok__law_pick {P : Program} {w : World} {K : PySem.W.Frag} {mg : Str → Option Value} {base : Heap} (T : Txt K mg w) : FnOk P w K mg base (L2.CX P w) 2 T.f__law_pick T.d__law_pick ["row", "things"] (spF (GG T) D__law_pick) :=
  fn_ok (N := n__law_pick) (ps := ["row", "things"]) (k := 1) (G := GG T) (body := d__law_pick) T.F__law_pick sc__law_pick fun cdv A outer s H E hr => by
  unfold d__law_pick
  exact (dss_one (ds_ret (de_ix rfl hr.units (de_var 1) (de_call (takes_of rfl rfl rfl rfl) (ok__law_taken T) (hr.mono (by decide)) (by rfl) T.m__law_taken T.F__law_taken.kp T.b__law_taken (da_cons (de_var 0) (da_cons (de_len rfl (by rfl) T.z_len (da_cons (de_var 1) da_nil)) da_nil))))))
def d__law_tree : DenS :=
  (sSeq (sPar3 2 3 4 (aCons (dLst (aCons (dC (.str "egg")) (aCons (dC (.str "box")) (aCons (dC (.str "red")) (aCons (dC (.str "blue")) (aCons (dC (.str "cat")) (aCons (dC (.str "dog")) (aCons (dC (.str "sun")) (aCons (dC (.str "moon")) aNil))))))))) (aCons (dCall D__law_taken (aCons (dVar 0) (aCons (dC (.int 3)) aNil))) (aCons (dLst aNil) aNil))))
  (sSeq (sFor 4096 (iRng rng1 (aCons (dVar 1) aNil)) (gN 5) (sSeq (sAsg (dBin fAdd (dLst (aCons (dC (.str "top")) aNil)) (dLc 4096 (iAnyD (dVar 4)) (gN 8) bYes (dBin fIx (dVar 8) (dC (.int 0))) [8])) (gN 6))
  (sSeq (sAsg (dBin fIx (dLst (aCons (dBin fIx (dVar 6) (dUn fNeg (dC (.int 1)))) (aCons (dBin fIx (dVar 6) (dBin fMod (dCall D__law_taken (aCons (dVar 0) (aCons (dC (.int 2)) aNil))) (dCall fLen (aCons (dVar 6) aNil)))) (aCons (dCall D__law_pick (aCons (dVar 0) (aCons (dVar 6) aNil))) aNil)))) (dVar 3)) (gN 7))
  (sExpr (dMet isLst fAppend (dVar 4) (aCons (dTup (aCons (dBin fIx (dVar 2) (dVar 5)) (aCons (dVar 7) aNil))) aNil))))))
  (sRet (dVar 4))))
def D__law_tree : FnM := mkFn (List.length (["row", "many"] : List Str)) (List.length n__law_tree) d__law_tree
theorem ok__law_tree {P : Program} {w : World} {K : PySem.W.Frag} {mg : Str → Option Value} {base : Heap} (T : Txt K mg w) : FnOk P w K mg base (L2.CX P w) 3 T.f__law_tree T.d__law_tree ["row", "many"] (spF (GG T) D__law_tree) :=
  fn_ok (N := n__law_tree) (ps := ["row", "many"]) (k := 2) (G := GG T) (body := d__law_tree) T.F__law_tree sc__law_tree fun cdv A outer s H E hr => by
  unfold d__law_tree
  exact (dss_cons (ds_par3 (i := 2) (j := 3) (l := 4) rfl sc__law_tree.nd rfl rfl rfl (by decide) (by decide) (by decide) rfl rfl rfl (da_cons (de_lst (da_cons de_str (da_cons de_str (da_cons de_str (da_cons de_str (da_cons de_str (da_cons de_str (da_cons de_str (da_cons de_str da_nil))))))))) (da_cons (de_call (takes_of rfl rfl rfl rfl) (ok__law_taken T) (hr.mono (by decide)) (by rfl) T.m__law_taken T.F__law_taken.kp T.b__law_taken (da_cons (de_var 0) (da_cons de_int da_nil))) (da_cons (de_lst da_nil) da_nil))) (by rfl))
    (dss_cons (ds_for (f := 4096) (passes_of rfl) rfl (di_rng1 (by rfl) T.z_range (da_cons (de_var 1) da_nil)) (dg_name 5 sc__law_tree.nd) (dss_cons (ds_set 6 sc__law_tree.nd (de_add rfl (de_lst (da_cons de_str da_nil)) (de_lc (f := 4096) (own := [("told", 8)]) rfl sc__law_tree.nd (di_any rfl (de_var 4)) (blkOk_by (own := [("told", 8)]) (N := n__law_tree) (sc := defScope s__law_tree) (by decide +kernel)) (fun _ _ _ _ _ => (dg_name 8 sc__law_tree.nd)) (fun _ _ _ _ _ => dts_nil) (fun _ _ _ _ _ => (de_ix rfl hr.units (de_var 8) de_int)))))
    (dss_cons (ds_set 7 sc__law_tree.nd (de_ix rfl hr.units (de_lst (da_cons (de_ix rfl hr.units (de_var 6) (de_neg de_int)) (da_cons (de_ix rfl hr.units (de_var 6) (de_mod (de_call (takes_of rfl rfl rfl rfl) (ok__law_taken T) (hr.mono (by decide)) (by rfl) T.m__law_taken T.F__law_taken.kp T.b__law_taken (da_cons (de_var 0) (da_cons de_int da_nil))) (de_len rfl (by rfl) T.z_len (da_cons (de_var 6) da_nil)))) (da_cons (de_call (takes_of rfl rfl rfl rfl) (ok__law_pick T) (hr.mono (by decide)) (by rfl) T.m__law_pick T.F__law_pick.kp T.b__law_pick (da_cons (de_var 0) (da_cons (de_var 6) da_nil))) da_nil)))) (de_var 3)))
    (dss_one (ds_expr (de_append rfl (de_var 4) (da_cons (de_tup (da_cons (de_ix rfl hr.units (de_var 2) (de_var 5)) (da_cons (de_var 7) da_nil))) da_nil)))))))
    (dss_one (ds_ret (de_var 4)))))
def d__law_signs : DenS :=
  (sSeq (sAsg (dTup (aCons (dBin fAdd (dLst (aCons (dC (.str "num")) (aCons (dC (.str "num")) (aCons (dC (.str "top")) aNil)))) (dVar 1)) (aCons dDic0 aNil))) (gT (gsCons (gN 2) (gsCons (gN 3) gsNil))))
  (sSeq (sFor 4096 (iAnyD (dLst (aCons (dC (.str "ma")) (aCons (dC (.str "mb")) (aCons (dC (.str "mc")) aNil))))) (gN 4) (sSeq (sAsg (dUn fTupOf (dLc 4096 (iRng rng1 (aCons (dCall D__law_taken (aCons (dVar 0) (aCons (dC (.int 3)) aNil))) aNil)) (gN 6) bYes (dCall D__law_pick (aCons (dVar 0) (aCons (dVar 2) aNil))) [6])) (gN 5))
  (sAsg (dTup (aCons (dVar 5) (aCons (dCall D__law_pick (aCons (dVar 0) (aCons (dVar 2) aNil))) aNil))) (gS (dVar 3) (dVar 4)))))
  (sRet (dVar 3))))
def D__law_signs : FnM := mkFn (List.length (["row", "names"] : List Str)) (List.length n__law_signs) d__law_signs
theorem ok__law_signs {P : Program} {w : World} {K : PySem.W.Frag} {mg : Str → Option Value} {base : Heap} (T : Txt K mg w) : FnOk P w K mg base (L2.CX P w) 3 T.f__law_signs T.d__law_signs ["row", "names"] (spF (GG T) D__law_signs) :=
  fn_ok (N := n__law_signs) (ps := ["row", "names"]) (k := 2) (G := GG T) (body := d__law_signs) T.F__law_signs sc__law_signs fun cdv A outer s H E hr => by
  unfold d__law_signs
  exact (dss_cons (ds_asg (de_tup (da_cons (de_add rfl (de_lst (da_cons de_str (da_cons de_str (da_cons de_str da_nil)))) (de_var 1)) (da_cons de_dic0 da_nil))) (dg_tup rfl rfl (dgs_cons (dg_name 2 sc__law_signs.nd) (dgs_cons (dg_name 3 sc__law_signs.nd) dgs_nil)) (gs_len (gs_len gs_len0))))
    (dss_cons (ds_for (f := 4096) (passes_of rfl) rfl (di_any rfl (de_lst (da_cons de_str (da_cons de_str (da_cons de_str da_nil))))) (dg_name 4 sc__law_signs.nd) (dss_cons (ds_set 5 sc__law_signs.nd (de_tupOf rfl (by rfl) T.z_tuple (de_lc (f := 4096) (own := [("at", 6)]) rfl sc__law_signs.nd (di_rng1 (by rfl) T.z_range (da_cons (de_call (takes_of rfl rfl rfl rfl) (ok__law_taken T) (hr.mono (by decide)) (by rfl) T.m__law_taken T.F__law_taken.kp T.b__law_taken (da_cons (de_var 0) (da_cons de_int da_nil))) da_nil)) (blkOk_by (own := [("at", 6)]) (N := n__law_signs) (sc := defScope s__law_signs) (by decide +kernel)) (fun _ _ _ _ _ => (dg_name 6 sc__law_signs.nd)) (fun _ _ _ _ _ => dts_nil) (fun _ _ _ _ _ => (de_call takes0 (ok__law_pick T) (hr.mono (by decide)) (by rfl) T.m__law_pick T.F__law_pick.kp T.b__law_pick (da_cons (de_var 0) (da_cons (de_var 2) da_nil)))))))
    (dss_one (ds_asg (de_tup (da_cons (de_var 5) (da_cons (de_call (takes_of rfl rfl rfl rfl) (ok__law_pick T) (hr.mono (by decide)) (by rfl) T.m__law_pick T.F__law_pick.kp T.b__law_pick (da_cons (de_var 0) (da_cons (de_var 2) da_nil))) da_nil))) (dg_sub (W := fun _ _ _ _ => False) hr.units (de_var 3) (de_var 4))))))
    (dss_one (ds_ret (de_var 3)))))
def d__law_bare : DenS :=
  (sSeq (sAsg (dCall D__law_tree (aCons (dVar 0) (aCons (dBin fAdd (dC (.int 1)) (dCall D__law_taken (aCons (dVar 0) (aCons (dVar 1) aNil)))) aNil))) (gN 2))
  (sSeq (sPar3 3 4 5 (aCons (dLc 4096 (iAnyD (dVar 2)) (gN 12) bYes (dBin fIx (dVar 12) (dC (.int 0))) [12]) (aCons (dLst aNil) (aCons (dC (.int 0)) aNil))))
  (sSeq (sAsg (dCall D__law_signs (aCons (dVar 0) (aCons (dVar 3) aNil))) (gN 6))
  (sSeq (sFor 4096 (iAnyD (dVar 2)) (gT (gsCons (gN 7) (gsCons (gN 8) gsNil))) (sSeq (sAsg (dLst aNil) (gN 9))
  (sSeq (sFor 4096 (iRng rng1 (aCons (dCall D__law_taken (aCons (dVar 0) (aCons (dC (.int 3)) aNil))) aNil)) (gN 10) (sSeq (sExpr (dMet isLst fAppend (dVar 9) (aCons (dTup (aCons (dBin fAdd (dC (.str "f")) (dBin fIx (dC (.str "abcdefghijklmnopqrstuvwx")) (dVar 5))) (aCons (dCall D__law_pick (aCons (dVar 0) (aCons (dBin fAdd (dLst (aCons (dC (.str "num")) (aCons (dC (.str "num")) (aCons (dC (.str "top")) aNil)))) (dVar 3)) aNil))) aNil))) aNil)))
  (sAsg (dBin fAdd (dVar 5) (dC (.int 1))) (gN 5))))
  (sSeq (sAsg (dLc 4096 (iAnyD (dLst (aCons (dC (.str "ma")) (aCons (dC (.str "mb")) (aCons (dC (.str "mc")) aNil))))) (gN 13) (bCmp fEq (dCall D__law_taken (aCons (dVar 0) (aCons (dC (.int 2)) aNil))) (dC (.int 0))) (dBin fAdd (dTup (aCons (dVar 13) aNil)) (dBin fIx (dVar 6) (dVar 13))) [13]) (gN 11))
  (sExpr (dMet isLst fAppend (dVar 4) (aCons (dTup (aCons (dVar 7) (aCons (dVar 8) (aCons (dUn fTupOf (dVar 9)) (aCons (dUn fTupOf (dVar 11)) aNil))))) aNil)))))))
  (sRet (dVar 4))))))
def D__law_bare : FnM := mkFn (List.length (["row", "most"] : List Str)) (List.length n__law_bare) d__law_bare
theorem ok__law_bare {P : Program} {w : World} {K : PySem.W.Frag} {mg : Str → Option Value} {base : Heap} (T : Txt K mg w) : FnOk P w K mg base (L2.CX P w) 4 T.f__law_bare T.d__law_bare ["row", "most"] (spF (GG T) D__law_bare) :=
  fn_ok (N := n__law_bare) (ps := ["row", "most"]) (k := 3) (G := GG T) (body := d__law_bare) T.F__law_bare sc__law_bare fun cdv A outer s H E hr => by
  unfold d__law_bare
  exact (dss_cons (ds_set 2 sc__law_bare.nd (de_call (takes_of rfl rfl rfl rfl) (ok__law_tree T) (hr.mono (by decide)) (by rfl) T.m__law_tree T.F__law_tree.kp T.b__law_tree (da_cons (de_var 0) (da_cons (de_add rfl de_int (de_call (takes_of rfl rfl rfl rfl) (ok__law_taken T) (hr.mono (by decide)) (by rfl) T.m__law_taken T.F__law_taken.kp T.b__law_taken (da_cons (de_var 0) (da_cons (de_var 1) da_nil)))) da_nil))))
    (dss_cons (ds_par3 (i := 3) (j := 4) (l := 5) rfl sc__law_bare.nd rfl rfl rfl (by decide) (by decide) (by decide) rfl rfl rfl (da_cons (de_lc (f := 4096) (own := [("told", 12)]) rfl sc__law_bare.nd (di_any rfl (de_var 2)) (blkOk_by (own := [("told", 12)]) (N := n__law_bare) (sc := defScope s__law_bare) (by decide +kernel)) (fun _ _ _ _ _ => (dg_name 12 sc__law_bare.nd)) (fun _ _ _ _ _ => dts_nil) (fun _ _ _ _ _ => (de_ix rfl hr.units (de_var 12) de_int))) (da_cons (de_lst da_nil) (da_cons de_int da_nil))) (by rfl))
    (dss_cons (ds_set 6 sc__law_bare.nd (de_call (takes_of rfl rfl rfl rfl) (ok__law_signs T) (hr.mono (by decide)) (by rfl) T.m__law_signs T.F__law_signs.kp T.b__law_signs (da_cons (de_var 0) (da_cons (de_var 3) da_nil))))
    (dss_cons (ds_for (f := 4096) (passes_of rfl) rfl (di_any rfl (de_var 2)) (dg_tup rfl rfl (dgs_cons (dg_name 7 sc__law_bare.nd) (dgs_cons (dg_name 8 sc__law_bare.nd) dgs_nil)) (gs_len (gs_len gs_len0))) (dss_cons (ds_set 9 sc__law_bare.nd (de_lst da_nil))
    (dss_cons (ds_for (f := 4096) (passes_of rfl) rfl (di_rng1 (by rfl) T.z_range (da_cons (de_call (takes_of rfl rfl rfl rfl) (ok__law_taken T) (hr.mono (by decide)) (by rfl) T.m__law_taken T.F__law_taken.kp T.b__law_taken (da_cons (de_var 0) (da_cons de_int da_nil))) da_nil)) (dg_name 10 sc__law_bare.nd) (dss_cons (ds_expr (de_append rfl (de_var 9) (da_cons (de_tup (da_cons (de_add rfl de_str (de_ix rfl hr.units de_str (de_var 5))) (da_cons (de_call (takes_of rfl rfl rfl rfl) (ok__law_pick T) (hr.mono (by decide)) (by rfl) T.m__law_pick T.F__law_pick.kp T.b__law_pick (da_cons (de_var 0) (da_cons (de_add rfl (de_lst (da_cons de_str (da_cons de_str (da_cons de_str da_nil)))) (de_var 3)) da_nil))) da_nil))) da_nil)))
    (dss_one (ds_set 5 sc__law_bare.nd (de_add rfl (de_var 5) de_int)))))
    (dss_cons (ds_setLc 11 (f := 4096) (own := [("word", 13)]) rfl sc__law_bare.nd (di_any rfl (de_lst (da_cons de_str (da_cons de_str (da_cons de_str da_nil))))) (blkOk_by (own := [("word", 13)]) (N := n__law_bare) (sc := defScope s__law_bare) (by decide +kernel)) (fun _ _ _ _ _ => (dg_name 13 sc__law_bare.nd)) (fun _ _ _ _ _ => (dts_one (dt_cmp (cmp_eq rfl hr.units) (de_call takes0 (ok__law_taken T) (hr.mono (by decide)) (by rfl) T.m__law_taken T.F__law_taken.kp T.b__law_taken (da_cons (de_var 0) (da_cons de_int da_nil))) de_int (nomark _)))) (fun _ _ _ _ _ => (de_add rfl (de_tup (da_cons (de_var 13) da_nil)) (de_ix rfl hr.units (de_var 6) (de_var 13)))) (sw_true rfl rfl rfl (by decide +kernel)))
    (dss_one (ds_expr (de_append rfl (de_var 4) (da_cons (de_tup (da_cons (de_var 7) (da_cons (de_var 8) (da_cons (de_tupOf rfl (by rfl) T.z_tuple (de_var 9)) (da_cons (de_tupOf rfl (by rfl) T.z_tuple (de_var 11)) da_nil))))) da_nil))))))))
    (dss_one (ds_ret (de_var 4)))))))
def d__law_row_of : DenS :=
  (sSeq (sAsg (dLst aNil) (gN 2))
  (sSeq (sFor 4096 (iAnyD (dUn fBack (dVar 0))) (gN 3) (sIf (bCmp fEq (dBin fIx (dVar 3) (dC (.int 0))) (dVar 1)) (sSeq (sExpr (dMet isLst fAppend (dVar 2) (aCons (dVar 3) aNil)))
  (sAsg (dBin fIx (dVar 3) (dC (.int 1))) (gN 1))) sNil))
  (sRet (dVar 2))))
def D__law_row_of : FnM := mkFn (List.length (["classes", "name"] : List Str)) (List.length n__law_row_of) d__law_row_of
theorem ok__law_row_of {P : Program} {w : World} {K : PySem.W.Frag} {mg : Str → Option Value} {base : Heap} (T : Txt K mg w) : FnOk P w K mg base (L2.CX P w) 1 T.f__law_row_of T.d__law_row_of ["classes", "name"] (spF (GG T) D__law_row_of) :=
  fn_ok (N := n__law_row_of) (ps := ["classes", "name"]) (k := 0) (G := GG T) (body := d__law_row_of) T.F__law_row_of sc__law_row_of fun cdv A outer s H E hr => by
  unfold d__law_row_of
  exact (dss_cons (ds_set 2 sc__law_row_of.nd (de_lst da_nil))
    (dss_cons (ds_for (f := 4096) (passes_of rfl) rfl (di_any rfl (de_back rfl (de_var 0))) (dg_name 3 sc__law_row_of.nd) (dss_one (ds_if (dt_cmp (cmp_eq rfl hr.units) (de_ix rfl hr.units (de_var 3) de_int) (de_var 1) (nomark _)) (dss_cons (ds_expr (de_append rfl (de_var 2) (da_cons (de_var 3) da_nil)))
    (dss_one (ds_set 1 sc__law_row_of.nd (de_ix rfl hr.units (de_var 3) de_int)))) dss_nil)))
    (dss_one (ds_ret (de_var 2)))))
def d__law_step : DenS :=
  (sSeq (sPar 3 4 (aCons (dBin fAdd (dLst (aCons (dC (.str "top")) aNil)) (dLc 4096 (iAnyD (dVar 1)) (gN 8) bYes (dBin fIx (dVar 8) (dC (.int 0))) [8])) (aCons (dCall D__law_taken (aCons (dVar 0) (aCons (dC (.int 8)) aNil))) aNil)))
  (sSeq (sIf (bCmp fLt (dVar 4) (dC (.int 2))) (sSeq (sAsg (dLst (aCons (dC (.str "none")) (aCons (dC (.str "add")) (aCons (dC (.str "less")) (aCons (dC (.str "same")) (aCons (dC (.str "give")) (aCons (dC (.str "throw")) (aCons (dC (.str "enter")) (aCons (dC (.str "leave")) (aCons (dC (.str "copy")) (aCons (dC (.str "drop")) (aCons (dC (.str "print")) aNil)))))))))))) (gN 7))
  (sRet (dTup (aCons (dCall D__law_pick (aCons (dVar 0) (aCons (dVar 7) aNil))) aNil)))) sNil)
  (sSeq (sIf (bCmp fEq (dVar 4) (dC (.int 2))) (sRet (dTup (aCons (dC (.str "push")) (aCons (dCall D__law_taken (aCons (dVar 0) (aCons (dC (.int 16)) aNil))) aNil)))) sNil)
  (sSeq (sIf (bCmp fEq (dVar 4) (dC (.int 3))) (sRet (dTup (aCons (dCall D__law_pick (aCons (dVar 0) (aCons (dLst (aCons (dC (.str "take")) (aCons (dC (.str "take")) (aCons (dC (.str "keep")) aNil)))) aNil))) (aCons (dCall D__law_taken (aCons (dVar 0) (aCons (dC (.int 4)) aNil))) aNil)))) sNil)
  (sSeq (sIf (bCmp fEq (dVar 4) (dC (.int 4))) (sRet (dTup (aCons (dCall D__law_pick (aCons (dVar 0) (aCons (dLst (aCons (dC (.str "go")) (aCons (dC (.str "if")) (aCons (dC (.str "if")) aNil)))) aNil))) (aCons (dCall D__law_taken (aCons (dVar 0) (aCons (dVar 2) aNil))) aNil)))) sNil)
  (sSeq (sIf (bCmp fEq (dVar 4) (dC (.int 5))) (sRet (dTup (aCons (dCall D__law_pick (aCons (dVar 0) (aCons (dLst (aCons (dC (.str "new")) (aCons (dC (.str "new")) (aCons (dC (.str "cast")) (aCons (dC (.str "is")) aNil))))) aNil))) (aCons (dCall D__law_pick (aCons (dVar 0) (aCons (dVar 3) aNil))) aNil)))) sNil)
  (sSeq (sAsg (dCall D__law_pick (aCons (dVar 0) (aCons (dVar 3) aNil))) (gN 5))
  (sSeq (sPar 6 7 (aCons (dLst aNil) (aCons (dLst aNil) aNil)))
  (sSeq (sFor 4096 (iAnyD (dCall D__law_row_of (aCons (dVar 1) (aCons (dVar 5) aNil)))) (gN 8) (sPar 6 7 (aCons (dBin fAdd (dVar 6) (dLc 4096 (iAnyD (dBin fIx (dVar 8) (dC (.int 2)))) (gN 10) bYes (dBin fIx (dVar 10) (dC (.int 0))) [10])) (aCons (dBin fAdd (dVar 7) (dLc 4096 (iAnyD (dBin fIx (dVar 8) (dC (.int 3)))) (gN 12) bYes (dBin fIx (dVar 12) (dC (.int 0))) [12])) aNil))))
  (sSeq (sAsg (dBin fAdd (dLc 4096 (iAnyD (dVar 6)) (gN 10) bYes (dTup (aCons (dC (.str "get")) (aCons (dVar 5) (aCons (dVar 10) aNil)))) [10]) (dLc 4096 (iAnyD (dVar 6)) (gN 10) bYes (dTup (aCons (dC (.str "put")) (aCons (dVar 5) (aCons (dVar 10) aNil)))) [10])) (gN 9))
  (sSeq (sAsg (dBin fAdd (dVar 9) (dLc 4096 (iAnyD (dVar 7)) (gN 11) bYes (dTup (aCons (dC (.str "call")) (aCons (dVar 5) (aCons (dVar 11) aNil)))) [11])) (gN 9))
  (sRet (dIf (bCmp fNe (dVar 9) (dLst aNil)) (dCall D__law_pick (aCons (dVar 0) (aCons (dVar 9) aNil))) (dTup (aCons (dC (.str "push")) (aCons (dCall D__law_taken (aCons (dVar 0) (aCons (dC (.int 3)) aNil))) aNil))))))))))))))))
def D__law_step : FnM := mkFn (List.length (["row", "classes", "size"] : List Str)) (List.length n__law_step) d__law_step
theorem ok__law_step {P : Program} {w : World} {K : PySem.W.Frag} {mg : Str → Option Value} {base : Heap} (T : Txt K mg w) : FnOk P w K mg base (L2.CX P w) 3 T.f__law_step T.d__law_step ["row", "classes", "size"] (spF (GG T) D__law_step) :=
  fn_ok (N := n__law_step) (ps := ["row", "classes", "size"]) (k := 2) (G := GG T) (body := d__law_step) T.F__law_step sc__law_step fun cdv A outer s H E hr => by
  unfold d__law_step
  exact (dss_cons (ds_par (i := 3) (j := 4) rfl sc__law_step.nd rfl rfl (by decide) rfl rfl (da_cons (de_add rfl (de_lst (da_cons de_str da_nil)) (de_lc (f := 4096) (own := [("told", 8)]) rfl sc__law_step.nd (di_any rfl (de_var 1)) (blkOk_by (own := [("told", 8)]) (N := n__law_step) (sc := defScope s__law_step) (by decide +kernel)) (fun _ _ _ _ _ => (dg_name 8 sc__law_step.nd)) (fun _ _ _ _ _ => dts_nil) (fun _ _ _ _ _ => (de_ix rfl hr.units (de_var 8) de_int)))) (da_cons (de_call (takes_of rfl rfl rfl rfl) (ok__law_taken T) (hr.mono (by decide)) (by rfl) T.m__law_taken T.F__law_taken.kp T.b__law_taken (da_cons (de_var 0) (da_cons de_int da_nil))) da_nil)) (by rfl))
    (dss_cons (ds_if (dt_cmp cmp_lt (de_var 4) de_int (nomark _)) (dss_cons (ds_set 7 sc__law_step.nd (de_lst (da_cons de_str (da_cons de_str (da_cons de_str (da_cons de_str (da_cons de_str (da_cons de_str (da_cons de_str (da_cons de_str (da_cons de_str (da_cons de_str (da_cons de_str da_nil)))))))))))))
    (dss_one (ds_ret (de_tup (da_cons (de_call (takes_of rfl rfl rfl rfl) (ok__law_pick T) (hr.mono (by decide)) (by rfl) T.m__law_pick T.F__law_pick.kp T.b__law_pick (da_cons (de_var 0) (da_cons (de_var 7) da_nil))) da_nil))))) dss_nil)
    (dss_cons (ds_if (dt_cmp (cmp_eq rfl hr.units) (de_var 4) de_int (nomark _)) (dss_one (ds_ret (de_tup (da_cons de_str (da_cons (de_call (takes_of rfl rfl rfl rfl) (ok__law_taken T) (hr.mono (by decide)) (by rfl) T.m__law_taken T.F__law_taken.kp T.b__law_taken (da_cons (de_var 0) (da_cons de_int da_nil))) da_nil))))) dss_nil)
    (dss_cons (ds_if (dt_cmp (cmp_eq rfl hr.units) (de_var 4) de_int (nomark _)) (dss_one (ds_ret (de_tup (da_cons (de_call (takes_of rfl rfl rfl rfl) (ok__law_pick T) (hr.mono (by decide)) (by rfl) T.m__law_pick T.F__law_pick.kp T.b__law_pick (da_cons (de_var 0) (da_cons (de_lst (da_cons de_str (da_cons de_str (da_cons de_str da_nil)))) da_nil))) (da_cons (de_call (takes_of rfl rfl rfl rfl) (ok__law_taken T) (hr.mono (by decide)) (by rfl) T.m__law_taken T.F__law_taken.kp T.b__law_taken (da_cons (de_var 0) (da_cons de_int da_nil))) da_nil))))) dss_nil)
    (dss_cons (ds_if (dt_cmp (cmp_eq rfl hr.units) (de_var 4) de_int (nomark _)) (dss_one (ds_ret (de_tup (da_cons (de_call (takes_of rfl rfl rfl rfl) (ok__law_pick T) (hr.mono (by decide)) (by rfl) T.m__law_pick T.F__law_pick.kp T.b__law_pick (da_cons (de_var 0) (da_cons (de_lst (da_cons de_str (da_cons de_str (da_cons de_str da_nil)))) da_nil))) (da_cons (de_call (takes_of rfl rfl rfl rfl) (ok__law_taken T) (hr.mono (by decide)) (by rfl) T.m__law_taken T.F__law_taken.kp T.b__law_taken (da_cons (de_var 0) (da_cons (de_var 2) da_nil))) da_nil))))) dss_nil)
    (dss_cons (ds_if (dt_cmp (cmp_eq rfl hr.units) (de_var 4) de_int (nomark _)) (dss_one (ds_ret (de_tup (da_cons (de_call (takes_of rfl rfl rfl rfl) (ok__law_pick T) (hr.mono (by decide)) (by rfl) T.m__law_pick T.F__law_pick.kp T.b__law_pick (da_cons (de_var 0) (da_cons (de_lst (da_cons de_str (da_cons de_str (da_cons de_str (da_cons de_str da_nil))))) da_nil))) (da_cons (de_call (takes_of rfl rfl rfl rfl) (ok__law_pick T) (hr.mono (by decide)) (by rfl) T.m__law_pick T.F__law_pick.kp T.b__law_pick (da_cons (de_var 0) (da_cons (de_var 3) da_nil))) da_nil))))) dss_nil)
    (dss_cons (ds_set 5 sc__law_step.nd (de_call (takes_of rfl rfl rfl rfl) (ok__law_pick T) (hr.mono (by decide)) (by rfl) T.m__law_pick T.F__law_pick.kp T.b__law_pick (da_cons (de_var 0) (da_cons (de_var 3) da_nil))))
    (dss_cons (ds_par (i := 6) (j := 7) rfl sc__law_step.nd rfl rfl (by decide) rfl rfl (da_cons (de_lst da_nil) (da_cons (de_lst da_nil) da_nil)) (by rfl))
    (dss_cons (ds_for (f := 4096) (passes_of rfl) rfl (di_any rfl (de_call (takes_of rfl rfl rfl rfl) (ok__law_row_of T) (hr.mono (by decide)) (by rfl) T.m__law_row_of T.F__law_row_of.kp T.b__law_row_of (da_cons (de_var 1) (da_cons (de_var 5) da_nil)))) (dg_name 8 sc__law_step.nd) (dss_one (ds_par (i := 6) (j := 7) rfl sc__law_step.nd rfl rfl (by decide) rfl rfl (da_cons (de_add rfl (de_var 6) (de_lc (f := 4096) (own := [("field", 10)]) rfl sc__law_step.nd (di_any rfl (de_ix rfl hr.units (de_var 8) de_int)) (blkOk_by (own := [("field", 10)]) (N := n__law_step) (sc := defScope s__law_step) (by decide +kernel)) (fun _ _ _ _ _ => (dg_name 10 sc__law_step.nd)) (fun _ _ _ _ _ => dts_nil) (fun _ _ _ _ _ => (de_ix rfl hr.units (de_var 10) de_int)))) (da_cons (de_add rfl (de_var 7) (de_lc (f := 4096) (own := [("method", 12)]) rfl sc__law_step.nd (di_any rfl (de_ix rfl hr.units (de_var 8) de_int)) (blkOk_by (own := [("method", 12)]) (N := n__law_step) (sc := defScope s__law_step) (by decide +kernel)) (fun _ _ _ _ _ => (dg_name 12 sc__law_step.nd)) (fun _ _ _ _ _ => dts_nil) (fun _ _ _ _ _ => (de_ix rfl hr.units (de_var 12) de_int)))) da_nil)) (by rfl))))
    (dss_cons (ds_set 9 sc__law_step.nd (de_add rfl (de_lc (f := 4096) (own := [("field", 10)]) rfl sc__law_step.nd (di_any rfl (de_var 6)) (blkOk_by (own := [("field", 10)]) (N := n__law_step) (sc := defScope s__law_step) (by decide +kernel)) (fun _ _ _ _ _ => (dg_name 10 sc__law_step.nd)) (fun _ _ _ _ _ => dts_nil) (fun _ _ _ _ _ => (de_tup (da_cons de_str (da_cons (de_var 5) (da_cons (de_var 10) da_nil)))))) (de_lc (f := 4096) (own := [("field", 10)]) rfl sc__law_step.nd (di_any rfl (de_var 6)) (blkOk_by (own := [("field", 10)]) (N := n__law_step) (sc := defScope s__law_step) (by decide +kernel)) (fun _ _ _ _ _ => (dg_name 10 sc__law_step.nd)) (fun _ _ _ _ _ => dts_nil) (fun _ _ _ _ _ => (de_tup (da_cons de_str (da_cons (de_var 5) (da_cons (de_var 10) da_nil))))))))
    (dss_cons (ds_set 9 sc__law_step.nd (de_add rfl (de_var 9) (de_lc (f := 4096) (own := [("word", 11)]) rfl sc__law_step.nd (di_any rfl (de_var 7)) (blkOk_by (own := [("word", 11)]) (N := n__law_step) (sc := defScope s__law_step) (by decide +kernel)) (fun _ _ _ _ _ => (dg_name 11 sc__law_step.nd)) (fun _ _ _ _ _ => dts_nil) (fun _ _ _ _ _ => (de_tup (da_cons de_str (da_cons (de_var 5) (da_cons (de_var 11) da_nil))))))))
    (dss_one (ds_ret (de_if (dt_cmp (cmp_ne rfl hr.units) (de_var 9) (de_lst da_nil) (nomark _)) (de_call (takes_of rfl rfl rfl rfl) (ok__law_pick T) (hr.mono (by decide)) (by rfl) T.m__law_pick T.F__law_pick.kp T.b__law_pick (da_cons (de_var 0) (da_cons (de_var 9) da_nil))) (de_tup (da_cons de_str (da_cons (de_call (takes_of rfl rfl rfl rfl) (ok__law_taken T) (hr.mono (by decide)) (by rfl) T.m__law_taken T.F__law_taken.kp T.b__law_taken (da_cons (de_var 0) (da_cons de_int da_nil))) da_nil)))))))))))))))))
def d__law_code : DenS :=
  (sSeq (sAsg (dBin fAdd (dC (.int 1)) (dCall D__law_taken (aCons (dVar 0) (aCons (dVar 2) aNil)))) (gN 3))
  (sSeq (sAsg (dLc 4096 (iRng rng1 (aCons (dBin fSub (dVar 3) (dC (.int 1))) aNil)) (gN 5) bYes (dCall D__law_step (aCons (dVar 0) (aCons (dVar 1) (aCons (dVar 3) aNil)))) [5]) (gN 4))
  (sRet (dUn fTupOf (dBin fAdd (dVar 4) (dLst (aCons (dCall D__law_pick (aCons (dVar 0) (aCons (dLst (aCons (dTup (aCons (dC (.str "give")) aNil)) (aCons (dTup (aCons (dC (.str "give")) aNil)) (aCons (dTup (aCons (dC (.str "throw")) aNil)) (aCons (dTup (aCons (dC (.str "go")) (aCons (dCall D__law_taken (aCons (dVar 0) (aCons (dVar 3) aNil))) aNil))) aNil))))) aNil))) aNil)))))))
def D__law_code : FnM := mkFn (List.length (["row", "classes", "most"] : List Str)) (List.length n__law_code) d__law_code
theorem ok__law_code {P : Program} {w : World} {K : PySem.W.Frag} {mg : Str → Option Value} {base : Heap} (T : Txt K mg w) : FnOk P w K mg base (L2.CX P w) 4 T.f__law_code T.d__law_code ["row", "classes", "most"] (spF (GG T) D__law_code) :=
  fn_ok (N := n__law_code) (ps := ["row", "classes", "most"]) (k := 3) (G := GG T) (body := d__law_code) T.F__law_code sc__law_code fun cdv A outer s H E hr => by
  unfold d__law_code
  exact (dss_cons (ds_set 3 sc__law_code.nd (de_add rfl de_int (de_call (takes_of rfl rfl rfl rfl) (ok__law_taken T) (hr.mono (by decide)) (by rfl) T.m__law_taken T.F__law_taken.kp T.b__law_taken (da_cons (de_var 0) (da_cons (de_var 2) da_nil)))))
    (dss_cons (ds_setLc 4 (f := 4096) (own := [("at", 5)]) rfl sc__law_code.nd (di_rng1 (by rfl) T.z_range (da_cons (de_sub (de_var 3) de_int) da_nil)) (blkOk_by (own := [("at", 5)]) (N := n__law_code) (sc := defScope s__law_code) (by decide +kernel)) (fun _ _ _ _ _ => (dg_name 5 sc__law_code.nd)) (fun _ _ _ _ _ => dts_nil) (fun _ _ _ _ _ => (de_call takes0 (ok__law_step T) (hr.mono (by decide)) (by rfl) T.m__law_step T.F__law_step.kp T.b__law_step (da_cons (de_var 0) (da_cons (de_var 1) (da_cons (de_var 3) da_nil))))) (sw_true rfl rfl rfl (by decide +kernel)))
    (dss_one (ds_ret (de_tupOf rfl (by rfl) T.z_tuple (de_add rfl (de_var 4) (de_lst (da_cons (de_call (takes_of rfl rfl rfl rfl) (ok__law_pick T) (hr.mono (by decide)) (by rfl) T.m__law_pick T.F__law_pick.kp T.b__law_pick (da_cons (de_var 0) (da_cons (de_lst (da_cons (de_tup (da_cons de_str da_nil)) (da_cons (de_tup (da_cons de_str da_nil)) (da_cons (de_tup (da_cons de_str da_nil)) (da_cons (de_tup (da_cons de_str (da_cons (de_call (takes_of rfl rfl rfl rfl) (ok__law_taken T) (hr.mono (by decide)) (by rfl) T.m__law_taken T.F__law_taken.kp T.b__law_taken (da_cons (de_var 0) (da_cons (de_var 3) da_nil))) da_nil))) da_nil))))) da_nil))) da_nil))))))))
def d__law_handlers : DenS :=
  (sSeq (sAsg (dLst aNil) (gN 3))
  (sSeq (sFor 4096 (iRng rng1 (aCons (dCall D__law_pick (aCons (dVar 0) (aCons (dLst (aCons (dC (.int 0)) (aCons (dC (.int 0)) (aCons (dC (.int 1)) (aCons (dC (.int 2)) aNil))))) aNil))) aNil)) (gN 4) (sSeq (sAsg (dCall D__law_taken (aCons (dVar 0) (aCons (dVar 2) aNil))) (gN 5))
  (sSeq (sAsg (dBin fAdd (dBin fAdd (dVar 5) (dC (.int 1))) (dCall D__law_taken (aCons (dVar 0) (aCons (dBin fSub (dVar 2) (dVar 5)) aNil)))) (gN 6))
  (sExpr (dMet isLst fAppend (dVar 3) (aCons (dTup (aCons (dVar 5) (aCons (dVar 6) (aCons (dCall D__law_pick (aCons (dVar 0) (aCons (dBin fAdd (dLst (aCons (dC (.str "top")) (aCons (dC (.str "top")) aNil))) (dVar 1)) aNil))) (aCons (dCall D__law_taken (aCons (dVar 0) (aCons (dVar 2) aNil))) aNil))))) aNil))))))
  (sRet (dUn fTupOf (dVar 3)))))
def D__law_handlers : FnM := mkFn (List.length (["row", "names", "size"] : List Str)) (List.length n__law_handlers) d__law_handlers
theorem ok__law_handlers {P : Program} {w : World} {K : PySem.W.Frag} {mg : Str → Option Value} {base : Heap} (T : Txt K mg w) : FnOk P w K mg base (L2.CX P w) 3 T.f__law_handlers T.d__law_handlers ["row", "names", "size"] (spF (GG T) D__law_handlers) :=
  fn_ok (N := n__law_handlers) (ps := ["row", "names", "size"]) (k := 2) (G := GG T) (body := d__law_handlers) T.F__law_handlers sc__law_handlers fun cdv A outer s H E hr => by
  unfold d__law_handlers
  exact (dss_cons (ds_set 3 sc__law_handlers.nd (de_lst da_nil))
    (dss_cons (ds_for (f := 4096) (passes_of rfl) rfl (di_rng1 (by rfl) T.z_range (da_cons (de_call (takes_of rfl rfl rfl rfl) (ok__law_pick T) (hr.mono (by decide)) (by rfl) T.m__law_pick T.F__law_pick.kp T.b__law_pick (da_cons (de_var 0) (da_cons (de_lst (da_cons de_int (da_cons de_int (da_cons de_int (da_cons de_int da_nil))))) da_nil))) da_nil)) (dg_name 4 sc__law_handlers.nd) (dss_cons (ds_set 5 sc__law_handlers.nd (de_call (takes_of rfl rfl rfl rfl) (ok__law_taken T) (hr.mono (by decide)) (by rfl) T.m__law_taken T.F__law_taken.kp T.b__law_taken (da_cons (de_var 0) (da_cons (de_var 2) da_nil))))
    (dss_cons (ds_set 6 sc__law_handlers.nd (de_add rfl (de_add rfl (de_var 5) de_int) (de_call (takes_of rfl rfl rfl rfl) (ok__law_taken T) (hr.mono (by decide)) (by rfl) T.m__law_taken T.F__law_taken.kp T.b__law_taken (da_cons (de_var 0) (da_cons (de_sub (de_var 2) (de_var 5)) da_nil)))))
    (dss_one (ds_expr (de_append rfl (de_var 3) (da_cons (de_tup (da_cons (de_var 5) (da_cons (de_var 6) (da_cons (de_call (takes_of rfl rfl rfl rfl) (ok__law_pick T) (hr.mono (by decide)) (by rfl) T.m__law_pick T.F__law_pick.kp T.b__law_pick (da_cons (de_var 0) (da_cons (de_add rfl (de_lst (da_cons de_str (da_cons de_str da_nil))) (de_var 1)) da_nil))) (da_cons (de_call (takes_of rfl rfl rfl rfl) (ok__law_taken T) (hr.mono (by decide)) (by rfl) T.m__law_taken T.F__law_taken.kp T.b__law_taken (da_cons (de_var 0) (da_cons (de_var 2) da_nil))) da_nil))))) da_nil)))))))
    (dss_one (ds_ret (de_tupOf rfl (by rfl) T.z_tuple (de_var 3))))))
def d__law_classes : DenS :=
  (sSeq (sPar 3 4 (aCons (dCall D__law_bare (aCons (dVar 0) (aCons (dVar 1) aNil))) (aCons (dLst aNil) aNil)))
  (sSeq (sAsg (dLc 4096 (iAnyD (dVar 3)) (gN 14) bYes (dBin fIx (dVar 14) (dC (.int 0))) [14]) (gN 5))
  (sSeq (sFor 4096 (iAnyD (dVar 3)) (gT (gsCons (gN 6) (gsCons (gN 7) (gsCons (gN 8) (gsCons (gN 9) gsNil))))) (sSeq (sAsg (dLst aNil) (gN 10))
  (sSeq (sFor 4096 (iAnyD (dVar 9)) (gT (gsCons (gN 11) (gsCons (gN 12) (gsCons (gN 13) gsNil)))) (sSeq (sAsg (dCall D__law_code (aCons (dVar 0) (aCons (dVar 3) (aCons (dVar 2) aNil)))) (gN 15))
  (sExpr (dMet isLst fAppend (dVar 10) (aCons (dTup (aCons (dVar 11) (aCons (dVar 12) (aCons (dVar 13) (aCons (dVar 15) (aCons (dCall D__law_handlers (aCons (dVar 0) (aCons (dVar 5) (aCons (dCall fLen (aCons (dVar 15) aNil)) aNil)))) aNil)))))) aNil)))))
  (sExpr (dMet isLst fAppend (dVar 4) (aCons (dTup (aCons (dVar 6) (aCons (dVar 7) (aCons (dVar 8) (aCons (dUn fTupOf (dVar 10)) aNil))))) aNil))))))
  (sRet (dUn fTupOf (dVar 4))))))
def D__law_classes : FnM := mkFn (List.length (["row", "most", "steps"] : List Str)) (List.length n__law_classes) d__law_classes
theorem ok__law_classes {P : Program} {w : World} {K : PySem.W.Frag} {mg : Str → Option Value} {base : Heap} (T : Txt K mg w) : FnOk P w K mg base (L2.CX P w) 5 T.f__law_classes T.d__law_classes ["row", "most", "steps"] (spF (GG T) D__law_classes) :=
  fn_ok (N := n__law_classes) (ps := ["row", "most", "steps"]) (k := 4) (G := GG T) (body := d__law_classes) T.F__law_classes sc__law_classes fun cdv A outer s H E hr => by
  unfold d__law_classes
  exact (dss_cons (ds_par (i := 3) (j := 4) rfl sc__law_classes.nd rfl rfl (by decide) rfl rfl (da_cons (de_call (takes_of rfl rfl rfl rfl) (ok__law_bare T) (hr.mono (by decide)) (by rfl) T.m__law_bare T.F__law_bare.kp T.b__law_bare (da_cons (de_var 0) (da_cons (de_var 1) da_nil))) (da_cons (de_lst da_nil) da_nil)) (by rfl))
    (dss_cons (ds_setLc 5 (f := 4096) (own := [("told", 14)]) rfl sc__law_classes.nd (di_any rfl (de_var 3)) (blkOk_by (own := [("told", 14)]) (N := n__law_classes) (sc := defScope s__law_classes) (by decide +kernel)) (fun _ _ _ _ _ => (dg_name 14 sc__law_classes.nd)) (fun _ _ _ _ _ => dts_nil) (fun _ _ _ _ _ => (de_ix rfl hr.units (de_var 14) de_int)) (sw_true rfl rfl rfl (by decide +kernel)))
    (dss_cons (ds_for (f := 4096) (passes_of rfl) rfl (di_any rfl (de_var 3)) (dg_tup rfl rfl (dgs_cons (dg_name 6 sc__law_classes.nd) (dgs_cons (dg_name 7 sc__law_classes.nd) (dgs_cons (dg_name 8 sc__law_classes.nd) (dgs_cons (dg_name 9 sc__law_classes.nd) dgs_nil)))) (gs_len (gs_len (gs_len (gs_len gs_len0))))) (dss_cons (ds_set 10 sc__law_classes.nd (de_lst da_nil))
    (dss_cons (ds_for (f := 4096) (passes_of rfl) rfl (di_any rfl (de_var 9)) (dg_tup rfl rfl (dgs_cons (dg_name 11 sc__law_classes.nd) (dgs_cons (dg_name 12 sc__law_classes.nd) (dgs_cons (dg_name 13 sc__law_classes.nd) dgs_nil))) (gs_len (gs_len (gs_len gs_len0)))) (dss_cons (ds_set 15 sc__law_classes.nd (de_call (takes_of rfl rfl rfl rfl) (ok__law_code T) (hr.mono (by decide)) (by rfl) T.m__law_code T.F__law_code.kp T.b__law_code (da_cons (de_var 0) (da_cons (de_var 3) (da_cons (de_var 2) da_nil)))))
    (dss_one (ds_expr (de_append rfl (de_var 10) (da_cons (de_tup (da_cons (de_var 11) (da_cons (de_var 12) (da_cons (de_var 13) (da_cons (de_var 15) (da_cons (de_call (takes_of rfl rfl rfl rfl) (ok__law_handlers T) (hr.mono (by decide)) (by rfl) T.m__law_handlers T.F__law_handlers.kp T.b__law_handlers (da_cons (de_var 0) (da_cons (de_var 5) (da_cons (de_len rfl (by rfl) T.z_len (da_cons (de_var 15) da_nil)) da_nil)))) da_nil)))))) da_nil))))))
    (dss_one (ds_expr (de_append rfl (de_var 4) (da_cons (de_tup (da_cons (de_var 6) (da_cons (de_var 7) (da_cons (de_var 8) (da_cons (de_tupOf rfl (by rfl) T.z_tuple (de_var 10)) da_nil))))) da_nil)))))))
    (dss_one (ds_ret (de_tupOf rfl (by rfl) T.z_tuple (de_var 4)))))))
def d__law_alike (R : FnM) : DenS :=
  (sSeq (sIf (bTru (dUn (fIsT2 "tuple" "list") (dVar 1))) (sSeq (sIf (bOr (bNot (bTru (dUn (fIsT2 "tuple" "list") (dVar 0)))) (bCmp fNe (dUn (fIsT "list") (dVar 0)) (dUn (fIsT "list") (dVar 1)))) (sRet (dC (.bl false))) sNil)
  (sSeq (sIf (bCmp fNe (dCall fLen (aCons (dVar 0) aNil)) (dCall fLen (aCons (dVar 1) aNil))) (sRet (dC (.bl false))) sNil)
  (sRet (dBin fEq (dLc 4096 (iRng rng1 (aCons (dCall fLen (aCons (dVar 1) aNil)) aNil)) (gN 2) (bNot (bTru (dCall R (aCons (dBin fIx (dVar 0) (dVar 2)) (aCons (dBin fIx (dVar 1) (dVar 2)) aNil))))) (dVar 2) [2]) (dLst aNil))))) sNil)
  (sSeq (sIf (bOr (bCmp fIs (dVar 1) (dC .non)) (bTru (dUn (fIsT "str") (dVar 1)))) (sRet (dAnd (dBin fEq (dVar 0) (dVar 1)) (dBin fEq (dUn (fIsT "str") (dVar 0)) (dUn (fIsT "str") (dVar 1))))) sNil)
  (sRet (dAnd (dUn (fIsT "int") (dVar 0)) (dAnd (dBin fEq (dUn (fIsT "bool") (dVar 0)) (dUn (fIsT "bool") (dVar 1))) (dBin fEq (dVar 0) (dVar 1)))))))
def R__law_alike : Nat → FnM
  | 0 => fun _ _ => .stuck
  | n + 1 => mkFn (List.length (["found", "due"] : List Str)) (List.length n__law_alike) (d__law_alike (R__law_alike n))
theorem rk__law_alike {P : Program} {w : World} {K : PySem.W.Frag} {mg : Str → Option Value} {base : Heap} (T : Txt K mg w) : ∀ n : Nat, FnOk P w K mg base (L2.CX P w) (n + 1) T.f__law_alike T.d__law_alike ["found", "due"] (spF (GG T) (R__law_alike n))
  | 0 => fn_stuck
  | n + 1 => by
    have ih := rk__law_alike (P := P) (base := base) T n
    rw [show R__law_alike (n + 1) = mkFn (List.length (["found", "due"] : List Str)) (List.length n__law_alike) (d__law_alike (R__law_alike n)) from rfl]
    refine fn_ok (N := n__law_alike) (ps := ["found", "due"]) (k := n + 1) (G := GG T) (body := d__law_alike (R__law_alike n)) T.F__law_alike sc__law_alike fun cdv A outer s H E hr => ?_
    unfold d__law_alike
    exact (dss_cons (ds_if (dt_truth rfl (de_isT2 (T := "tuple") (U := "list") rfl (by rfl) T.z_isinstance (by rfl) T.z_tuple (by decide +kernel) kit_tuple (by decide) (by decide) (by rfl) T.z_list (by decide +kernel) kit_list (by decide) (by decide) (de_var 1))) (dss_cons (ds_if (dw_dt (dw_or (dt_not (dt_truth rfl (de_isT2 (T := "tuple") (U := "list") rfl (by rfl) T.z_isinstance (by rfl) T.z_tuple (by decide +kernel) kit_tuple (by decide) (by decide) (by rfl) T.z_list (by decide +kernel) kit_list (by decide) (by decide) (de_var 0)))) (dw_or1 (dt_cmp (cmp_ne rfl hr.units) (de_isT (T := "list") rfl (by rfl) T.z_isinstance (by rfl) T.z_list (by decide +kernel) kit_list (by decide) (by decide) (de_var 0)) (de_isT (T := "list") rfl (by rfl) T.z_isinstance (by rfl) T.z_list (by decide +kernel) kit_list (by decide) (by decide) (de_var 1)) (nomark _))))) (dss_one (ds_ret de_bl)) dss_nil)
    (dss_cons (ds_if (dt_cmp (cmp_ne rfl hr.units) (de_len rfl (by rfl) T.z_len (da_cons (de_var 0) da_nil)) (de_len rfl (by rfl) T.z_len (da_cons (de_var 1) da_nil)) (nomark _)) (dss_one (ds_ret de_bl)) dss_nil)
    (dss_one (ds_ret (de_cmp' (cmp_eq rfl hr.units) (de_lc (f := 4096) (own := [("k", 2)]) rfl sc__law_alike.nd (di_rng1 (by rfl) T.z_range (da_cons (de_len rfl (by rfl) T.z_len (da_cons (de_var 1) da_nil)) da_nil)) (blkOk_by (own := [("k", 2)]) (N := n__law_alike) (sc := defScope s__law_alike) (by decide +kernel)) (fun _ _ _ _ _ => (dg_name 2 sc__law_alike.nd)) (fun _ _ _ _ _ => (dts_one (dt_not (dt_truth rfl (de_call takes0 ih hr (by rfl) T.m__law_alike T.F__law_alike.kp T.b__law_alike (da_cons (de_ix rfl hr.units (de_var 0) (de_var 2)) (da_cons (de_ix rfl hr.units (de_var 1) (de_var 2)) da_nil))))))) (fun _ _ _ _ _ => (de_var 2))) (de_lst da_nil) (nomark _)))))) dss_nil)
    (dss_cons (ds_if (dw_dt (dw_or (dt_cmp cmp_is (de_var 1) de_non (nomark _)) (dw_or1 (dt_truth rfl (de_isT (T := "str") rfl (by rfl) T.z_isinstance (by rfl) T.z_str (by decide +kernel) kit_str (by decide) (by decide) (de_var 1)))))) (dss_one (ds_ret (de_and (de_cmp' (cmp_eq rfl hr.units) (de_var 0) (de_var 1) (nomark _)) (de_one (de_cmp' (cmp_eq rfl hr.units) (de_isT (T := "str") rfl (by rfl) T.z_isinstance (by rfl) T.z_str (by decide +kernel) kit_str (by decide) (by decide) (de_var 0)) (de_isT (T := "str") rfl (by rfl) T.z_isinstance (by rfl) T.z_str (by decide +kernel) kit_str (by decide) (by decide) (de_var 1)) (nomark _)))))) dss_nil)
    (dss_one (ds_ret (de_and (de_isT (T := "int") rfl (by rfl) T.z_isinstance (by rfl) T.z_int (by decide +kernel) kit_int (by decide) (by decide) (de_var 0)) (de_and (de_cmp' (cmp_eq rfl hr.units) (de_isT (T := "bool") rfl (by rfl) T.z_isinstance (by rfl) T.z_bool (by decide +kernel) kit_bool (by decide) (by decide) (de_var 0)) (de_isT (T := "bool") rfl (by rfl) T.z_isinstance (by rfl) T.z_bool (by decide +kernel) kit_bool (by decide) (by decide) (de_var 1)) (nomark _)) (de_one (de_cmp' (cmp_eq rfl hr.units) (de_var 0) (de_var 1) (nomark _)))))))))
abbrev D__law_alike : FnM := R__law_alike 8
theorem ok__law_alike {P : Program} {w : World} {K : PySem.W.Frag} {mg : Str → Option Value} {base : Heap} (T : Txt K mg w) : FnOk P w K mg base (L2.CX P w) 9 T.f__law_alike T.d__law_alike ["found", "due"] (spF (GG T) D__law_alike) := rk__law_alike T 8
def d_law : DenS :=
  (sSeq (sAsg (dLst (aCons (dVar 0) (aCons (dC (.int 0)) (aCons (dC (.int 2906)) (aCons (dC (.int 0)) aNil))))) (gN 1))
  (sSeq (sAsg (dCall D__law_classes (aCons (dVar 1) (aCons (dC (.int 8)) (aCons (dC (.int 1)) aNil)))) (gN 2))
  (sSeq (sAsg (dMake "House" D_House___init__ (aCons (dVar 2) aNil)) (gN 3))
  (sSeq (sFor 4096 (iAnyD (dBin fAdd (dLst (aCons (dC (.str "top")) aNil)) (dLc 4096 (iAnyD (dVar 2)) (gN 6) bYes (dBin fIx (dVar 6) (dC (.int 0))) [6]))) (gN 4) (sSeq (sAsg (dLst aNil) (gN 5))
  (sSeq (sFor 4096 (iAnyD (dUn fBack (dCall D__law_row_of (aCons (dVar 2) (aCons (dVar 4) aNil))))) (gN 6) (sAsg (dBin fAdd (dVar 5) (dCall fLstOf (aCons (dBin fIx (dVar 6) (dC (.int 2))) aNil))) (gN 5)))
  (sIf (bOr (bNot (bTru (dCall D__law_alike (aCons (dCall D_fields_of (aCons (dVar 3) (aCons (dVar 4) aNil))) (aCons (dUn fTupOf (dVar 5)) aNil))))) (bCmp fNe (dUn fLenSet (dLc 4096 (iAnyD (dVar 5)) (gN 7) bYes (dBin fIx (dVar 7) (dC (.int 0))) [7])) (dCall fLen (aCons (dVar 5) aNil)))) (sRet (dC (.bl false))) sNil))))
  (sRet (dBin fEq (dCall D_fields_of (aCons (dVar 3) (aCons (dC (.str "top")) aNil))) (dTup aNil)))))))
def D_law : FnM := mkFn (List.length (["script"] : List Str)) (List.length n_law) d_law
theorem ok_law {P : Program} {w : World} {K : PySem.W.Frag} {mg : Str → Option Value} {base : Heap} (T : Txt K mg w) : FnOk P w K mg base (L2.CX P w) 12 T.f_law T.d_law ["script"] (spF (GG T) D_law) :=
  fn_ok (N := n_law) (ps := ["script"]) (k := 11) (G := GG T) (body := d_law) T.F_law sc_law fun cdv A outer s H E hr => by
  unfold d_law
  exact (dss_cons (ds_set 1 sc_law.nd (de_lst (da_cons (de_var 0) (da_cons de_int (da_cons de_int (da_cons de_int da_nil))))))
    (dss_cons (ds_set 2 sc_law.nd (de_call (takes_of rfl rfl rfl rfl) (ok__law_classes T) (hr.mono (by decide)) (by rfl) T.m__law_classes T.F__law_classes.kp T.b__law_classes (da_cons (de_var 1) (da_cons de_int (da_cons de_int da_nil)))))
    (dss_cons (ds_set 3 sc_law.nd (de_make (ct_House T) T.mk_House (ok_House___init__ T) (hr.mono (by decide)) (by rfl) T.m_House T.b_House___init__ (takes_of rfl rfl rfl rfl) rfl (da_cons (de_var 2) da_nil)))
    (dss_cons (ds_for (f := 4096) (passes_of rfl) rfl (di_any rfl (de_add rfl (de_lst (da_cons de_str da_nil)) (de_lc (f := 4096) (own := [("told", 6)]) rfl sc_law.nd (di_any rfl (de_var 2)) (blkOk_by (own := [("told", 6)]) (N := n_law) (sc := defScope s_law) (by decide +kernel)) (fun _ _ _ _ _ => (dg_name 6 sc_law.nd)) (fun _ _ _ _ _ => dts_nil) (fun _ _ _ _ _ => (de_ix rfl hr.units (de_var 6) de_int))))) (dg_name 4 sc_law.nd) (dss_cons (ds_set 5 sc_law.nd (de_lst da_nil))
    (dss_cons (ds_for (f := 4096) (passes_of rfl) rfl (di_any rfl (de_back rfl (de_call (takes_of rfl rfl rfl rfl) (ok__law_row_of T) (hr.mono (by decide)) (by rfl) T.m__law_row_of T.F__law_row_of.kp T.b__law_row_of (da_cons (de_var 2) (da_cons (de_var 4) da_nil))))) (dg_name 6 sc_law.nd) (dss_one (ds_set 5 sc_law.nd (de_add rfl (de_var 5) (de_lstOf rfl (by rfl) T.z_list (da_cons (de_ix rfl hr.units (de_var 6) de_int) da_nil))))))
    (dss_one (ds_if (dw_dt (dw_or (dt_not (dt_truth rfl (de_call (takes_of rfl rfl rfl rfl) (ok__law_alike T) (hr.mono (by decide)) (by rfl) T.m__law_alike T.F__law_alike.kp T.b__law_alike (da_cons (de_call (takes_of rfl rfl rfl rfl) (ok_fields_of T) (hr.mono (by decide)) (by rfl) T.m_fields_of T.F_fields_of.kp T.b_fields_of (da_cons (de_var 3) (da_cons (de_var 4) da_nil))) (da_cons (de_tupOf rfl (by rfl) T.z_tuple (de_var 5)) da_nil))))) (dw_or1 (dt_cmp (cmp_ne rfl hr.units) (de_lenSet rfl rfl (by rfl) T.z_len (by rfl) T.z_set (de_lc (f := 4096) (own := [("field", 7)]) rfl sc_law.nd (di_any rfl (de_var 5)) (blkOk_by (own := [("field", 7)]) (N := n_law) (sc := defScope s_law) (by decide +kernel)) (fun _ _ _ _ _ => (dg_name 7 sc_law.nd)) (fun _ _ _ _ _ => dts_nil) (fun _ _ _ _ _ => (de_ix rfl hr.units (de_var 7) de_int)))) (de_len rfl (by rfl) T.z_len (da_cons (de_var 5) da_nil)) (nomark _))))) (dss_one (ds_ret de_bl)) dss_nil)))))
    (dss_one (ds_ret (de_cmp' (cmp_eq rfl hr.units) (de_call (takes_of rfl rfl rfl rfl) (ok_fields_of T) (hr.mono (by decide)) (by rfl) T.m_fields_of T.F_fields_of.kp T.b_fields_of (da_cons (de_var 3) (da_cons de_str da_nil))) (de_tup da_nil) (nomark _))))))))
end K06

set_option Elab.async false
set_option linter.all false
set_option maxRecDepth 100000
set_option maxHeartbeats 1000000
namespace K06
open PySem PySem.Spec PyProof.Rows L2 MI
/-- where the draws stand -/
structure S3 where
  p : Nat
  x : Int
  y : Int
def rowO (s : S3) : MO := .lst [.ref 0, .int s.p, .int s.x, .int s.y]
abbrev mk (l : List Int) (s : S3) (r : Store) : Store := .rol (l.map MV.int) :: rowO s :: r
theorem wp_set {n j : Nat} {k : Int} {w : MV} {S : Store} {l : List MV} (h : S[n]? = some (.lst l)) (hk : ixN l.length k = some j) : fSet (.ref n) (.int k) w S = some (S.set n (.lst (l.set j w))) := by
  unfold fSet
  simp only [h, hk]
section
variable {l : List Int} {p : Nat} {x y : Int} {r : Store} {E : EX} {Q : MV → Store → Prop}
theorem at_row : (mk l ⟨p, x, y⟩ r)[1]? = some (.lst [.ref 0, .int p, .int x, .int y]) := rfl
theorem row0 : wp (fIx (.ref 1) (.int 0) (mk l ⟨p, x, y⟩ r)) E Q = Q (.ref 0) (mk l ⟨p, x, y⟩ r) := by
  rw [wp_ixL at_row]; simp [atI, ixN]
theorem row1 : wp (fIx (.ref 1) (.int 1) (mk l ⟨p, x, y⟩ r)) E Q = Q (.int p) (mk l ⟨p, x, y⟩ r) := by
  rw [wp_ixL at_row]; simp [atI, ixN]
theorem row2 : wp (fIx (.ref 1) (.int 2) (mk l ⟨p, x, y⟩ r)) E Q = Q (.int x) (mk l ⟨p, x, y⟩ r) := by
  rw [wp_ixL at_row]; simp [atI, ixN]
theorem row3 : wp (fIx (.ref 1) (.int 3) (mk l ⟨p, x, y⟩ r)) E Q = Q (.int y) (mk l ⟨p, x, y⟩ r) := by
  rw [wp_ixL at_row]; simp [atI, ixN]
theorem put1 : fSet (.ref 1) (.int 1) (.int (p + 1)) (mk l ⟨p, x, y⟩ r) = some (mk l ⟨p + 1, x, y⟩ r) := by
  rw [wp_set (l := [.ref 0, .int p, .int x, .int y]) at_row (j := 1) rfl]; rfl
theorem put2 {v : Int} : fSet (.ref 1) (.int 2) (.int v) (mk l ⟨p, x, y⟩ r) = some (mk l ⟨p, v, y⟩ r) := by
  rw [wp_set (l := [.ref 0, .int p, .int x, .int y]) at_row (j := 2) rfl]; rfl
theorem put3 {v : Int} : fSet (.ref 1) (.int 3) (.int v) (mk l ⟨p, x, y⟩ r) = some (mk l ⟨p, x, v⟩ r) := by
  rw [wp_set (l := [.ref 0, .int p, .int x, .int y]) at_row (j := 3) rfl]; rfl
theorem cell {i : Int} : wp (fIx (.ref 0) (.int i) (mk l ⟨p, x, y⟩ r)) E Q = ∃ w, atI (l.map MV.int) i = some w ∧ Q w (mk l ⟨p, x, y⟩ r) := wp_ixR rfl
theorem rlen : lenM (.ref 0) (mk l ⟨p, x, y⟩ r) = some l.length := by
  show ((some (l.map MV.int)).map List.length) = _
  simp
theorem wp_addI {i j : Int} {S : Store} : wp (fAdd (.int i) (.int j) S) E Q = Q (.int (i + j)) S := rfl
theorem wp_mulI {i j : Int} {S : Store} (hj : -(2 ^ 64) < j) (hk : j < 2 ^ 64) : wp (fMul (.int i) (.int j) S) E Q = Q (.int (i * j)) S := by
  unfold fMul
  dsimp only
  rw [if_pos (by rw [decide_eq_true hj, decide_eq_true hk]; simp)]
  rfl
theorem gc_row {w : MV} : wp (gc (r.length + 1 + 1) w (mk l ⟨p, x, y⟩ r)) E Q = Q w (mk l ⟨p, x, y⟩ r) := by
  rw [show gc (r.length + 1 + 1) w (mk l ⟨p, x, y⟩ r) = .ok w (mk l ⟨p, x, y⟩ r) from gc_same rfl]; rfl
theorem mulc {i : Int} {S : Store} : wp (fMul (.int i) (.int 48271) S) E Q = Q (.int (i * 48271)) S := wp_mulI (by decide) (by decide)
end
end K06
open PySem PySem.Spec PyProof.Rows L2 MI K06
local macro_rules | `(tactic| walk_at "run2") => `(tactic| simp only [wp_rng1, wp_rng2, wp_met, wp_neg, wp_bYes, if_true, row0, row1, row2, row3, put1, put2, put3, cell, rlen, wp_addI, mulc, wp_var, wp_c, wp_bin, wp_un, wp_call, wp_nil, wp_cons, wp_tup, wp_lst, wp_dic0, wp_int, wp_bcmp, wp_boolOf, wp_btru, wp_truB, wp_bnot, wp_band, wp_bor, wp_dif, wp_dand, wp_dor, wp_dnot, wp_len, wp_intOf, wp_ixT, wp_gN, wp_gS, wp_seq, wp_snil, wp_sexpr, wp_sret, wp_sif, wp_asg, wp_par, wp_par3, wp_for, wp_iany, wp_irng, wp_ok, wp_ite, wp_iteR,
  true_and, decide_eq_true_eq, Bool.and_eq_true, List.getElem?_cons_zero, List.getElem?_cons_succ, Option.some.injEq, exists_eq_left', List.set_cons_zero, List.set_cons_succ, List.map_cons, List.map_nil, List.cons_append, List.nil_append, List.replicate_succ, List.replicate_zero, List.length_cons, List.length_nil])
namespace K06
open PySem PySem.Spec PyProof.Rows L2 MI
theorem taken (l : List Int) (s : S3) (r : Store) {m : Int} (h0 : 0 < m) (h1 : m < 1073741824) {E : EX} {Q : MV → Store → Prop} (h : ∀ (k : Int) (s' : S3), 0 ≤ k → k < m → Q (.int k) (mk l s' r)) : wp (D__law_taken [.ref 1, .int m] (mk l s r)) E Q := by
  obtain ⟨p, x, y⟩ := s
  unfold D__law_taken
  rw [wp_fn (n := List.length [PySem.Str.ofString "row", PySem.Str.ofString "many"]) (ws := [MV.ref 1, MV.int m]) rfl]
  unfold d__law_taken
  simp only [List.map_cons, List.map_nil, n__law_taken, List.length_cons, List.length_nil]
  walk_at "run2"
  split
  · exact ⟨h0, ⟨h0, h1⟩, by rw [gc_row]; exact h _ _ (Int.emod_nonneg _ (by omega)) (Int.emod_lt_of_pos _ h0)⟩
  · split
    · exact ⟨by decide, by decide, h0, by rw [gc_row]; exact h _ _ (Int.emod_nonneg _ (by omega)) (Int.emod_lt_of_pos _ h0)⟩
    · rename_i hp
      have hlt : p < l.length := by omega
      refine ⟨.int l[p], ?_, ?_⟩
      · have e : ixN (l.map MV.int).length (((p + 1 : Nat) : Int) - 1) = some p := by
          unfold ixN
          rw [if_pos (by omega), if_pos (by rw [List.length_map]; omega)]
          congr 1
          omega
        unfold atI
        rw [e]
        show (l.map MV.int)[p]? = _
        rw [List.getElem?_map, List.getElem?_eq_getElem hlt]
        rfl
      · walk_at "run2"
        refine ⟨by decide, by decide, ?_⟩
        split
        · exact ⟨⟨h0, h1⟩, h0, by rw [gc_row]; exact h _ _ (Int.emod_nonneg _ (by omega)) (Int.emod_lt_of_pos _ h0)⟩
        · exact ⟨h0, by rw [gc_row]; exact h _ _ (Int.emod_nonneg _ (by omega)) (Int.emod_lt_of_pos _ h0)⟩
end K06


set_option Elab.async false
set_option linter.all false
set_option maxRecDepth 100000
set_option maxHeartbeats 1000000
namespace K06
open PySem PySem.Spec PyProof.Rows L2 MI
section
variable {l : List Int} {s : S3} {r : Store} {E : EX} {Q : MV → Store → Prop} {S : Store}
theorem atI_lt {α : Type} {xs : List α} {k : Int} (h0 : 0 ≤ k) (h1 : k < xs.length) : ∃ a, a ∈ xs ∧ atI xs k = some a := by
  have hl : k.toNat < xs.length := by omega
  refine ⟨xs[k.toNat], List.getElem_mem hl, ?_⟩
  unfold atI ixN
  rw [if_pos h0, if_pos h1]
  show xs[k.toNat]? = _
  rw [List.getElem?_eq_getElem hl]
theorem gc_mk {w : MV} : wp (gc (r.length + 1 + 1) w (mk l s r)) E Q = Q w (mk l s r) := gc_row
/-- a list in the store behind the row, or a tuple -/
def SeqR (r : Store) (w : MV) (xs : List MV) : Prop := w = .tup xs ∨ ∃ n, w = .ref (n + 2) ∧ r[n]? = some (.lst xs)
theorem at_r {n : Nat} : (mk l s r)[n + 2]? = r[n]? := rfl
theorem lenL {n : Nat} {xs : List MV} (e : S[n]? = some (.lst xs)) : lenM (.ref n) S = some xs.length := by
  show (itemsOf (.ref n) S).map List.length = _
  have h : itemsOf (.ref n) S = some xs := by
    unfold itemsOf
    dsimp only
    rw [e]
  rw [h]
  rfl
theorem SeqR.len {w : MV} {xs : List MV} (h : SeqR r w xs) : lenM w (mk l s r) = some xs.length := by
  rcases h with rfl | ⟨n, rfl, e⟩
  · rfl
  · exact lenL (by rw [at_r]; exact e)
theorem SeqR.ix {w : MV} {xs : List MV} (h : SeqR r w xs) {i : Int} : wp (fIx w (.int i) (mk l s r)) E Q = ∃ w, atI xs i = some w ∧ Q w (mk l s r) := by
  rcases h with rfl | ⟨n, rfl, e⟩
  · exact wp_ixT
  · exact wp_ixL (by rw [at_r]; exact e)
theorem wp_run {r : Res MV} {Q' : MV → Store → Prop} (h : wp r E Q') (k : ∀ a S', Q' a S' → Q a S') : wp r E Q := h.mono k
theorem pick {w : MV} {xs : List MV} (h : SeqR r w xs) (h0 : xs ≠ []) (h1 : xs.length < 100000) (k : ∀ a s', a ∈ xs → Q a (mk l s' r)) : wp (D__law_pick [.ref 1, w] (mk l s r)) E Q := by
  unfold D__law_pick
  rw [wp_fn (n := List.length [PySem.Str.ofString "row", PySem.Str.ofString "things"]) (ws := [MV.ref 1, w]) rfl]
  unfold d__law_pick
  simp only [n__law_pick]
  walk_at "run2"
  refine ⟨_, h.len, ?_⟩
  have hp : 0 < xs.length := List.length_pos_iff.mpr h0
  refine taken l s r (by omega) (by omega) fun i s' h2 h3 => ?_
  rw [h.ix]
  obtain ⟨a, ha, e⟩ := atI_lt h2 h3
  refine ⟨a, e, ?_⟩
  rw [gc_mk]
  exact k a s' ha
end
/-- drawn trees -/
def nm8 : List Str := ["egg", "box", "red", "blue", "cat", "dog", "sun", "moon"]
inductive Tree : List (Str × Str) → Prop where
  | nil : Tree []
  | snoc {xs : List (Str × Str)} {a u : Str} : Tree xs → nm8[xs.length]? = some a → u ∈ ("top" : Str) :: xs.map (·.1) → Tree (xs ++ [(a, u)])
def mvP (q : Str × Str) : MV := .tup [.str q.1, .str q.2]
section
variable {l : List Int} {s : S3} {r : Store} {E : EX} {Q : MV → Store → Prop} {S : Store} {QI : Src → Store → Prop}
theorem wp_srcL {n : Nat} {xs : List MV} (e : S[n]? = some (.lst xs)) : wp (srcOf (.ref n) S) E QI = QI (srcRef n) S := by
  unfold srcOf
  dsimp only
  rw [e]
  rfl
theorem srcRef_at {n i : Nat} {xs : List MV} (e : S[n]? = some (.lst xs)) : srcRef n i S = match xs[i]? with
    | some w => .yield w
    | none => .stop := by
  unfold srcRef
  rw [e] <;> rfl
theorem wp_addL {a b : Nat} {x y : List MV} (ea : S[a]? = some (.lst x)) (eb : S[b]? = some (.lst y)) (h : x.length + y.length ≤ 1000) : wp (fAdd (.ref a) (.ref b) S) E Q = Q (.ref S.length) (S ++ [.lst (x ++ y)]) := by
  unfold fAdd
  simp only [ea, eb]
  rw [if_pos (by omega)]
  rfl
theorem getE_app {n : Nat} {o : MO} (e : S[n]? = some o) (t : Store) : (S ++ t)[n]? = some o := by
  have h := (List.getElem?_eq_some_iff.mp e).1
  rw [List.getElem?_append_left h]
  exact e
theorem getE_new {o : MO} : (S ++ [o])[S.length]? = some o := by simp
theorem setE_new {o o' : MO} : (S ++ [o]).set S.length o' = S ++ [o'] := by
  rw [List.set_append_right _ _ (Nat.le_refl _)]
  simp
theorem lc_fst {i : Nat} {ρ : Env'} {a : Nat} {xs : List (Str × Str)} (hx : xs.length ≤ 8) (hρ : i < ρ.length) (ea : S[a]? = some (.lst (xs.map mvP))) (h : Q (.ref S.length) (S ++ [.lst (xs.map fun q => .str q.1)])) :
    wp (match lcM (srcRef a) (gN i) bYes (dBin fIx (dVar i) (dC (.int 0))) (wipeM ρ [i]) S.length 4096 0 (S ++ [.lst []]) with
    | some S2 => (.ok (.ref S.length) S2 : Res MV)
    | none => .stuck) E Q := by
  refine wp_lcI xs.length (fun i acc S' => S' = S ++ [.lst acc] ∧ acc = (xs.take i).map fun q => .str q.1) (by omega) ?_ ?_ ⟨rfl, by simp⟩ ?_ ?_
  · rintro i acc S' ⟨rfl, rfl⟩
    exact getE_new
  · rintro acc S' ⟨rfl, rfl⟩
    rw [srcRef_at (getE_app ea _), List.getElem?_map, List.getElem?_eq_none (Nat.le_refl _)]
    rfl
  · rintro j acc S' hj ⟨rfl, rfl⟩
    refine ⟨mvP xs[j], ?_, ?_⟩
    · rw [srcRef_at (getE_app ea _), List.getElem?_map, List.getElem?_eq_getElem hj]
      rfl
    · walk_at "run2"
      refine ⟨mvP xs[j], by simp [wipeM, hρ], ?_⟩
      unfold mvP
      walk_at "run2"
      refine ⟨.str xs[j].1, rfl, getE_new, by simp; omega, setE_new, ?_⟩
      rw [List.take_add_one, List.getElem?_eq_getElem hj, List.map_append]
      rfl
  · rintro acc S' ⟨rfl, rfl⟩
    rw [List.take_length]
    exact h
theorem mk_len : (mk l s r).length = r.length + 2 := rfl
theorem mk_app {t : Store} : mk l s r ++ t = mk l s (r ++ t) := rfl
theorem atI_last {α : Type} {xs : List α} (h : xs ≠ []) : ∃ a, a ∈ xs ∧ atI xs (-1) = some a := by
  have hp : 0 < xs.length := List.length_pos_iff.mpr h
  have hl : xs.length - 1 < xs.length := by omega
  refine ⟨xs[xs.length - 1], List.getElem_mem hl, ?_⟩
  unfold atI ixN
  rw [if_neg (by omega), if_pos (by omega)]
  show xs[((-1 : Int) + xs.length).toNat]? = _
  rw [show ((-1 : Int) + xs.length).toNat = xs.length - 1 from by omega, List.getElem?_eq_getElem hl]
theorem at_app {r t : Store} {o : MO} : (mk l s (r ++ o :: t))[r.length + 2]? = some o := by
  show (r ++ o :: t)[r.length]? = _
  rw [List.getElem?_append_right (Nat.le_refl _)]
  simp
theorem at_app1 {r t : Store} {o o' : MO} : (mk l s (r ++ o :: o' :: t))[r.length + 3]? = some o' := by
  show (r ++ o :: o' :: t)[r.length + 1]? = _
  rw [List.getElem?_append_right (by omega)]
  simp
theorem belows_ints (n : Nat) : ∀ l : List Int, belows n (l.map MV.int) = true
  | [] => rfl
  | i :: r => by
    show (below n (.int i) && belows n (r.map MV.int)) = true
    rw [belows_ints n r]
    rfl
theorem cl_mk {n : Nat} (hn : 0 < n) (cl : r.all (belowO n) = true) : (mk l s r).all (belowO n) = true := by
  show (belowO n (.rol (l.map MV.int)) && (belowO n (rowO s) && r.all (belowO n))) = true
  rw [cl]
  have h1 : belowO n (.rol (l.map MV.int)) = true := belows_ints n l
  have h2 : belowO n (rowO s) = true := by
    simp [rowO, belowO, belows, below, hn]
  rw [h1, h2]
  rfl
theorem take_mk {t : Store} : (mk l s (r ++ t)).take (r.length + 1 + 1) = mk l s r := by
  show MO.rol (l.map MV.int) :: rowO s :: (r ++ t).take r.length = _
  rw [List.take_left]
theorem gc_val {t : Store} {w : MV} (cl : r.all (belowO (r.length + 2)) = true) (hw : below (r.length + 2) w = true) (h : Q w (mk l s r)) : wp (gc (r.length + 1 + 1) w (mk l s (r ++ t))) E Q := by
  unfold gc
  split
  · rename_i e
    have ht : t = [] := by
      have e2 : (r ++ t).length + 1 + 1 = r.length + 1 + 1 := e
      rw [List.length_append] at e2
      exact List.length_eq_zero_iff.mp (by omega)
    subst ht
    rw [List.append_nil]
    exact h
  · rw [take_mk, if_pos (cl_mk (by omega) cl)]
    first | (rw [if_pos hw]; exact h) | exact h
theorem gc_new {t : Store} {o : MO} {k : Nat} (cl : r.all (belowO (r.length + 2)) = true) (hk : r.length ≤ k) (ho : (r ++ t)[k]? = some o) (hb : belowO (r.length + 2) o = true) (h : Q (.ref (r.length + 2)) (mk l s (r ++ [o]))) :
    wp (gc (r.length + 1 + 1) (.ref (k + 2)) (mk l s (r ++ t))) E Q := by
  unfold gc
  have hl : k < (r ++ t).length := (List.getElem?_eq_some_iff.mp ho).1
  have e1 : ¬ (mk l s (r ++ t)).length = r.length + 1 + 1 := by
    show ¬ (r ++ t).length + 1 + 1 = r.length + 1 + 1
    omega
  have e2 : ¬ below (r.length + 1 + 1) (.ref (k + 2)) = true := by
    unfold below
    simp
    omega
  rw [if_neg e1, take_mk, if_pos (cl_mk (by omega) cl), if_neg e2]
  have e3 : (mk l s (r ++ t))[k + 2]? = some o := ho
  dsimp only
  rw [e3]
  dsimp only
  rw [if_pos hb]
  exact h
theorem belows_mvP (n : Nat) : ∀ xs : List (Str × Str), belows n (xs.map mvP) = true
  | [] => rfl
  | q :: r => by
    show (below n (mvP q) && belows n (r.map mvP)) = true
    rw [belows_mvP n r]
    rfl
theorem tree {m : Nat} (h0 : 1 ≤ m) (h1 : m ≤ 8) (cl : r.all (belowO (r.length + 2)) = true)
    (h : ∀ xs s', Tree xs → xs.length = m → Q (.ref (r.length + 2)) (mk l s' (r ++ [.lst (xs.map mvP)]))) : wp (D__law_tree [.ref 1, .int m] (mk l s r)) E Q := by
  unfold D__law_tree
  rw [wp_fn (n := List.length [PySem.Str.ofString "row", PySem.Str.ofString "many"]) (ws := [MV.ref 1, MV.int m]) rfl]
  unfold d__law_tree
  simp only [n__law_tree]
  walk_at "run2"
  refine ⟨by decide, ?_⟩
  refine taken l s _ (by decide) (by decide) fun way s1 hw0 hw1 => ?_
  walk_at "run2"
  refine ⟨by decide, ?_⟩
  refine ⟨by omega, wp_forI m (fun i ρ S => ∃ (xs : List (Str × Str)) (s' : S3) (j : Store) (v5 v6 v7 v8 : Option MV), Tree xs ∧ xs.length = i ∧ S = mk l s' (r ++ (.lst (nm8.map .str) :: .lst (xs.map mvP) :: j)) ∧
    ρ = [some (.ref 1), some (.int m), some (.ref (r.length + 2)), some (.int way), some (.ref (r.length + 3)), v5, v6, v7, v8]) ?_ ?_ m 4096 0 _ _ (by omega) (by omega) ⟨[], s1, [], none, none, none, none, .nil, rfl, ?_, ?_⟩ ?_⟩
  · intro ρ S _
    unfold srcRng
    rw [if_neg (by omega)]
  · rintro i ρ S hi ⟨xs, s', j, v5, v6, v7, v8, ht, hl, rfl, rfl⟩
    refine ⟨.int i, ?_, ?_⟩
    · unfold srcRng
      rw [if_pos (by omega)]
      simp
    · walk_at "run2"
      refine ⟨by decide, ?_⟩
      rw [wp_lc]
      walk_at "run2"
      rw [wp_srcL (xs := xs.map mvP) (by simp only [List.append_assoc, List.cons_append]; exact at_app1)]
      have hx : xs.length ≤ 8 := by omega
      refine lc_fst (a := r.length + 3) (xs := xs) hx (by simp) (by simp only [List.append_assoc, List.cons_append]; exact at_app1) ?_
      have hN : (r ++ .lst (nm8.map .str) :: .lst (xs.map mvP) :: j)[r.length]? = some (.lst (nm8.map .str)) := by
        rw [List.getElem?_append_right (Nat.le_refl _)]; simp
      have hF : (r ++ .lst (nm8.map .str) :: .lst (xs.map mvP) :: j)[r.length + 1]? = some (.lst (xs.map mvP)) := by
        rw [List.getElem?_append_right (by omega)]; simp
      have hset : ∀ o t, ((r ++ .lst (nm8.map .str) :: .lst (xs.map mvP) :: j) ++ t).set (r.length + 1) o = r ++ .lst (nm8.map .str) :: o :: (j ++ t) := fun o t => by
        rw [List.append_assoc, List.set_append_right _ _ (by omega)]
        simp
      generalize hR : r ++ .lst (nm8.map .str) :: .lst (xs.map mvP) :: j = R at hN hF hset ⊢
      have hRl : r.length + 1 < R.length := (List.getElem?_eq_some_iff.mp hF).1
      generalize hA : (MO.lst [MV.str (Str.ofString "top")]) = A
      generalize hB : (MO.lst (xs.map fun q => MV.str q.1)) = B
      have e1 : (MO.rol (l.map MV.int) :: rowO s' :: (R ++ [A]) ++ [B])[R.length + 1 + 1]? = some (.lst [.str "top"]) := by
        rw [← hA]; simp
      have e2 : (MO.rol (l.map MV.int) :: rowO s' :: (R ++ [A]) ++ [B])[(MO.rol (l.map MV.int) :: rowO s' :: (R ++ [A])).length]? = some (.lst (xs.map fun q => MV.str q.1)) := by
        rw [← hB]; exact getE_new
      rw [wp_addL e1 e2 (by simp; omega)]
      generalize hns : ([MV.str (Str.ofString "top")] ++ xs.map fun q => MV.str q.1) = ns
      have e3 : (MO.rol (l.map MV.int) :: rowO s' :: (R ++ [A]) ++ [B]).length = R.length + 4 := by simp
      rw [e3]
      have e4 : (MO.rol (l.map MV.int) :: rowO s' :: (R ++ [A]) ++ [B]) ++ [.lst ns] = mk l s' (R ++ [A, B, .lst ns]) := by simp
      rw [e4]
      have hns0 : ns ≠ [] := by rw [← hns]; simp
      have hnl : ns.length ≤ 9 := by rw [← hns]; simp; omega
      have hmem : ∀ a ∈ ns, ∃ u, a = .str u ∧ u ∈ ("top" : Str) :: xs.map (·.1) := by
        rw [← hns]
        intro a ha
        simp at ha
        rcases ha with rfl | ⟨u, ⟨v, hv⟩, rfl⟩
        · exact ⟨_, rfl, by simp⟩
        · exact ⟨u, rfl, by simp; exact .inr ⟨v, hv⟩⟩
      have at_ns : ∀ s t, (mk l s ((R ++ [A, B, .lst ns]) ++ t))[R.length + 4]? = some (.lst ns) := fun s t => by
        show ((R ++ [A, B, .lst ns]) ++ t)[R.length + 2]? = _
        rw [List.append_assoc, List.getElem?_append_right (by omega)]
        simp
      have at_ns0 : ∀ s, (mk l s (R ++ [A, B, .lst ns]))[R.length + 4]? = some (.lst ns) := fun s => by simpa using at_ns s []
      rw [wp_ixL (at_ns0 s')]
      obtain ⟨a1, m1, i1⟩ := atI_last hns0
      refine ⟨a1, i1, ?_⟩
      refine taken l s' _ (by decide) (by decide) fun k2 s2 g0 g1 => ?_
      have hp : 0 < ns.length := List.length_pos_iff.mpr hns0
      refine ⟨ns.length, lenL (at_ns0 s2), ?_⟩
      walk_at "run2"
      refine ⟨by omega, ?_⟩
      rw [wp_ixL (at_ns0 s2)]
      obtain ⟨a2, m2, i2⟩ := atI_lt (xs := ns) (k := k2 % (ns.length : Int)) (Int.emod_nonneg _ (by omega)) (Int.emod_lt_of_pos _ (by omega))
      refine ⟨a2, i2, ?_⟩
      refine pick (xs := ns) (.inr ⟨R.length + 2, rfl, by rw [List.getElem?_append_right (by omega)]; simp⟩) hns0 (by omega) fun a3 s3 m3 => ?_
      refine ⟨by decide, ?_⟩
      rw [wp_ixL getE_new]
      obtain ⟨a4, m4, i4⟩ := atI_lt (xs := [a1, a2, a3]) (k := way) hw0 (by simpa using hw1)
      refine ⟨a4, i4, ?_⟩
      have m5 : a4 ∈ ns := by
        simp at m4
        rcases m4 with rfl | rfl | rfl <;> assumption
      obtain ⟨u, rfl, hu⟩ := hmem a4 m5
      have e5 : mk l s3 (R ++ [A, B, .lst ns]) ++ [.lst [a1, a2, a3]] = mk l s3 (R ++ [A, B, .lst ns, .lst [a1, a2, a3]]) := by simp
      rw [e5]
      have e6 : ∀ t, (mk l s3 (R ++ t))[r.length + 3]? = some (.lst (xs.map mvP)) := fun t => by
        show (R ++ t)[r.length + 1]? = _
        exact getE_app hF t
      have e7 : ∀ t, (mk l s3 (R ++ t))[r.length + 2]? = some (.lst (nm8.map .str)) := fun t => by
        show (R ++ t)[r.length]? = _
        exact getE_app hN t
      refine ⟨isLst_ref (e6 _), ?_⟩
      rw [wp_ixL (e7 _)]
      have hi8 : i < nm8.length := by show i < 8; omega
      refine ⟨.str nm8[i], ?_, by decide, ?_⟩
      · unfold atI ixN
        rw [if_pos (by omega), if_pos (by simpa using hi8)]
        show (nm8.map MV.str)[(i : Int).toNat]? = _
        rw [Int.toNat_natCast, List.getElem?_map, List.getElem?_eq_getElem hi8]
        rfl
      · rw [wp_append (e6 _) (by simp; omega)]
        refine ⟨xs ++ [(nm8[i], u)], s3, j ++ [A, B, .lst ns, .lst [a1, a2, a3]], _, _, _, _, .snoc ht (by rw [hl]; exact List.getElem?_eq_getElem hi8) hu, by simp [hl], ?_, rfl⟩
        show mk l s3 ((R ++ _).set (r.length + 1) _) = _
        rw [hset, List.map_append]
        rfl
  · simp [nm8]
  · simp
  · rintro ρ' S' ⟨xs, s', j, v5, v6, v7, v8, ht, hl, rfl, rfl⟩
    walk_at "run2"
    exact gc_new (k := r.length + 1) (o := .lst (xs.map mvP)) cl (by omega) (by rw [List.getElem?_append_right (by omega)]; simp) (belows_mvP _ _) (h xs s' ht hl)
end
end K06


set_option Elab.async false
set_option linter.all false
set_option maxRecDepth 100000
set_option maxHeartbeats 1000000
namespace K06
open PySem PySem.Spec PyProof.Rows L2 MI
/-- a kind that a drawn method takes or gives; a drawn signature -/
def kindsOf (names : List Str) : List Str := "num" :: "num" :: "top" :: names
structure Sig (names : List Str) (q : List Str × Str) : Prop where
  few : q.1.length ≤ 2
  ins : ∀ x ∈ q.1, x ∈ kindsOf names
  out : q.2 ∈ kindsOf names
def mvSig (q : List Str × Str) : MV := .tup [.tup (q.1.map .str), .str q.2]
def words3 : List Str := ["ma", "mb", "mc"]
def dicOf (sg : List (List Str × Str)) : List (Key × MV) := (words3.zip sg).map fun p => (.inr p.1, mvSig p.2)
end K06
open PySem PySem.Spec PyProof.Rows L2 MI K06
local macro_rules | `(tactic| walk_at "nrm") => `(tactic| simp only [List.append_assoc, List.cons_append, List.nil_append, List.length_append, List.length_cons, List.length_nil, Nat.zero_add, Nat.add_assoc, Nat.reduceAdd])
namespace K06
open PySem PySem.Spec PyProof.Rows L2 MI
section
variable {l : List Int} {s : S3} {r : Store} {E : EX} {Q : MV → Store → Prop} {S : Store} {QE : Env' → Store → Prop} {ρ : Env'}
theorem dicOf_put {sg : List (List Str × Str)} {q : List Str × Str} {i : Nat} {a : Str} (h : sg.length = i) (ha : words3[i]? = some a) : putM (dicOf sg) (.inr a) (mvSig q) = dicOf (sg ++ [q]) := by
  match i, sg, h, ha with
  | 0, [], _, ha => cases ha; rfl
  | 1, [x], _, ha => cases ha; rfl
  | 2, [x, y], _, ha => cases ha; rfl
  | n + 3, _, _, ha => cases ha
theorem dicOf_len (sg : List (List Str × Str)) : (dicOf sg).length ≤ 3 := by
  unfold dicOf
  rw [List.length_map, List.length_zip]
  exact Nat.min_le_left _ _
theorem wp_tupOf {n : Nat} {xs : List MV} (e : S[n]? = some (.lst xs)) : wp (fTupOf (.ref n) S) E Q = Q (.tup xs) S := by
  unfold fTupOf itemsOf
  dsimp only
  rw [e]
  rfl
theorem wp_setD {n : Nat} {kvs : List (Key × MV)} {x : Str} {w : MV} (h : S[n]? = some (.dic kvs)) (hl : kvs.length ≤ 100000) : fSet (.ref n) (.str x) w S = some (S.set n (.dic (putM kvs (.inr x) w))) := by
  unfold fSet keyM
  simp only [h, if_pos hl]
theorem wp_gT {g : DenGs} {ws : List MV} : wp (gT g (.tup ws) ρ S) E QE = wp (g ws ρ S) E QE := rfl
theorem wp_gsCons {g : DenG} {r : DenGs} {w : MV} {ws : List MV} : wp (gsCons g r (w :: ws) ρ S) (fun _ _ _ => False) QE = wp (g w ρ S) (fun _ _ _ => False) fun ρ1 S1 => wp (r ws ρ1 S1) (fun _ _ _ => False) QE := by
  unfold gsCons
  dsimp only
  cases g w ρ S <;> rfl
theorem wp_gsNil : wp (gsNil [] ρ S) E QE = QE ρ S := rfl
theorem lenAB {A B : MO} {n : Nat} (h : n = r.length) : (mk l s (r ++ [A]))[n + 2]? = some A := by
  subst h
  show (r ++ [A])[r.length]? = _
  simp
theorem signs {w : MV} {names : List Str} (hn : SeqR r w (names.map .str)) (hw : ∃ k, w = .ref k) (h8 : names.length ≤ 8) (cl : r.all (belowO (r.length + 2)) = true)
    (h : ∀ sg s', sg.length = 3 → (∀ q ∈ sg, Sig names q) → Q (.ref (r.length + 2)) (mk l s' (r ++ [.dic (dicOf sg)]))) : wp (D__law_signs [.ref 1, w] (mk l s r)) E Q := by
  unfold D__law_signs
  rw [wp_fn (n := List.length [PySem.Str.ofString "row", PySem.Str.ofString "names"]) (ws := [MV.ref 1, w]) rfl]
  unfold d__law_signs
  simp only [n__law_signs]
  walk_at "run2"
  refine ⟨by decide, ?_⟩
  rcases hn with rfl | ⟨k, rfl, e⟩
  · obtain ⟨k, hk⟩ := hw
    cases hk
  have ea : (mk l s (r ++ [.lst [.str "num", .str "num", .str "top"]]))[r.length + 1 + 1]? = some (.lst [.str "num", .str "num", .str "top"]) := by simp
  have eb : (mk l s (r ++ [.lst [.str "num", .str "num", .str "top"]]))[k + 2]? = some (.lst (names.map .str)) := getE_app e _
  rw [wp_addL ea eb (by simp; omega)]
  generalize hks : ([.str "num", .str "num", .str "top"] ++ names.map MV.str : List MV) = ks
  have hmem : ∀ a ∈ ks, ∃ u, a = .str u ∧ u ∈ kindsOf names := by
    rw [← hks]
    intro a ha
    have e2 : ([.str "num", .str "num", .str "top"] ++ names.map MV.str : List MV) = (kindsOf names).map MV.str := rfl
    rw [e2, List.mem_map] at ha
    obtain ⟨u, hu, rfl⟩ := ha
    exact ⟨u, rfl, hu⟩
  have hk0 : ks ≠ [] := by rw [← hks]; simp
  have hkl : ks.length < 100000 := by rw [← hks]; simp; omega
  generalize (MO.lst [.str "num", .str "num", .str "top"]) = A
  refine ⟨by decide, ?_⟩
  rw [wp_gT, wp_gsCons]
  walk_at "run2"
  rw [wp_gsCons]
  walk_at "run2"
  rw [wp_gsNil]
  refine ⟨by decide, ?_⟩
  rw [wp_srcL getE_new]
  generalize hW : (MO.lst [.str "ma", .str "mb", .str "mc"]) = W
  walk_at "nrm"
  have hWat : ∀ s d j, (mk l s (r ++ (A :: .lst ks :: d :: W :: j)))[r.length + 5]? = some (.lst [.str "ma", .str "mb", .str "mc"]) := fun s d j => by
    rw [← hW]
    show (r ++ _)[r.length + 3]? = _
    rw [List.getElem?_append_right (by omega)]
    simp
  have hKat : ∀ s d j, (mk l s (r ++ (A :: .lst ks :: d :: W :: j)))[r.length + 3]? = some (.lst ks) := fun s d j => by
    show (r ++ _)[r.length + 1]? = _
    rw [List.getElem?_append_right (by omega)]
    simp
  have hDat : ∀ s d j, (mk l s (r ++ (A :: .lst ks :: d :: W :: j)))[r.length + 4]? = some d := fun s d j => by
    show (r ++ _)[r.length + 2]? = _
    rw [List.getElem?_append_right (by omega)]
    simp
  refine wp_forI 3 (fun i ρ S => ∃ (sg : List (List Str × Str)) (s' : S3) (j : Store) (v4 v5 v6 : Option MV), sg.length = i ∧ (∀ q ∈ sg, Sig names q) ∧ S = mk l s' (r ++ (A :: .lst ks :: .dic (dicOf sg) :: W :: j)) ∧
    ρ = [some (.ref 1), some (.ref (k + 2)), some (.ref (r.length + 3)), some (.ref (r.length + 4)), v4, v5, v6]) ?_ ?_ 3 4096 0 _ _ (by omega) (by omega) ⟨[], s, [], none, none, none, rfl, by simp, rfl, rfl⟩ ?_
  · rintro ρ S ⟨sg, s', j, v4, v5, v6, hl, hg, rfl, rfl⟩
    rw [srcRef_at (hWat _ _ _)]
    rfl
  · rintro i ρ S hi ⟨sg, s', j, v4, v5, v6, hl, hg, rfl, rfl⟩
    have hW3 : i < words3.length := hi
    refine ⟨.str words3[i], ?_, ?_⟩
    · rw [srcRef_at (hWat _ _ _)]
      show (match (words3.map MV.str)[i]? with | some w => Nx.yield w | none => .stop) = _
      rw [List.getElem?_map, List.getElem?_eq_getElem hW3]
      rfl
    · walk_at "run2"
      rw [wp_lc]
      walk_at "run2"
      refine taken l s' _ (by decide) (by decide) fun n s2 g0 g1 => ?_
      walk_at "run2"
      refine ⟨by omega, ?_⟩
      have hlen : ∀ s2, (mk l s2 (r ++ A :: .lst ks :: .dic (dicOf sg) :: W :: j)).length = r.length + j.length + 6 := fun s2 => by simp; omega
      have hat : ∀ s3 acc, (mk l s3 (r ++ A :: .lst ks :: .dic (dicOf sg) :: W :: (j ++ [.lst acc])))[r.length + j.length + 6]? = some (.lst acc) := fun s3 acc => by
        show (r ++ A :: .lst ks :: .dic (dicOf sg) :: W :: (j ++ [.lst acc]))[r.length + j.length + 4]? = _
        rw [List.getElem?_append_right (by omega)]
        rw [show r.length + j.length + 4 - r.length = j.length + 4 from by omega]
        simp
      have hst : ∀ s3 acc o, (mk l s3 (r ++ A :: .lst ks :: .dic (dicOf sg) :: W :: (j ++ [.lst acc]))).set (r.length + j.length + 6) o = mk l s3 (r ++ A :: .lst ks :: .dic (dicOf sg) :: W :: (j ++ [o])) := fun s3 acc o => by
        show MO.rol _ :: rowO s3 :: (r ++ A :: .lst ks :: .dic (dicOf sg) :: W :: (j ++ [.lst acc])).set (r.length + j.length + 4) o = _
        rw [List.set_append_right _ _ (by omega)]
        rw [show r.length + j.length + 4 - r.length = j.length + 4 from by omega]
        simp
      have hks2 : ∀ t, SeqR (r ++ A :: .lst ks :: .dic (dicOf sg) :: W :: t) (.ref (r.length + 3)) ks := fun t => .inr ⟨r.length + 1, rfl, by rw [List.getElem?_append_right (by omega)]; simp⟩
      refine wp_lcI (S := mk l s2 (r ++ A :: .lst ks :: .dic (dicOf sg) :: W :: j)) (f := 4096) n.toNat (fun t acc S' => ∃ (us : List Str) (s3 : S3), S' = mk l s3 (r ++ A :: .lst ks :: .dic (dicOf sg) :: W :: (j ++ [.lst acc])) ∧ acc = us.map .str ∧ us.length = t ∧ ∀ u ∈ us, u ∈ kindsOf names) (by omega) ?_ ?_ ⟨[], s2, by simp, rfl, rfl, by simp⟩ ?_ ?_
      · rintro t acc S' ⟨us, s3, rfl, rfl, _⟩
        rw [hlen]
        exact hat _ _
      · rintro acc S' ⟨us, s3, rfl, rfl, _⟩
        unfold srcRng
        rw [if_neg (by omega)]
      · rintro t acc S' ht ⟨us, s3, rfl, rfl, hu, hus⟩
        refine ⟨.int t, ?_, ?_⟩
        · unfold srcRng
          rw [if_pos (by omega)]
          simp
        · simp only [wipeM]
          walk_at "run2"
          refine pick (hks2 _) hk0 hkl fun a s4 ma => ?_
          obtain ⟨u, rfl, hu2⟩ := hmem a ma
          rw [show (r ++ A :: .lst ks :: .dic (dicOf sg) :: W :: j).length + 1 + 1 = r.length + j.length + 6 from hlen s2]
          refine ⟨hat _ _, by simp; omega, us ++ [u], s4, ?_, by simp, by simp [hu], ?_⟩
          · rw [hst]
          · intro v hv
            simp at hv
            rcases hv with hv | rfl
            · exact hus v hv
            · exact hu2
      · rintro acc S' ⟨us, s3, rfl, rfl, hu, hus⟩
        rw [hlen, wp_tupOf (hat _ _)]
        refine pick (hks2 _) hk0 hkl fun a s4 ma => ?_
        obtain ⟨o, rfl, ho⟩ := hmem a ma
        refine ⟨by decide, _, wp_setD (hDat _ _ _) (Nat.le_trans (dicOf_len sg) (by decide)), sg ++ [(us, o)], s4, j ++ [.lst (us.map .str)], _, _, _, by simp [hl], ?_, ?_, rfl⟩
        · intro q hq
          simp at hq
          rcases hq with hq | rfl
          · exact hg q hq
          · exact ⟨by show us.length ≤ 2; omega, hus, ho⟩
        · rw [show (MV.tup [.tup (us.map .str), .str o]) = mvSig (us, o) from rfl, dicOf_put hl (List.getElem?_eq_getElem hW3)]
          show MO.rol _ :: rowO s4 :: (r ++ A :: .lst ks :: .dic (dicOf sg) :: W :: (j ++ [.lst (us.map .str)])).set (r.length + 2) _ = _
          rw [List.set_append_right _ _ (by omega)]
          rw [show r.length + 2 - r.length = 2 from by omega]
          rfl
  · rintro ρ' S' ⟨sg, s', j, v4, v5, v6, hl, hg, rfl, rfl⟩
    walk_at "run2"
    have hb : ∀ (n : Nat) (sg : List (List Str × Str)) , belowO n (.dic (dicOf sg)) = true := fun n sg => by
      show belows n ((dicOf sg).map (·.2)) = true
      unfold dicOf
      rw [List.map_map]
      generalize words3.zip sg = z
      induction z with
      | nil => rfl
      | cons p z ih =>
        show (below n (mvSig p.2) && belows n (z.map _)) = true
        rw [ih, Bool.and_true]
        unfold mvSig
        show ((belows n (p.2.1.map MV.str)) && (true && true)) = true
        rw [Bool.and_true]
        generalize p.2.1 = us
        induction us with
        | nil => rfl
        | cons u us ih2 => exact ih2
    exact gc_new (k := r.length + 2) (o := .dic (dicOf sg)) cl (by omega) (by rw [List.getElem?_append_right (by omega)]; rw [show r.length + 2 - r.length = 2 from by omega]; rfl) (hb _ _) (h sg s' hl hg)
end
end K06


set_option Elab.async false
set_option linter.all false
set_option maxRecDepth 100000
set_option maxHeartbeats 1000000
namespace K06
open PySem PySem.Spec PyProof.Rows L2 MI
mutual
theorem below_le {n m : Nat} (h : n ≤ m) : ∀ w : MV, below n w = true → below m w = true
  | .tup l, e => by
    unfold below at e ⊢
    exact belows_le h l e
  | .ref k, e => by
    unfold below at e ⊢
    exact decide_eq_true (Nat.lt_of_lt_of_le (of_decide_eq_true e) h)
  | .non, _ => rfl
  | .bl _, _ => rfl
  | .int _, _ => rfl
  | .str _, _ => rfl
theorem belows_le {n m : Nat} (h : n ≤ m) : ∀ l : List MV, belows n l = true → belows m l = true
  | [], _ => rfl
  | w :: ws, e => by
    unfold belows at e ⊢
    rw [Bool.and_eq_true] at e ⊢
    exact ⟨below_le h w e.1, belows_le h ws e.2⟩
end
theorem belowO_le {n m : Nat} (h : n ≤ m) (o : MO) (e : belowO n o = true) : belowO m o = true := by
  cases o <;> exact belows_le h _ e
theorem all_le {n m : Nat} (h : n ≤ m) {r : Store} (e : r.all (belowO n) = true) : r.all (belowO m) = true := List.all_eq_true.mpr fun o ho => belowO_le h o (List.all_eq_true.mp e o ho)
theorem belows_strs (n : Nat) : ∀ us : List Str, belows n (us.map MV.str) = true
  | [] => rfl
  | _ :: us => belows_strs n us
/-- a drawn class without its codes -/
structure CB where
  name : Str
  upper : Str
  fields : List (Str × Str)
  ms : List (Str × (List Str × Str))
def mvM (q : Str × (List Str × Str)) : MV := .tup [.str q.1, .tup (q.2.1.map .str), .str q.2.2]
def mvCB (c : CB) : MV := .tup [.str c.name, .str c.upper, .tup (c.fields.map mvP), .tup (c.ms.map mvM)]
abbrev lets : Str := "abcdefghijklmnopqrstuvwx"
def fw (k : Nat) : Str := "f" ++ (⟨#[lets.cps.getD k 0]⟩ : Str)
/-- drawn classes: from which tree, which signatures; the fields' words are told in turn -/
structure Bare (cs : List CB) : Prop where
  tree : Tree (cs.map fun c => (c.name, c.upper))
  few : cs.length ≤ 8
  fws : ((cs.map (·.fields)).flatten).map (·.1) = (List.range ((cs.map (·.fields)).flatten).length).map fw
  fk : ∀ c ∈ cs, ∀ f ∈ c.fields, f.2 ∈ kindsOf (cs.map (·.name))
  f2 : ∀ c ∈ cs, c.fields.length ≤ 2
  ms : ∃ sg : Str → List Str × Str, (∀ w, w ∈ words3 → Sig (cs.map (·.name)) (sg w)) ∧ ∀ c ∈ cs, (c.ms.map (·.1)).Sublist words3 ∧ ∀ q ∈ c.ms, q.2 = sg q.1
section
variable {l : List Int} {s : S3} {r : Store} {E : EX} {Q : MV → Store → Prop} {S : Store}
theorem wp_ixD {n : Nat} {kvs : List (Key × MV)} {x : Str} {v : MV} (h : S[n]? = some (.dic kvs)) (hv : valM kvs (.inr x) = some v) : wp (fIx (.ref n) (.str x) S) E Q = Q v S := by
  unfold fIx keyM
  simp only [h, hv]
  rfl
theorem wp_addT {x y : List MV} (h : x.length + y.length ≤ 100000) : wp (fAdd (.tup x) (.tup y) S) E Q = Q (.tup (x ++ y)) S := by
  unfold fAdd
  dsimp only
  rw [if_pos h]
  rfl
theorem wp_addS {x y : Str} (h : x.length + y.length ≤ 100000) : wp (fAdd (.str x) (.str y) S) E Q = Q (.str (x ++ y)) S := by
  unfold fAdd
  dsimp only
  rw [if_pos h]
  rfl
theorem wp_ixS {z : Str} {i : Int} {c : Nat} (h : z.length ≤ 100000) (hc : atI z.cps.toList i = some c) : wp (fIx (.str z) (.int i) S) E Q = Q (.str ⟨#[c]⟩) S := by
  unfold fIx
  dsimp only
  rw [if_pos h, hc]
  rfl
theorem wp_eqI {i j : Int} : wp (fEq (.int i) (.int j) S) E Q = Q (.bl (decide (i = j))) S := by
  unfold fEq eqM scalM
  rfl
theorem lets_at : ∀ k < 24, atI lets.cps.toList ((k : Nat) : Int) = some (lets.cps.getD k 0) := by decide +kernel
def sgF (sg : List (List Str × Str)) (w : Str) : List Str × Str := if w = "ma" then sg.getD 0 ([], "") else if w = "mb" then sg.getD 1 ([], "") else sg.getD 2 ([], "")
theorem sgF_at {sg : List (List Str × Str)} (h : sg.length = 3) {w : Str} (hw : w ∈ words3) : valM (dicOf sg) (.inr w) = some (mvSig (sgF sg w)) ∧ sgF sg w ∈ sg := by
  match sg, h with
  | [a, b, c], _ =>
    have hw2 : w = "ma" ∨ w = "mb" ∨ w = "mc" := by simpa [words3] using hw
    rcases hw2 with rfl | rfl | rfl
    · exact ⟨rfl, by show a ∈ [a, b, c]; simp⟩
    · exact ⟨rfl, by show b ∈ [a, b, c]; simp⟩
    · exact ⟨rfl, by show c ∈ [a, b, c]; simp⟩
/-! places -/
abbrev B4 (r : Store) (TR NM F D : MO) (j : Store) : Store := r ++ TR :: NM :: F :: D :: j
variable {TR NM F D : MO} {j : Store}
theorem b_at (i : Nat) : (mk l s (B4 r TR NM F D j))[r.length + (i + 2)]? = (TR :: NM :: F :: D :: j)[i]? := by
  show (r ++ TR :: NM :: F :: D :: j)[r.length + i]? = _
  rw [List.getElem?_append_right (by omega), show r.length + i - r.length = i from by omega]
theorem b_set (i : Nat) (o : MO) : (mk l s (B4 r TR NM F D j)).set (r.length + (i + 2)) o = mk l s (r ++ (TR :: NM :: F :: D :: j).set i o) := by
  show MO.rol _ :: rowO s :: (r ++ TR :: NM :: F :: D :: j).set (r.length + i) o = _
  rw [List.set_append_right _ _ (by omega), show r.length + i - r.length = i from by omega]
theorem b_len : (mk l s (B4 r TR NM F D j)).length = r.length + (j.length + 6) := by
  show (r ++ TR :: NM :: F :: D :: j).length + 1 + 1 = _
  simp
  omega
def fieldsBody : DenS := (sSeq (sExpr (dMet isLst fAppend (dVar 9) (aCons (dTup (aCons (dBin fAdd (dC (.str "f")) (dBin fIx (dC (.str "abcdefghijklmnopqrstuvwx")) (dVar 5))) (aCons (dCall D__law_pick (aCons (dVar 0) (aCons (dBin fAdd (dLst (aCons (dC (.str "num")) (aCons (dC (.str "num")) (aCons (dC (.str "top")) aNil)))) (dVar 3)) aNil))) aNil))) aNil)))
  (sAsg (dBin fAdd (dVar 5) (dC (.int 1))) (gN 5)))
theorem fields_loop {names : List Str} {tot n : Nat} {QF : Fl → Store → Prop} {a1 a2 a4 a6 a7 a8 a10 a11 a12 a13 : Option MV} (hn : n ≤ 2) (ht : tot + n ≤ 24) (h8 : names.length ≤ 8)
    (h : ∀ (fs : List (Str × Str)) s' j' a10, fs.length = n → fs.map (·.1) = (List.range n).map (fun a => fw (tot + a)) → (∀ f ∈ fs, f.2 ∈ kindsOf names) →
      QF (.next [some (.ref 1), a1, a2, some (.ref (r.length + 3)), a4, some (.int ((tot + n : Nat) : Int)), a6, a7, a8, some (.ref (r.length + (j.length + 6))), a10, a11, a12, a13]) (mk l s' (B4 r TR (.lst (names.map .str)) F D (j ++ .lst (fs.map mvP) :: j')))) :
    wp (MI.forM (srcRng 0 (n : Int)) (gN 10) fieldsBody 4096 0 [some (.ref 1), a1, a2, some (.ref (r.length + 3)), a4, some (.int (tot : Int)), a6, a7, a8, some (.ref (r.length + (j.length + 6))), a10, a11, a12, a13]
      (mk l s (B4 r TR (.lst (names.map .str)) F D (j ++ [.lst []])))) E QF := by
  refine wp_forI n (fun t ρ S => ∃ (fs : List (Str × Str)) (s' : S3) (j' : Store) (a10 : Option MV), fs.length = t ∧ fs.map (·.1) = (List.range t).map (fun a => fw (tot + a)) ∧ (∀ f ∈ fs, f.2 ∈ kindsOf names) ∧
    S = mk l s' (B4 r TR (.lst (names.map .str)) F D (j ++ .lst (fs.map mvP) :: j')) ∧
    ρ = [some (.ref 1), a1, a2, some (.ref (r.length + 3)), a4, some (.int ((tot + t : Nat) : Int)), a6, a7, a8, some (.ref (r.length + (j.length + 6))), a10, a11, a12, a13]) ?_ ?_ n 4096 0 _ _ (by omega) (by omega) ⟨[], s, [], a10, rfl, rfl, by simp, rfl, rfl⟩ ?_
  · intro ρ S _
    unfold srcRng
    rw [if_neg (by omega)]
  · rintro t ρ S htn ⟨fs, s', j', a10, hl, hw, hk, rfl, rfl⟩
    refine ⟨.int t, ?_, ?_⟩
    · unfold srcRng
      rw [if_pos (by omega)]
      simp
    · unfold fieldsBody
      walk_at "run2"
      have hP : ∀ s' o j', (mk l s' (B4 r TR (.lst (names.map .str)) F D (j ++ o :: j')))[r.length + (j.length + 6)]? = some o := fun s' o j' => by
        rw [show j.length + 6 = (j.length + 4) + 2 from rfl, b_at]
        simp
      refine ⟨isLst_ref (hP _ _ _), ?_⟩
      rw [wp_ixS (by decide) (lets_at (tot + t) (by omega)), wp_addS (by rw [show (Str.ofString "f").length = 1 from by decide +kernel]; show 1 + 1 ≤ 100000; decide)]
      refine ⟨by decide, ?_⟩
      generalize hX : (MO.lst [MV.str (Str.ofString "num"), MV.str (Str.ofString "num"), MV.str (Str.ofString "top")]) = X
      have hJ : ∀ t, j ++ .lst (fs.map mvP) :: (j' ++ t) = (j ++ .lst (fs.map mvP) :: j') ++ t := fun t => by simp
      generalize hJe : j ++ .lst (fs.map mvP) :: j' = J at hJ ⊢
      have ea : (mk l s' (B4 r TR (.lst (names.map .str)) F D J) ++ [X])[(mk l s' (B4 r TR (.lst (names.map .str)) F D J)).length]? = some (.lst [.str "num", .str "num", .str "top"]) := by
        rw [← hX]; exact getE_new
      have eb : (mk l s' (B4 r TR (.lst (names.map .str)) F D J) ++ [X])[r.length + 3]? = some (.lst (names.map .str)) := getE_app (by rw [show r.length + 3 = r.length + (1 + 2) from rfl, b_at]; rfl) _
      rw [wp_addL ea eb (by simp; omega)]
      rw [show (mk l s' (B4 r TR (.lst (names.map .str)) F D J) ++ [X]).length = r.length + (J.length + 7) from by simp; omega]
      rw [show mk l s' (B4 r TR (.lst (names.map .str)) F D J) ++ [X] ++ [.lst ([.str "num", .str "num", .str "top"] ++ names.map MV.str)] = mk l s' (B4 r TR (.lst (names.map .str)) F D (J ++ [X, .lst ((kindsOf names).map .str)])) from by simp [B4, kindsOf]]
      refine pick (xs := (kindsOf names).map .str) (.inr ⟨r.length + (J.length + 5), rfl, ?_⟩) (by simp [kindsOf]) (by simp [kindsOf]; omega) fun a s4 ma => ?_
      · rw [List.getElem?_append_right (by omega), show r.length + (J.length + 5) - r.length = J.length + 5 from by omega]
        simp
      · obtain ⟨u, hu, rfl⟩ := List.mem_map.mp ma
        refine ⟨by decide, ?_⟩
        rw [← hJ, wp_append (hP _ _ _) (by simp; omega)]
        refine ⟨fs ++ [(fw (tot + t), u)], s4, j' ++ [X, .lst ((kindsOf names).map .str)], some (.int t), by simp [hl], ?_, ?_, ?_, ?_⟩
        · rw [List.map_append, hw, List.range_succ, List.map_append]
          rfl
        · intro f hf
          simp at hf
          rcases hf with hf | rfl
          · exact hk f hf
          · exact hu
        · rw [show (fs.map mvP ++ [MV.tup [.str ((Str.ofString "f") ++ (⟨#[lets.cps.getD (tot + t) 0]⟩ : Str)), .str u]]) = (fs ++ [(fw (tot + t), u)]).map mvP from by rw [List.map_append]; rfl]
          rw [show j.length + 6 = (j.length + 4) + 2 from rfl, b_set]
          generalize (fs ++ [(fw (tot + t), u)]).map mvP = fm
          simp [B4]
        · rw [show ((tot + t : Nat) : Int) + 1 = ((tot + (t + 1) : Nat) : Int) from by omega]
  · rintro ρ' S' ⟨fs, s', j', a10, hl, hw, hk, rfl, rfl⟩
    exact h fs s' j' a10 hl hw hk
def mEl (sg : List (List Str × Str)) (w : Str) : MV := mvM (w, sgF sg w)
theorem ms_comp {J : Store} {sg : List (List Str × Str)} {a1 a2 a3 a4 a5 a7 a8 a9 a10 a11 a12 : Option MV} (hsl : sg.length = 3) (hs2 : ∀ q ∈ sg, q.1.length ≤ 2)
    (h : ∀ (ws : List Str) s', ws.Sublist words3 → Q (.ref (r.length + (J.length + 7))) (mk l s' (B4 r TR NM F (.dic (dicOf sg)) (J ++ [.lst (words3.map .str), .lst (ws.map (mEl sg))])))) :
    wp (match lcM (srcRef (r.length + (J.length + 6))) (gN 13) (bCmp fEq (dCall D__law_taken (aCons (dVar 0) (aCons (dC (.int 2)) aNil))) (dC (.int 0))) (dBin fAdd (dTup (aCons (dVar 13) aNil)) (dBin fIx (dVar 6) (dVar 13)))
      [some (.ref 1), a1, a2, a3, a4, a5, some (.ref (r.length + 5)), a7, a8, a9, a10, a11, a12, none] (r.length + (J.length + 7)) 4096 0 (mk l s (B4 r TR NM F (.dic (dicOf sg)) (J ++ [.lst (words3.map .str), .lst []]))) with
    | some S2 => (.ok (.ref (r.length + (J.length + 7))) S2 : Res MV)
    | none => .stuck) E Q := by
  have hW : ∀ s' o, (mk l s' (B4 r TR NM F (.dic (dicOf sg)) (J ++ [.lst (words3.map .str), o])))[r.length + (J.length + 6)]? = some (.lst (words3.map .str)) := fun s' o => by
    rw [show J.length + 6 = (J.length + 4) + 2 from rfl, b_at]
    simp
  have hO : ∀ s' o, (mk l s' (B4 r TR NM F (.dic (dicOf sg)) (J ++ [.lst (words3.map .str), o])))[r.length + (J.length + 7)]? = some o := fun s' o => by
    rw [show J.length + 7 = (J.length + 5) + 2 from rfl, b_at]
    simp
  have hD : ∀ s' o, (mk l s' (B4 r TR NM F (.dic (dicOf sg)) (J ++ [.lst (words3.map .str), o])))[r.length + 5]? = some (.dic (dicOf sg)) := fun s' o => by
    rw [show (5 : Nat) = 3 + 2 from rfl, b_at]
    rfl
  have hst : ∀ s' o o', (mk l s' (B4 r TR NM F (.dic (dicOf sg)) (J ++ [.lst (words3.map .str), o]))).set (r.length + (J.length + 7)) o' = mk l s' (B4 r TR NM F (.dic (dicOf sg)) (J ++ [.lst (words3.map .str), o'])) := fun s' o o' => by
    rw [show J.length + 7 = (J.length + 5) + 2 from rfl, b_set]
    simp [B4]
  have key := lcM_inv (nx := srcRef (r.length + (J.length + 6))) (g := gN 13) (t := bCmp fEq (dCall D__law_taken (aCons (dVar 0) (aCons (dC (.int 2)) aNil))) (dC (.int 0))) (d := dBin fAdd (dTup (aCons (dVar 13) aNil)) (dBin fIx (dVar 6) (dVar 13)))
    (ρ0 := [some (.ref 1), a1, a2, a3, a4, a5, some (.ref (r.length + 5)), a7, a8, a9, a10, a11, a12, none]) (m := r.length + (J.length + 7)) 3
    (fun t acc S' => ∃ (ws : List Str) (s' : S3), ws.Sublist (words3.take t) ∧ acc = ws.map (mEl sg) ∧ S' = mk l s' (B4 r TR NM F (.dic (dicOf sg)) (J ++ [.lst (words3.map .str), .lst acc]))) ?_ ?_ ?_
    3 4096 0 [] (mk l s (B4 r TR NM F (.dic (dicOf sg)) (J ++ [.lst (words3.map .str), .lst []]))) rfl (by decide) ⟨[], s, by simp, rfl, rfl⟩
  · obtain ⟨acc', S', e, ws, s', hws, rfl, rfl⟩ := key
    rw [e]
    exact h ws s' hws
  · rintro i acc S ⟨ws, s', hws, rfl, rfl⟩
    exact hO _ _
  · rintro acc S ⟨ws, s', hws, rfl, rfl⟩
    rw [srcRef_at (hW _ _)]
    rfl
  · rintro i acc S hi ⟨ws, s', hws, rfl, rfl⟩
    have hi3 : i < words3.length := hi
    have hwl : ws.length ≤ 3 := Nat.le_trans hws.length_le (by simp; omega)
    refine ⟨.str words3[i], ?_, ?_⟩
    · rw [srcRef_at (hW _ _), List.getElem?_map, List.getElem?_eq_getElem hi3]
      rfl
    · walk_at "run2"
      refine taken l s' _ (by decide) (by decide) fun k s2 g0 g1 => ?_
      rw [wp_eqI]
      walk_at "run2"
      obtain ⟨hv, hm⟩ := sgF_at hsl (List.getElem_mem hi3)
      split
      · refine ⟨by decide, ?_⟩
        rw [wp_ixD (hD _ _) hv]
        unfold mvSig
        rw [wp_addT (by simp)]
        refine ⟨hO _ _, by simp; omega, ws ++ [words3[i]], s2, ?_, by rw [List.map_append]; rfl, ?_⟩
        · rw [List.take_add_one, List.getElem?_eq_getElem hi3]
          exact hws.append (List.Sublist.refl _)
        · rw [hst]
          try rfl
      · refine ⟨ws, s2, ?_, rfl, rfl⟩
        rw [List.take_add_one]
        exact hws.trans (List.sublist_append_left _ _)
def fieldsOf (cs : List CB) : List (Str × Str) := (cs.map (·.fields)).flatten
theorem fieldsOf_few : ∀ {cs : List CB}, (∀ c ∈ cs, c.fields.length ≤ 2) → (fieldsOf cs).length ≤ 2 * cs.length
  | [], _ => by simp [fieldsOf]
  | c :: cs, h => by
    have h1 := h c List.mem_cons_self
    have h2 := fieldsOf_few (cs := cs) fun d hd => h d (List.mem_cons_of_mem _ hd)
    unfold fieldsOf at h2 ⊢
    rw [List.map_cons, List.flatten_cons, List.length_append, List.length_cons]
    omega
structure Upto (xs : List (Str × Str)) (names : List Str) (sg : List (List Str × Str)) (i : Nat) (cs : List CB) : Prop where
  tr : cs.map (fun c => (c.name, c.upper)) = xs.take i
  fw : (fieldsOf cs).map (·.1) = (List.range (fieldsOf cs).length).map fw
  fk : ∀ c ∈ cs, ∀ f ∈ c.fields, f.2 ∈ kindsOf names
  f2 : ∀ c ∈ cs, c.fields.length ≤ 2
  ms : ∀ c ∈ cs, (c.ms.map (·.1)).Sublist words3 ∧ ∀ q ∈ c.ms, q.2 = sgF sg q.1
theorem belows_mvM (n : Nat) : ∀ ms : List (Str × (List Str × Str)), belows n (ms.map mvM) = true
  | [] => rfl
  | q :: ms => by
    show (below n (mvM q) && belows n (ms.map mvM)) = true
    rw [belows_mvM n ms, Bool.and_true]
    unfold mvM
    show (true && (belows n (q.2.1.map MV.str) && (true && true))) = true
    rw [belows_strs]
    rfl
theorem belows_mvCB (n : Nat) : ∀ cs : List CB, belows n (cs.map mvCB) = true
  | [] => rfl
  | c :: cs => by
    show (below n (mvCB c) && belows n (cs.map mvCB)) = true
    rw [belows_mvCB n cs, Bool.and_true]
    unfold mvCB
    show (true && (true && (belows n (c.fields.map mvP) && (belows n (c.ms.map mvM) && true)))) = true
    rw [belows_mvP, belows_mvM]
    rfl
theorem bare {m : Nat} (h0 : 1 ≤ m) (h1 : m ≤ 8) (cl : r.all (belowO (r.length + 2)) = true)
    (h : ∀ cs s', Bare cs → 0 < cs.length → cs.length ≤ m → Q (.ref (r.length + 2)) (mk l s' (r ++ [.lst (cs.map mvCB)]))) : wp (D__law_bare [.ref 1, .int m] (mk l s r)) E Q := by
  unfold D__law_bare
  rw [wp_fn (n := List.length [PySem.Str.ofString "row", PySem.Str.ofString "most"]) (ws := [MV.ref 1, MV.int m]) rfl]
  unfold d__law_bare
  simp only [n__law_bare]
  walk_at "run2"
  refine taken l s _ (by omega) (by omega) fun k s1 g0 g1 => ?_
  walk_at "run2"
  obtain ⟨k, rfl⟩ : ∃ k' : Nat, k = (k' : Int) := ⟨k.toNat, by omega⟩
  rw [show (1 : Int) + (k : Int) = ((k + 1 : Nat) : Int) from by omega]
  refine tree (m := k + 1) (by omega) (by omega) cl fun xs s2 hx hxl => ?_
  rw [wp_lc]
  walk_at "run2"
  have eT : ∀ s t, (mk l s (r ++ (.lst (xs.map mvP) :: t)))[r.length + 2]? = some (.lst (xs.map mvP)) := fun s t => at_app
  rw [wp_srcL (eT _ _)]
  refine lc_fst (a := r.length + 2) (xs := xs) (by omega) (by simp) (eT _ _) ?_
  refine ⟨by decide, ?_⟩
  walk_at "run2"
  walk_at "nrm"
  generalize hTR : (MO.lst (xs.map mvP)) = TR at eT ⊢
  have hNM : (MO.lst (xs.map fun q => MV.str q.1)) = .lst ((xs.map (·.1)).map .str) := by rw [List.map_map]; rfl
  rw [hNM]
  generalize hnames : xs.map (·.1) = names
  have hnl : names.length ≤ 8 := by rw [← hnames]; simp; omega
  have cl3 : (r ++ [TR, .lst (names.map .str), .lst []]).all (belowO ((r ++ [TR, .lst (names.map .str), .lst []]).length + 2)) = true := by
    rw [List.all_append, all_le (by simp) cl]
    have q1 : ∀ n, belowO n TR = true := fun n => by rw [← hTR]; exact belows_mvP n xs
    have q2 : ∀ n, belowO n (.lst (names.map .str)) = true := fun n => belows_strs n names
    simp [q1, q2]
    try rfl
  refine signs (w := .ref (r.length + 3)) (names := names) (.inr ⟨r.length + 1, rfl, by rw [List.getElem?_append_right (by omega)]; simp⟩) ⟨_, rfl⟩ hnl cl3 fun sg s3 hsl hsg => ?_
  walk_at "nrm"
  rw [wp_srcL (xs := xs.map mvP) (by rw [hTR]; exact eT _ _)]
  have hxn : xs.length = names.length := by rw [← hnames]; simp
  refine wp_forI (k + 1) (fun i ρ S => ∃ (cs : List CB) (s' : S3) (j : Store) (v7 v8 v9 v10 v11 v12 v13 : Option MV), Upto xs names sg i cs ∧ S = mk l s' (B4 r TR (.lst (names.map .str)) (.lst (cs.map mvCB)) (.dic (dicOf sg)) j) ∧
    ρ = [some (.ref 1), some (.int m), some (.ref (r.length + 2)), some (.ref (r.length + 3)), some (.ref (r.length + 4)), some (.int ((fieldsOf cs).length : Nat)), some (.ref (r.length + 5)), v7, v8, v9, v10, v11, v12, v13]) ?_ ?_ (k + 1) 4096 0 _ _ (by omega) (by omega)
    ⟨[], s3, [], none, none, none, none, none, none, none, ⟨by simp, rfl, by simp, by simp, by simp⟩, rfl, rfl⟩ ?_
  · rintro ρ S ⟨cs, s', j, v7, v8, v9, v10, v11, v12, v13, hU, rfl, rfl⟩
    rw [srcRef_at (xs := xs.map mvP) (by rw [hTR]; exact eT _ _), List.getElem?_map, List.getElem?_eq_none (by omega)]
    rfl
  · rintro i ρ S hi ⟨cs, s', j, v7, v8, v9, v10, v11, v12, v13, hU, rfl, rfl⟩
    have hix : i < xs.length := by omega
    have hcl : cs.length = i := by
      have e := congrArg List.length hU.tr
      rw [List.length_map, List.length_take] at e
      omega
    refine ⟨mvP xs[i], ?_, ?_⟩
    · rw [srcRef_at (xs := xs.map mvP) (by rw [hTR]; exact eT _ _), List.getElem?_map, List.getElem?_eq_getElem hix]
      rfl
    · unfold mvP
      rw [wp_gT]
      simp only [wp_gsCons, wp_gsNil, wp_gN]
      walk_at "run2"
      refine ⟨by decide, ?_⟩
      have ht16 : (fieldsOf cs).length ≤ 14 := Nat.le_trans (fieldsOf_few hU.f2) (by omega)
      rw [show (B4 r TR (.lst (names.map .str)) (.lst (cs.map mvCB)) (.dic (dicOf sg)) j).length + 1 + 1 = r.length + (j.length + 6) from by simp [B4]; omega]
      rw [show B4 r TR (.lst (names.map .str)) (.lst (cs.map mvCB)) (.dic (dicOf sg)) j ++ [.lst []] = B4 r TR (.lst (names.map .str)) (.lst (cs.map mvCB)) (.dic (dicOf sg)) (j ++ [.lst []]) from by simp [B4]]
      refine taken l s' _ (by decide) (by decide) fun n s4 n0 n1 => ?_
      obtain ⟨n, rfl⟩ : ∃ n' : Nat, n = (n' : Int) := ⟨n.toNat, by omega⟩
      walk_at "run2"
      refine ⟨by omega, ?_⟩
      refine fields_loop (n := n) (by omega) (by omega) hnl fun fs s5 j' a10 hfl hfw hfk => ?_
      dsimp only
      have hJl : (j ++ .lst (fs.map mvP) :: j').length = j.length + (j'.length + 1) := by simp
      have hJP : ∀ s t, (mk l s (B4 r TR (.lst (names.map .str)) (.lst (cs.map mvCB)) (.dic (dicOf sg)) ((j ++ .lst (fs.map mvP) :: j') ++ t)))[r.length + (j.length + 6)]? = some (.lst (fs.map mvP)) := fun s t => by
        rw [show j.length + 6 = (j.length + 4) + 2 from rfl, b_at]
        simp
      generalize hJ : j ++ .lst (fs.map mvP) :: j' = J at hJl hJP ⊢
      rw [wp_lc]
      walk_at "run2"
      refine ⟨by decide, ?_⟩
      rw [show (B4 r TR (.lst (names.map .str)) (.lst (cs.map mvCB)) (.dic (dicOf sg)) J).length + 1 + 1 = r.length + (J.length + 6) from by simp [B4]; omega]
      rw [show B4 r TR (.lst (names.map .str)) (.lst (cs.map mvCB)) (.dic (dicOf sg)) J ++ [.lst [MV.str (Str.ofString "ma"), MV.str (Str.ofString "mb"), MV.str (Str.ofString "mc")]] = B4 r TR (.lst (names.map .str)) (.lst (cs.map mvCB)) (.dic (dicOf sg)) (J ++ [.lst (words3.map .str)]) from by simp [B4, words3]]
      rw [wp_srcL (xs := words3.map .str) (by rw [show J.length + 6 = (J.length + 4) + 2 from rfl]; exact (b_at _).trans (by simp))]
      have hlen : (mk l s5 (B4 r TR (.lst (names.map .str)) (.lst (cs.map mvCB)) (.dic (dicOf sg)) (J ++ [.lst (words3.map .str)]))).length = r.length + (J.length + 7) := by simp [B4]; omega
      rw [hlen]
      rw [show mk l s5 (B4 r TR (.lst (names.map .str)) (.lst (cs.map mvCB)) (.dic (dicOf sg)) (J ++ [.lst (words3.map .str)])) ++ [.lst []] = mk l s5 (B4 r TR (.lst (names.map .str)) (.lst (cs.map mvCB)) (.dic (dicOf sg)) (J ++ [.lst (words3.map .str), .lst []])) from by simp [B4]]
      simp only [wipeM, List.set_cons_succ, List.set_cons_zero]
      refine ms_comp hsl (fun q hq => (hsg q hq).few) fun ws s6 hws => ?_
      have hwl : ws.length ≤ 3 := hws.length_le
      have eF : ∀ s t, (mk l s (B4 r TR (.lst (names.map .str)) (.lst (cs.map mvCB)) (.dic (dicOf sg)) t))[r.length + 4]? = some (.lst (cs.map mvCB)) := fun s t => by
        rw [show (4 : Nat) = 2 + 2 from rfl, b_at]
        rfl
      have eM : (mk l s6 (B4 r TR (.lst (names.map .str)) (.lst (cs.map mvCB)) (.dic (dicOf sg)) (J ++ [.lst (words3.map .str), .lst (ws.map (mEl sg))])))[r.length + (J.length + 7)]? = some (.lst (ws.map (mEl sg))) := by
        rw [show J.length + 7 = (J.length + 5) + 2 from rfl, b_at]
        simp
      refine ⟨isLst_ref (eF _ _), ?_⟩
      rw [wp_tupOf (hJP _ _), wp_tupOf eM]
      refine ⟨by decide, ?_⟩
      rw [wp_append (eF _ _) (by simp; omega)]
      have hms : ws.map (mEl sg) = (ws.map fun w => (w, sgF sg w)).map mvM := by rw [List.map_map]; rfl
      have hcb : cs.map mvCB ++ [MV.tup [.str xs[i].1, .str xs[i].2, .tup (fs.map mvP), .tup (ws.map (mEl sg))]] = (cs ++ [(⟨xs[i].1, xs[i].2, fs, ws.map fun w => (w, sgF sg w)⟩ : CB)]).map mvCB := by
        rw [List.map_append, hms]
        rfl
      have hfo : fieldsOf (cs ++ [(⟨xs[i].1, xs[i].2, fs, ws.map fun w => (w, sgF sg w)⟩ : CB)]) = fieldsOf cs ++ fs := by
        unfold fieldsOf
        simp
      refine ⟨cs ++ [⟨xs[i].1, xs[i].2, fs, ws.map fun w => (w, sgF sg w)⟩], s6, J ++ [.lst (words3.map .str), .lst (ws.map (mEl sg))], some (.str xs[i].1), some (.str xs[i].2), some (.ref (r.length + (j.length + 6))), a10, some (.ref (r.length + (J.length + 7))), v12, v13, ⟨?_, ?_, ?_, ?_, ?_⟩, ?_, ?_⟩
      · rw [List.map_append, hU.tr, List.take_add_one, List.getElem?_eq_getElem hix]
        rfl
      · rw [hfo, List.map_append, hU.fw, hfw, List.length_append, hfl, List.range_add, List.map_append, List.map_map]
        rfl
      · intro c hc f hf
        simp at hc
        rcases hc with hc | rfl
        · exact hU.fk c hc f hf
        · exact hfk f hf
      · intro c hc
        simp at hc
        rcases hc with hc | rfl
        · exact hU.f2 c hc
        · show fs.length ≤ 2
          omega
      · intro c hc
        simp at hc
        rcases hc with hc | rfl
        · exact hU.ms c hc
        · refine ⟨?_, ?_⟩
          · show ((ws.map fun w => (w, sgF sg w)).map (·.1)).Sublist words3
            rw [List.map_map]
            simpa [Function.comp_def] using hws
          · intro q hq
            obtain ⟨w, _, rfl⟩ := List.mem_map.mp hq
            rfl
      · rw [hcb, show (4 : Nat) = 2 + 2 from rfl, b_set]
        rfl
      · rw [hfo, List.length_append, hfl]
  · rintro ρ' S' ⟨cs, s', j, v7, v8, v9, v10, v11, v12, v13, hU, rfl, rfl⟩
    walk_at "run2"
    have hall : xs.take (k + 1) = xs := List.take_of_length_le (by omega)
    have htr : cs.map (fun c => (c.name, c.upper)) = xs := hU.tr.trans hall
    have hnm : cs.map (·.name) = names := by
      rw [← hnames, ← htr, List.map_map]
      rfl
    have hcl : cs.length = k + 1 := by
      have e := congrArg List.length htr
      rw [List.length_map] at e
      omega
    refine gc_new (k := r.length + 2) (o := .lst (cs.map mvCB)) cl (by omega) (by rw [List.getElem?_append_right (by omega), show r.length + 2 - r.length = 2 from by omega]; rfl) (belows_mvCB _ _)
      (h cs s' ⟨by rw [htr]; exact hx, by omega, hU.fw, by rw [hnm]; exact hU.fk, hU.f2, sgF sg, fun w hw => by rw [hnm]; exact hsg _ (sgF_at hsl hw).2, hU.ms⟩ (by omega) (by omega))
end
end K06


set_option Elab.async false
set_option linter.all false
set_option maxRecDepth 100000
set_option maxHeartbeats 1000000
namespace K06
open PySem PySem.Spec PyProof.Rows L2 MI
def ends1 : List MV := [.tup [.str "give"], .tup [.str "give"], .tup [.str "throw"], .tup [.str "go", .int 0]]
section
variable {l : List Int} {s : S3} {r : Store} {E : EX} {Q : MV → Store → Prop} {S : Store}
theorem code1 {w : MV} (cl : r.all (belowO (r.length + 2)) = true) (h : ∀ a s', a ∈ ends1 → Q (.tup [a]) (mk l s' r)) : wp (D__law_code [.ref 1, w, .int 1] (mk l s r)) E Q := by
  unfold D__law_code
  rw [wp_fn (n := List.length [PySem.Str.ofString "row", PySem.Str.ofString "classes", PySem.Str.ofString "most"]) (ws := [MV.ref 1, w, MV.int 1]) rfl]
  unfold d__law_code
  simp only [n__law_code]
  walk_at "run2"
  refine taken l s _ (by decide) (by decide) fun k s1 g0 g1 => ?_
  obtain rfl : k = 0 := by omega
  walk_at "run2"
  rw [wp_lc]
  walk_at "run2"
  refine ⟨by decide, ?_⟩
  rw [show lcM (srcRng 0 (1 + 0 - 1)) (gN 5) bYes (dCall D__law_step (aCons (dVar 0) (aCons (dVar 1) (aCons (dVar 3) aNil)))) (wipeM [some (MV.ref 1), some w, some (MV.int 1), some (MV.int (1 + 0)), none, none] [5])
      (List.length r + 1 + 1) 4096 0 (mk l s1 (r ++ [.lst []])) = some (mk l s1 (r ++ [.lst []])) from by unfold lcM; rfl]
  walk_at "run2"
  refine ⟨by decide, by decide, by decide, ?_⟩
  refine taken l s1 _ (by decide) (by decide) fun k s2 g0 g1 => ?_
  obtain rfl : k = 0 := by omega
  refine ⟨by decide, by decide, ?_⟩
  walk_at "nrm"
  refine pick (xs := ends1) (.inr ⟨r.length + 1, rfl, by rw [List.getElem?_append_right (by omega)]; simp [ends1]⟩) (by simp [ends1]) (by simp [ends1]) fun a s3 ma => ?_
  refine ⟨by decide, ?_⟩
  walk_at "nrm"
  generalize hX : (MO.lst [MV.tup [.str (Str.ofString "give")], .tup [.str (Str.ofString "give")], .tup [.str (Str.ofString "throw")], .tup [.str (Str.ofString "go"), .int 0]]) = X
  have ea : (mk l s3 (r ++ [.lst [], X, .lst [a]]))[r.length + 2]? = some (.lst []) := by
    show (r ++ _)[r.length]? = _
    rw [List.getElem?_append_right (by omega)]
    simp
  have eb : (mk l s3 (r ++ [.lst [], X, .lst [a]]))[r.length + 4]? = some (.lst [a]) := by
    show (r ++ _)[r.length + 2]? = _
    rw [List.getElem?_append_right (by omega), show r.length + 2 - r.length = 2 from by omega]
    rfl
  rw [wp_addL ea eb (by simp), wp_tupOf getE_new]
  have hb : below (r.length + 2) (.tup ([] ++ [a])) = true := by
    unfold ends1 at ma
    simp at ma
    rcases ma with rfl | rfl | rfl <;> rfl
  rw [show mk l s3 (r ++ [.lst [], X, .lst [a]]) ++ [.lst ([] ++ [a])] = mk l s3 (r ++ [.lst [], X, .lst [a], .lst [a]]) from by simp]
  exact gc_val cl hb (h a s3 ma)
def mvH (u : Str) : MV := .tup [.int 0, .int 1, .str u, .int 0]
theorem handlers1 {w : MV} {names : List Str} (hn : SeqR r w (names.map .str)) (hw : ∃ k, w = .ref k) (h8 : names.length ≤ 8) (cl : r.all (belowO (r.length + 2)) = true)
    (h : ∀ (us : List Str) s', us.length ≤ 2 → (∀ u ∈ us, u ∈ ("top" : Str) :: names) → Q (.tup (us.map mvH)) (mk l s' r)) : wp (D__law_handlers [.ref 1, w, .int 1] (mk l s r)) E Q := by
  unfold D__law_handlers
  rw [wp_fn (n := List.length [PySem.Str.ofString "row", PySem.Str.ofString "names", PySem.Str.ofString "size"]) (ws := [MV.ref 1, w, MV.int 1]) rfl]
  unfold d__law_handlers
  simp only [n__law_handlers]
  rcases hn with rfl | ⟨k, rfl, e⟩
  · obtain ⟨k, hk⟩ := hw
    cases hk
  walk_at "run2"
  refine ⟨by decide, by decide, ?_⟩
  walk_at "nrm"
  refine pick (xs := [.int 0, .int 0, .int 1, .int 2]) (.inr ⟨r.length + 1, rfl, by rw [List.getElem?_append_right (by omega)]; simp⟩) (by simp) (by simp) fun a s1 ma => ?_
  obtain ⟨n, rfl, hn2⟩ : ∃ n : Nat, a = .int n ∧ n ≤ 2 := by
    simp at ma
    rcases ma with rfl | rfl | rfl
    · exact ⟨0, rfl, by decide⟩
    · exact ⟨1, rfl, by decide⟩
    · exact ⟨2, rfl, by decide⟩
  walk_at "run2"
  refine ⟨by omega, ?_⟩
  generalize (MO.lst [.int 0, .int 0, .int 1, .int 2]) = X
  refine wp_forI n (fun i ρ S => ∃ (us : List Str) (s' : S3) (j : Store) (v4 v5 v6 : Option MV), us.length = i ∧ (∀ u ∈ us, u ∈ ("top" : Str) :: names) ∧ S = mk l s' (r ++ .lst (us.map mvH) :: X :: j) ∧
    ρ = [some (.ref 1), some (.ref (k + 2)), some (.int 1), some (.ref (r.length + 2)), v4, v5, v6]) ?_ ?_ n 4096 0 _ _ (by omega) (by omega) ⟨[], s1, [], none, none, none, rfl, by simp, rfl, rfl⟩ ?_
  · intro ρ S _
    unfold srcRng
    rw [if_neg (by omega)]
  · rintro i ρ S hi ⟨us, s', j, v4, v5, v6, hl, hu, rfl, rfl⟩
    refine ⟨.int i, ?_, ?_⟩
    · unfold srcRng
      rw [if_pos (by omega)]
      simp
    · walk_at "run2"
      refine taken l s' _ (by decide) (by decide) fun k1 s2 g0 g1 => ?_
      obtain rfl : k1 = 0 := by omega
      walk_at "run2"
      refine taken l s2 _ (by decide) (by decide) fun k1 s3 g0 g1 => ?_
      obtain rfl : k1 = 0 := by omega
      walk_at "run2"
      refine ⟨isLst_ref at_app, by decide, ?_⟩
      generalize hA : (MO.lst [MV.str (Str.ofString "top"), MV.str (Str.ofString "top")]) = A
      have ea : (mk l s3 (r ++ .lst (us.map mvH) :: X :: j ++ [A]))[List.length (r ++ .lst (us.map mvH) :: X :: j) + 1 + 1]? = some (.lst [.str "top", .str "top"]) := by
        rw [← hA]; simp
      have eb : (mk l s3 (r ++ .lst (us.map mvH) :: X :: j ++ [A]))[k + 2]? = some (.lst (names.map .str)) := by
        show (r ++ .lst (us.map mvH) :: X :: j ++ [A])[k]? = _
        rw [List.append_assoc]
        exact getE_app e _
      rw [wp_addL ea eb (by simp; omega)]
      rw [show (mk l s3 (r ++ .lst (us.map mvH) :: X :: j ++ [A])).length = r.length + (j.length + 5) from by simp; omega]
      rw [show mk l s3 (r ++ .lst (us.map mvH) :: X :: j ++ [A]) ++ [.lst ([.str "top", .str "top"] ++ names.map MV.str)] = mk l s3 (r ++ .lst (us.map mvH) :: X :: (j ++ [A, .lst ((Str.ofString "top" :: Str.ofString "top" :: names).map MV.str)])) from by simp]
      refine pick (xs := (Str.ofString "top" :: Str.ofString "top" :: names).map MV.str) (.inr ⟨r.length + (j.length + 3), rfl, ?_⟩) (by simp) (by simp; omega) fun a s4 ma => ?_
      · rw [List.getElem?_append_right (by omega), show r.length + (j.length + 3) - r.length = j.length + 3 from by omega]
        simp
      · obtain ⟨u, hu2, rfl⟩ := List.mem_map.mp ma
        have hu3 : u ∈ ("top" : Str) :: names := by
          simp at hu2 ⊢
          exact hu2
        refine taken l s4 _ (by decide) (by decide) fun k1 s5 g0 g1 => ?_
        obtain rfl : k1 = 0 := by omega
        refine ⟨by decide, ?_⟩
        rw [wp_append at_app (by simp; omega)]
        refine ⟨us ++ [u], s5, j ++ [A, .lst ((Str.ofString "top" :: Str.ofString "top" :: names).map MV.str)], some (.int i), some (.int 0), some (.int (0 + 1 + 0)), by simp [hl], ?_, ?_, rfl⟩
        · intro v hv
          rcases List.mem_append.mp hv with hv | hv
          · exact hu v hv
          · rw [List.mem_singleton.mp hv]
            exact hu3
        · show MO.rol _ :: rowO s5 :: (r ++ .lst (us.map mvH) :: X :: (j ++ [A, .lst ((Str.ofString "top" :: Str.ofString "top" :: names).map MV.str)])).set r.length _ = _
          rw [List.set_append_right _ _ (Nat.le_refl _), Nat.sub_self, List.map_append]
          rfl
  · rintro ρ' S' ⟨us, s', j, v4, v5, v6, hl, hu, rfl, rfl⟩
    walk_at "run2"
    rw [wp_tupOf at_app]
    have hb : below (r.length + 2) (.tup (us.map mvH)) = true := by
      show belows _ (us.map mvH) = true
      clear hl hu
      induction us with
      | nil => rfl
      | cons u us ih => exact ih
    exact gc_val cl hb (h us s' (by omega) hu)
end
end K06


set_option Elab.async false
set_option linter.all false
set_option maxRecDepth 100000
set_option maxHeartbeats 1000000
namespace K06
open PySem PySem.Spec PyProof.Rows L2 MI
section
variable {S : Store} {cs : List Cs} {E : EX} {Q : MV → Store → Prop}
theorem is_tuple_eq {l : List MV} {a b : Int} : D_is_tuple [.tup l, .int a, .int b] S = .ok (.bl (decide (a ≤ l.length) && decide ((l.length : Int) ≤ b))) S := by
  unfold D_is_tuple
  refine fn_same rfl ?_
  unfold d_is_tuple
  simp only [n_is_tuple]
  walk_at "runp"
  split <;> simp [*]
theorem is_number_eq {i b : Int} : D_is_number [.int i, .int b] S = .ok (.bl (decide (0 ≤ i) && decide (i ≤ b))) S := by
  unfold D_is_number
  refine fn_same rfl ?_
  unfold d_is_number
  simp only [n_is_number]
  walk_at "runp"
  split <;> simp [*]
theorem names_of_eq (c : Cl S) (h : cs.length ≤ 4000) : D_names_of [mvAll cs] S = .ok (.tup ((("top" : Str) :: names cs).map .str)) S := by
  unfold D_names_of
  refine fn_val rfl c (blws_str 0 _) ?_
  unfold d_names_of mvAll
  simp only [n_names_of]
  walk_at "runp"
  refine wp_lcT mvCs cs (fun _ => true) (fun c => .str c.name) (by omega) (by omega) ?_ (fun _ _ _ => rfl) ?_
  · intro x hx S' g
    walk_at "runp"
    unfold mvCs
    walk_at "runp"
    walk_at "fin0"
  · intro S' g e
    rw [flt_true] at e
    rw [itemsR e]
    walk_at "runp"
    refine ⟨by simp; omega, .inl ?_, g⟩
    simp [names]
theorem is_class_eq (c : Cl S) (h : cs.length ≤ 4000) {x : Str} : D_is_class [mvAll cs, .str x] S = .ok (.bl (decide (x ∈ ("top" : Str) :: names cs))) S := by
  unfold D_is_class
  refine fn_val rfl c rfl ?_
  unfold d_is_class
  simp only [n_is_class]
  walk_at "runp"
  rw [names_of_eq c h]
  walk_at "runp"
  walk_at "fin0"
theorem class_of_eq (c : Cl S) (h : cs.length ≤ 4000) {x : Str} (b : below 0 (mvAt cs x) = true) : D_class_of [mvAll cs, .str x] S = .ok (mvAt cs x) S := by
  unfold D_class_of
  refine fn_val rfl c b ?_
  unfold d_class_of mvAll
  simp only [n_class_of]
  walk_at "runp"
  refine wp_forT mvCs cs (fun pre ρ S' => S' = S ∧ (∀ d ∈ pre, d.name ≠ x) ∧ ∃ v, ρ = [some (.tup (cs.map mvCs)), some (.str x), v]) (by omega) ⟨rfl, by simp, none, rfl⟩ ?_ ?_
  · rintro pre d post ρ S' e ⟨rfl, hp, v, rfl⟩
    walk_at "runp"
    conv => enter [1]; unfold mvCs
    walk_at "runp"
    by_cases hd : d.name = x
    · rw [if_pos hd]
      simp only [keep]
      refine ⟨.inl ?_, Gr.refl⟩
      unfold mvAt cfind
      rw [e, List.find?_append, List.find?_eq_none.mpr fun z hz => by simpa using hp z hz]
      simp [hd]
    · rw [if_neg hd]
      simp only [keep]
      refine ⟨trivial, ?_, _, rfl⟩
      intro z hz
      rcases List.mem_append.mp hz with hz | hz
      · exact hp z hz
      · rw [List.mem_singleton.mp hz]; exact hd
  · rintro ρ S' ⟨rfl, hp, v, rfl⟩
    walk_at "runp"
    refine ⟨.inl ?_, Gr.refl⟩
    unfold mvAt cfind
    rw [List.find?_eq_none.mpr fun z hz => by simpa using hp z hz]
    rfl
end
end K06


set_option Elab.async false
set_option linter.all false
set_option maxRecDepth 100000
set_option maxHeartbeats 1000000
namespace K06
open PySem PySem.Spec PyProof.Rows L2 MI
/-- what a house's rows must be for the seeing functions -/
structure OkP (cs : List Cs) : Prop where
  n : OkN cs
  few : cs.length ≤ 8
  pure : ∀ c ∈ cs, below 0 (mvCs c) = true
section
variable {S : Store} {cs : List Cs} {E : EX} {Q : MV → Store → Prop}
theorem OkP.at (h : OkP cs) (x : Str) : below 0 (mvAt cs x) = true := by
  unfold mvAt
  cases e : cfind cs x with
  | none => rfl
  | some c => exact h.pure c (List.mem_of_find?_eq_some e)
theorem class_eq (h : OkP cs) (c : MI.Cl S) {x : Str} : D_class_of [mvAll cs, .str x] S = .ok (mvAt cs x) S := class_of_eq c (by have := h.few; omega) (h.at x)
theorem line_up_eq (h : OkP cs) (c : MI.Cl S) {x : Str} (hx : IsC cs x) : D_line_up [mvAll cs, .str x] S = .ok (.tup ((lineOf cs x).map .str)) S := by
  unfold D_line_up
  refine fn_val rfl c (blws_str 0 _) ?_
  unfold d_line_up
  simp only [n_line_up]
  walk_at "runp"
  refine ⟨by decide, ?_⟩
  refine wp_whI (fun k ρ S' => ∃ (acc : List Str) (y : Str), IsC cs y ∧ (rowOf cs.reverse y).length = k ∧ acc ++ (rowOf cs.reverse y).map (·.name) = (rowOf cs.reverse x).map (·.name) ∧ Gr S S' ∧ S'[S.length]? = some (.lst (acc.map .str)) ∧
    ρ = [some (mvAll cs), some (.str y), some (.ref S.length)]) ?_ 4096 (rowOf cs.reverse x).length _ _ ?_ ⟨[], x, hx, rfl, rfl, Gr.refl.new rfl, at_new, rfl⟩
  · rintro k ρ S' ⟨acc, y, hy, hk, ha, g, e, rfl⟩
    walk_at "runp"
    have hal : acc.length ≤ 8 := by
      have h1 := congrArg List.length ha
      simp at h1
      have h2 := rowOf_len cs.reverse x
      have h3 := h.few
      simp at h2
      omega
    split
    · rename_i hn
      have hn' : ¬ y = ("top" : Str) := by simpa using hn
      rcases hy with hy | hy
      · exact absurd hy hn'
      · obtain ⟨pre, d, post, he, rfl⟩ := mem_names hy
        have hr := h.n.row_step he
        rw [hr] at hk ha
        simp only [List.length_cons] at hk
        refine ⟨by omega, ?_⟩
        rw [isLst_ref e, wp_appR e (by simp; omega)]
        walk_at "runp"
        have g2 : Gr S (S'.set S.length (.lst ((acc.map MV.str) ++ [MV.str d.name]))) := g.set (Nat.le_refl _) (by
          rw [show acc.map MV.str ++ [MV.str d.name] = (acc ++ [d.name]).map MV.str from by simp]
          exact blws_str 0 _)
        rw [class_eq h (g2.cl c)]
        unfold mvAt
        rw [h.n.find he]
        unfold mvCs
        walk_at "runp"
        simp only [keep]
        refine ⟨acc ++ [d.name], d.upper, h.n.upper he, by omega, by simpa using ha, g2, ?_, rfl⟩
        rw [at_set e]
        simp
    · rename_i hn
      have hn' : y = ("top" : Str) := by simpa using hn
      subst hn'
      rw [itemsR e]
      walk_at "runp"
      rw [h.n.row_top] at ha
      refine ⟨by simp; omega, .inl ?_, g⟩
      unfold lineOf
      rw [← ha]
      simp
  · have h2 := rowOf_len cs.reverse x
    have h3 := h.few
    simp at h2
    omega
theorem lineOf_few (h : OkP cs) (x : Str) : (lineOf cs x).length ≤ 9 := by
  unfold lineOf
  have h2 := rowOf_len cs.reverse x
  have h3 := h.few
  simp at h2 ⊢
  omega
theorem row_isC (h : OkP cs) {x : Str} {d : Cs} (hd : d ∈ rowOf cs.reverse x) : d ∈ cs := List.mem_reverse.mp (rowOf_mem hd)
theorem line_isC (h : OkP cs) {x u : Str} (hu : u ∈ lineOf cs x) : IsC cs u := by
  unfold lineOf at hu
  rcases List.mem_append.mp hu with hu | hu
  · obtain ⟨d, hd, rfl⟩ := List.mem_map.mp hu
    exact .inr (List.mem_map_of_mem (row_isC h hd))
  · exact .inl (List.mem_singleton.mp hu)
theorem mvAt2 (cs : List Cs) (x : Str) : ∃ a b, mvAt cs x = .tup [a, b, .tup ((fieldsAt cs x).map mvPr), .tup ((msAt cs x).map mvMt)] := by
  unfold mvAt fieldsAt msAt
  cases cfind cs x with
  | none => exact ⟨_, _, rfl⟩
  | some c => exact ⟨_, _, rfl⟩
theorem fields_up_eq (h : OkP cs) (c : MI.Cl S) {x : Str} (hx : IsC cs x) (hf : ∀ c ∈ cs, c.fields.length ≤ 4) : D_fields_up [mvAll cs, .str x] S = .ok (.tup ((fieldsUp cs x).map mvPr)) S := by
  unfold D_fields_up
  refine fn_val rfl c (blws_pr 0 _) ?_
  unfold d_fields_up
  simp only [n_fields_up]
  walk_at "runp"
  refine ⟨by decide, ?_⟩
  have g1 : Gr S (S ++ [.lst []]) := Gr.refl.new rfl
  rw [line_up_eq h (g1.cl c) hx]
  walk_at "runp"
  rw [← List.map_reverse]
  have hfa : ∀ u, (fieldsAt cs u).length ≤ 4 := fun u => by
    unfold fieldsAt
    cases e : cfind cs u with
    | none => simp
    | some d => exact hf d (List.mem_of_find?_eq_some e)
  have hfl : ∀ l : List Str, ((l.map (fieldsAt cs)).flatten).length ≤ 4 * l.length := fun l => by
    induction l with
    | nil => simp
    | cons u l ih =>
      have := hfa u
      simp at ih ⊢
      omega
  refine wp_forT MV.str (lineOf cs x).reverse (fun pre ρ S' => Gr S S' ∧ S'[S.length]? = some (.lst (((pre.map (fieldsAt cs)).flatten).map mvPr)) ∧ ∃ v, ρ = [some (mvAll cs), some (.str x), some (.ref S.length), v]) ?_ ⟨g1, at_new, none, rfl⟩ ?_ ?_
  · have := lineOf_few h x
    simp; omega
  · rintro pre u post ρ S' e ⟨g, hl, v, rfl⟩
    walk_at "runp"
    rw [isLst_ref hl, class_eq h (g.cl c)]
    obtain ⟨a, b, hm⟩ := mvAt2 cs u
    rw [hm]
    walk_at "runp"
    have hp : pre.length ≤ 9 := by
      have := lineOf_few h x
      have h2 := congrArg List.length e
      simp at h2
      omega
    rw [wp_extT hl (by
      have h1 := hfl pre
      have h2 := hfa u
      simp only [List.length_map]
      omega)]
    simp only [keep]
    have hj : ((pre.map (fieldsAt cs)).flatten).map mvPr ++ (fieldsAt cs u).map mvPr = (((pre ++ [u]).map (fieldsAt cs)).flatten).map mvPr := by simp
    refine ⟨?_, ?_, _, rfl⟩
    · refine g.set (Nat.le_refl _) ?_
      rw [hj]
      exact blws_pr 0 _
    · rw [at_set hl, hj]
  · rintro ρ S' ⟨g, hl, v, rfl⟩
    walk_at "runp"
    rw [wp_tupR hl]
    exact ⟨.inl rfl, g⟩
theorem nearest_eq (h : OkP cs) (c : MI.Cl S) {x w : Str} (hx : IsC cs x) (hf : ∀ c ∈ cs, c.ms.length ≤ 4) : D_nearest [mvAll cs, .str x, .str w] S = .ok (mvNear (near cs x w)) S := by
  unfold D_nearest
  refine fn_val rfl c (by cases near cs x w <;> rfl) ?_
  unfold d_nearest
  simp only [n_nearest]
  walk_at "runp"
  rw [line_up_eq h c hx]
  walk_at "runp"
  have hfa : ∀ u, (msAt cs u).length ≤ 4 := fun u => by
    unfold msAt
    cases e : cfind cs u with
    | none => simp
    | some d => exact hf d (List.mem_of_find?_eq_some e)
  refine wp_forT MV.str (lineOf cs x) (fun pre ρ S' => Gr S S' ∧ (∀ u ∈ pre, idxOf w (msAt cs u) = none) ∧ ∃ v1 v2 v3, ρ = [some (mvAll cs), some (.str x), some (.str w), v1, v2, v3]) ?_ ⟨Gr.refl, by simp, _, _, _, rfl⟩ ?_ ?_
  · have := lineOf_few h x
    omega
  · rintro pre u post ρ S' e ⟨g, hp, v1, v2, v3, rfl⟩
    walk_at "runp"
    rw [class_eq h (g.cl c)]
    obtain ⟨a, b, hm⟩ := mvAt2 cs u
    rw [hm]
    walk_at "runp"
    refine wp_forE mvMt (msAt cs u) (fun pm ρ S2 => Gr S S2 ∧ (∀ d ∈ pm, d.word ≠ w) ∧ ∃ v2 v3, ρ = [some (mvAll cs), some (.str x), some (.str w), some (.str u), v2, v3]) ?_ ⟨g, by simp, _, _, rfl⟩ ?_ ?_
    · have := hfa u
      omega
    · rintro pm m post2 ρ S2 e2 ⟨g2, hp2, v2, v3, rfl⟩
      walk_at "runp"
      conv => enter [1]; unfold mvMt
      walk_at "runp"
      by_cases hd : m.word = w
      · rw [if_pos hd]
        refine ⟨by decide, ?_⟩
        simp only [keep]
        refine ⟨.inl ?_, g2⟩
        unfold near
        rw [e, nearL_skip hp, nearL_here (i := pm.length) (by rw [e2]; exact idx_at hd hp2)]
        rfl
      · rw [if_neg hd]
        simp only [keep]
        refine ⟨g2, ?_, _, _, rfl⟩
        intro z hz
        rcases List.mem_append.mp hz with hz | hz
        · exact hp2 z hz
        · rw [List.mem_singleton.mp hz]; exact hd
    · rintro ρ S2 ⟨g2, hp2, v2, v3, rfl⟩
      simp only [keep]
      refine ⟨g2, ?_, _, _, _, rfl⟩
      intro z hz
      rcases List.mem_append.mp hz with hz | hz
      · exact hp z hz
      · rw [List.mem_singleton.mp hz]; exact idx_none hp2
  · rintro ρ S' ⟨g, hp, v1, v2, v3, rfl⟩
    walk_at "runp"
    refine ⟨.inl ?_, g⟩
    have : near cs x w = none := by
      unfold near
      have := nearL_skip (r := []) hp
      rw [List.append_nil] at this
      exact this
    rw [this]
    rfl
/-- letters of a word -/
def isW (z : Str) : Prop := 1 ≤ z.length ∧ z.length ≤ 6 ∧ ∀ c ∈ z.cps.toList, c ∈ ("abcdefghijklmnopqrstuvwxyz" : Str).cps.toList
end
end K06


set_option Elab.async false
set_option linter.all false
set_option maxRecDepth 100000
set_option maxHeartbeats 1000000
namespace K06
open PySem PySem.Spec PyProof.Rows L2 MI
section
variable {S : Store} {cs : List Cs} {E : EX} {Q : MV → Store → Prop}
theorem is_tuple_yes {l : List MV} {a b : Int} (h1 : a ≤ l.length) (h2 : (l.length : Int) ≤ b) : D_is_tuple [.tup l, .int a, .int b] S = .ok (.bl true) S := by
  rw [is_tuple_eq, decide_eq_true h1, decide_eq_true h2]
  rfl
theorem is_number_yes {i b : Int} (h1 : 0 ≤ i) (h2 : i ≤ b) : D_is_number [.int i, .int b] S = .ok (.bl true) S := by
  rw [is_number_eq, decide_eq_true h1, decide_eq_true h2]
  rfl
theorem all_true (l : List Bool) (h : ∀ b ∈ l, b = true) : l.all id = true := List.all_eq_true.mpr h
theorem is_word_eq (c : MI.Cl S) {z : Str} (h : isW z) : D_is_word [.str z] S = .ok (.bl true) S := by
  obtain ⟨h1, h2, h3⟩ := h
  have hz : z.cps.toList.length = z.length := by rw [Array.length_toList]; rfl
  unfold D_is_word
  refine fn_val rfl c rfl ?_
  unfold d_is_word
  simp only [n_is_word]
  walk_at "runp"
  rw [wp_lenS (by omega)]
  walk_at "runp"
  rw [if_pos (by omega)]
  have e6 : decide ((z.length : Int) ≤ 6) = true := decide_eq_true (by omega)
  rw [e6]
  walk_at "runp"
  unfold c_LETTERS
  refine wp_lcS z (fun _ => true) (fun _ => .bl true) (by omega) (by omega) ?_ (fun _ _ _ => rfl) ?_
  · intro x hx S' g
    walk_at "runp"
    exact ⟨h3 x hx, Gr.refl⟩
  · intro S' g e
    rw [flt_true] at e
    rw [wp_allR (bs := z.cps.toList.map fun _ => true) (by rw [e, List.map_map]; rfl)]
    rw [all_true _ (by simp)]
    exact ⟨.inl rfl, g⟩
def IsK (cs : List Cs) (x : Str) : Prop := x = ("num" : Str) ∨ IsC cs x
theorem is_class_yes (c : MI.Cl S) (h : OkP cs) {x : Str} (hx : IsC cs x) : D_is_class [mvAll cs, .str x] S = .ok (.bl true) S := by
  rw [is_class_eq c (by have := h.few; omega), decide_eq_true]
  rcases hx with rfl | hx
  · simp
  · exact List.mem_cons_of_mem _ hx
theorem is_told_kind_yes (c : MI.Cl S) (h : OkP cs) {x : Str} (hx : IsK cs x) : D_is_told_kind [mvAll cs, .str x] S = .ok (.bl true) S := by
  unfold D_is_told_kind
  refine fn_val rfl c rfl ?_
  unfold d_is_told_kind
  simp only [n_is_told_kind]
  walk_at "runp"
  split
  · walk_at "fin0"
  · rcases hx with hx | hx
    · rename_i hn
      exact absurd hx hn
    · rw [is_class_yes c h hx]
      walk_at "runp"
      walk_at "fin0"
/-- the words that names may not be -/
def takenNames : List Str := ["top", "num", "none", "odd", "unset"]
theorem is_new_class_yes {n : Nat} {ws : List Str} {d : Cs} (c : MI.Cl S) (e : S[n]? = some (.lst (ws.map .str))) (hW : isW d.name) (hT : d.name ∉ takenNames) (hn : d.name ∉ ws) (hu : d.upper = ("top" : Str) ∨ d.upper ∈ ws) : D_is_new_class [.ref n, mvCs d] S = .ok (.bl true) S := by
  unfold D_is_new_class
  refine fn_val rfl c rfl ?_
  unfold d_is_new_class mvCs
  simp only [n_is_new_class]
  walk_at "runp"
  rw [is_tuple_yes (by simp) (by simp)]
  walk_at "runp"
  rw [is_word_eq c hW]
  walk_at "runp"
  rw [show c_TAKEN_NAMES = .tup (takenNames.map .str) from rfl, wp_inT]
  walk_at "runp"
  rw [wp_inR e]
  walk_at "runp"
  simp only [hT, hn]
  walk_at "runp"
  split
  · walk_at "fin0"
  · rename_i h1
    rw [wp_inR e]
    refine ⟨.inl ?_, Gr.refl⟩
    rcases hu with hu | hu
    · exact absurd hu h1
    · rw [decide_eq_true hu]
structure OkM (cs : List Cs) (m : Mt) : Prop where
  w : isW m.word
  few : m.ins.length ≤ 3
  ins : ∀ k ∈ m.ins, IsK cs k
  out : IsK cs m.out
  c1 : 1 ≤ m.code.length
  c20 : m.code.length ≤ 20
  h4 : m.hs.length ≤ 4
  good : ∀ S, MI.Cl S → D_bad_step [mvAll cs, .tup m.code] S = .ok .non S
  hgood : ∀ S, MI.Cl S → D_bad_handler [mvAll cs, .int m.code.length, .tup m.hs] S = .ok .non S
/-- rows that make a house -/
structure OkC (cs : List Cs) : Prop where
  p : OkP cs
  pos : 0 < cs.length
  w : ∀ c ∈ cs, isW c.name ∧ c.name ∉ takenNames
  fl : ∀ c ∈ cs, c.fields.length ≤ 4
  f : ∀ c ∈ cs, ∀ q ∈ c.fields, isW q.1 ∧ IsK cs q.2
  fnd : (((cs.map (·.fields)).flatten).map (·.1)).Nodup
  ml : ∀ c ∈ cs, c.ms.length ≤ 4
  m : ∀ c ∈ cs, ∀ m ∈ c.ms, OkM cs m
  mnd : ∀ c ∈ cs, (c.ms.map (·.word)).Nodup
  sg : ∃ sg : Str → List Str × Str, ∀ c ∈ cs, ∀ m ∈ c.ms, (m.ins, m.out) = sg m.word
theorem below_mvCs {cs : List Cs} (h : OkP cs) : below 0 (mvAll cs) = true := blws_map 0 _ _ fun c hc => h.pure c hc
theorem check_names_eq (c : MI.Cl S) (h : OkC cs) : D_check_names [mvAll cs] S = .ok .non S := by
  have h8 := h.p.few
  have h1 := h.pos
  unfold D_check_names
  refine fn_val rfl c rfl ?_
  unfold d_check_names
  simp only [n_check_names]
  unfold mvAll
  walk_at "runp"
  rw [is_tuple_yes (by simp; omega) (by simp; omega)]
  walk_at "runp"
  refine ⟨by decide, ?_⟩
  refine wp_forE mvCs cs (fun pre ρ S' => Gr S S' ∧ S'[S.length]? = some (.lst ((names pre).map .str)) ∧ ∃ v1 v2, ρ = [some (.tup (cs.map mvCs)), some (.ref S.length), v1, v2]) (by omega) ⟨Gr.refl.new rfl, at_new, _, _, rfl⟩ ?_ ?_
  · rintro pre d post ρ S' e ⟨g, hl, v1, v2, rfl⟩
    have hd : d ∈ cs := by rw [e]; simp
    have hpl : (names pre).length ≤ 8 := by
      have := congrArg List.length e
      simp [names] at this ⊢
      omega
    walk_at "runp"
    rw [is_new_class_yes (g.cl c) hl (h.w d hd).1 (h.w d hd).2 (by
      intro z
      obtain ⟨d', hd', z'⟩ := List.mem_map.mp z
      exact (h.p.n.apart e).1 d' hd' z') (h.p.n.up pre d post e)]
    walk_at "runp"
    rw [isLst_ref hl]
    conv => enter [2]; unfold mvCs
    walk_at "runp"
    rw [wp_appR hl (by simp; omega)]
    simp only [keep]
    have hj : (names pre).map MV.str ++ [MV.str d.name] = (names (pre ++ [d])).map MV.str := by simp [names]
    refine ⟨g.set (Nat.le_refl _) ?_, ?_, _, _, rfl⟩
    · rw [hj]; exact blws_str 0 _
    · rw [at_set hl, hj]
  · rintro ρ S' ⟨g, hl, v1, v2, rfl⟩
    exact ⟨.inr ⟨_, rfl⟩, g⟩
end
end K06


set_option Elab.async false
set_option linter.all false
set_option maxRecDepth 100000
set_option maxHeartbeats 1000000
namespace K06
open PySem PySem.Spec PyProof.Rows L2 MI
section
variable {S : Store} {cs : List Cs} {E : EX} {Q : MV → Store → Prop}
theorem fieldsUp_mem (h : OkN cs) {pre post : List Cs} {c : Cs} (e : cs = pre ++ c :: post) {q : Str × Str} (hq : q ∈ fieldsUp cs c.upper) : q ∈ (pre.map (·.fields)).flatten := by
  unfold fieldsUp at hq
  obtain ⟨l, hl, hq⟩ := List.mem_flatten.mp hq
  obtain ⟨u, hu, rfl⟩ := List.mem_map.mp hl
  have hu := List.mem_reverse.mp hu
  unfold lineOf at hu
  rw [h.row_pre e] at hu
  rcases List.mem_append.mp hu with hu | hu
  · obtain ⟨d, hd, rfl⟩ := List.mem_map.mp hu
    have hdp : d ∈ pre := List.mem_reverse.mp (rowOf_mem hd)
    have hdc : d ∈ cs := by rw [e]; simp [hdp]
    unfold fieldsAt at hq
    rw [h.find_mem hdc] at hq
    exact List.mem_flatten.mpr ⟨d.fields, List.mem_map_of_mem hdp, hq⟩
  · rw [List.mem_singleton.mp hu] at hq
    unfold fieldsAt at hq
    rw [h.find_top] at hq
    cases hq
theorem are_fields_eq (c : MI.Cl S) (h : OkC cs) {pre post : List Cs} {d : Cs} (e : cs = pre ++ d :: post) : D_are_fields [mvAll cs, .str d.upper, .tup (d.fields.map mvPr)] S = .ok (.bl true) S := by
  have hd : d ∈ cs := by rw [e]; simp
  have hu := h.p.n.upper e
  have h4 := h.fl d hd
  unfold D_are_fields
  refine fn_val rfl c rfl ?_
  unfold d_are_fields
  simp only [n_are_fields]
  walk_at "runp"
  rw [is_tuple_yes (by simp) (by simp; omega)]
  walk_at "runp"
  rw [fields_up_eq h.p c hu h.fl]
  walk_at "runp"
  have hfew : (fieldsUp cs d.upper).length ≤ 36 := by
    unfold fieldsUp
    have hfa : ∀ u, (fieldsAt cs u).length ≤ 4 := fun u => by
      unfold fieldsAt
      cases e : cfind cs u with
      | none => simp
      | some d => exact h.fl d (List.mem_of_find?_eq_some e)
    have hfl : ∀ l : List Str, ((l.map (fieldsAt cs)).flatten).length ≤ 4 * l.length := fun l => by
      induction l with
      | nil => simp
      | cons u l ih =>
        have := hfa u
        simp at ih ⊢
        omega
    have h1 := hfl (lineOf cs d.upper).reverse
    have h2 := lineOf_few h.p d.upper
    rw [List.length_reverse] at h1
    omega
  refine wp_lcT mvPr (fieldsUp cs d.upper) (fun _ => true) (fun q => .str q.1) (by omega) (by omega) ?_ (fun _ _ _ => rfl) ?_
  · intro q hq S' g
    unfold mvPr
    walk_at "runp"
    walk_at "fin0"
  intro S' g el
  rw [flt_true] at el
  have hnd : ((d.fields.map (·.1)).Nodup ∧ ∀ q ∈ d.fields, q.1 ∉ (fieldsUp cs d.upper).map (·.1)) := by
    have := h.fnd
    rw [e] at this
    simp only [List.map_append, List.map_cons, List.flatten_append, List.flatten_cons] at this
    obtain ⟨_, h2, h3⟩ := List.nodup_append.mp this
    obtain ⟨h4, _, _⟩ := List.nodup_append.mp h2
    refine ⟨h4, fun q hq hz => ?_⟩
    obtain ⟨q', hq', hz⟩ := List.mem_map.mp hz
    exact h3 q'.1 (List.mem_map_of_mem (fieldsUp_mem h.p.n e hq')) q.1 (List.mem_append_left _ (List.mem_map_of_mem hq)) hz
  refine wp_forT mvPr d.fields (fun pf ρ S2 => Gr S S2 ∧ S2[S.length]? = some (.lst (((fieldsUp cs d.upper).map (·.1) ++ pf.map (·.1)).map .str)) ∧ ∃ v4 v5 v6, ρ = [some (mvAll cs), some (.str d.upper), some (.tup (d.fields.map mvPr)), some (.ref S.length), v4, v5, v6]) (by omega) ⟨g, by rw [el]; simp, _, _, _, rfl⟩ ?_ ?_
  · rintro pf q post' ρ S2 ef ⟨g2, hl, v4, v5, v6, rfl⟩
    have hq : q ∈ d.fields := by rw [ef]; simp
    have hpl : pf.length ≤ 4 := by
      have := congrArg List.length ef
      simp at this
      omega
    walk_at "runp"
    simp only [mvPr_eq]
    rw [is_tuple_yes (by simp) (by simp)]
    walk_at "runp"
    rw [is_word_eq (g2.cl c) (h.f d hd q hq).1]
    walk_at "runp"
    rw [wp_inR hl]
    have hnot : q.1 ∉ (fieldsUp cs d.upper).map (·.1) ++ pf.map (·.1) := by
      intro z
      rcases List.mem_append.mp z with z | z
      · exact hnd.2 q hq z
      · have h1 := hnd.1
        rw [ef, List.map_append, List.map_cons] at h1
        obtain ⟨_, _, h3⟩ := List.nodup_append.mp h1
        exact h3 q.1 z q.1 (by simp) rfl
    rw [decide_eq_false hnot]
    walk_at "runp"
    rw [is_told_kind_yes (g2.cl c) h.p (h.f d hd q hq).2]
    walk_at "runp"
    rw [isLst_ref hl, wp_appR hl (by simp; omega)]
    simp only [keep]
    have hj : ((fieldsUp cs d.upper).map (·.1) ++ pf.map (·.1)).map MV.str ++ [MV.str q.1] = ((fieldsUp cs d.upper).map (·.1) ++ (pf ++ [q]).map (·.1)).map MV.str := by simp
    refine ⟨trivial, g2.set (Nat.le_refl _) ?_, ?_, _, _, _, rfl⟩
    · rw [hj]; exact blws_str 0 _
    · rw [at_set hl, hj]
  · rintro ρ S2 ⟨g2, hl, v4, v5, v6, rfl⟩
    walk_at "runp"
    exact g2
theorem method_at_eq (h : OkP cs) (c : MI.Cl S) {u : Str} {i : Nat} {m : Mt} (hm : (msAt cs u)[i]? = some m) (hb : below 0 (mvMt m) = true) : D_method_at [mvAll cs, .str u, .int i] S = .ok (mvMt m) S := by
  unfold D_method_at
  refine fn_val rfl c hb ?_
  unfold d_method_at
  simp only [n_method_at]
  walk_at "runp"
  rw [class_eq h c]
  obtain ⟨a, b, e⟩ := mvAt2 cs u
  rw [e]
  walk_at "runp"
  have hi : i < (msAt cs u).length := (List.getElem?_eq_some_iff.mp hm).1
  refine ⟨mvMt m, ?_, .inl rfl, Gr.refl⟩
  unfold atI ixN
  rw [if_pos (by omega), if_pos (by simp; omega)]
  show ((msAt cs u).map mvMt)[(i : Int).toNat]? = _
  rw [Int.toNat_natCast, List.getElem?_map, hm]
  rfl
theorem nearL_some {w u : Str} {i : Nat} : ∀ {l : List Str}, nearL cs w l = some (u, i) → u ∈ l ∧ idxOf w (msAt cs u) = some i
  | [], h => by cases h
  | v :: l, h => by
    unfold nearL at h
    cases e : idxOf w (msAt cs v) with
    | some j =>
      rw [e] at h
      cases h
      exact ⟨by simp, e⟩
    | none =>
      rw [e] at h
      have := nearL_some h
      exact ⟨List.mem_cons_of_mem _ this.1, this.2⟩
theorem idx_get {w : Str} {ms : List Mt} {i : Nat} (h : idxOf w ms = some i) : ∃ m, ms[i]? = some m ∧ m.word = w := by
  unfold idxOf at h
  obtain ⟨hi, h1, _⟩ := List.findIdx?_eq_some_iff_getElem.mp h
  exact ⟨ms[i], List.getElem?_eq_getElem hi, by simpa using h1⟩
theorem msAt_mem (h : OkN cs) {u : Str} {m : Mt} (hm : m ∈ msAt cs u) : ∃ d ∈ cs, m ∈ d.ms := by
  unfold msAt at hm
  cases e : cfind cs u with
  | none => rw [e] at hm; cases hm
  | some d => rw [e] at hm; exact ⟨d, List.mem_of_find?_eq_some e, hm⟩
theorem below_m (h : OkP cs) {d : Cs} {m : Mt} (hd : d ∈ cs) (hm : m ∈ d.ms) : below 0 (mvMt m) = true := by
  have h1 := h.pure d hd
  unfold mvCs below belows belows belows belows at h1
  simp only [Bool.and_eq_true] at h1
  have h2 := h1.2.2.2.1
  unfold below at h2
  exact (blws_all 0 _).mp h2 _ (List.mem_map_of_mem hm)
theorem nearest_method_eq (h : OkC cs) (c : MI.Cl S) {x w u : Str} {i : Nat} (hx : IsC cs x) (hn : near cs x w = some (u, i)) : ∃ m, m.word = w ∧ (∃ d ∈ cs, m ∈ d.ms) ∧ D_nearest_method [mvAll cs, .str x, .str w] S = .ok (mvMt m) S := by
  obtain ⟨hu, hi⟩ := nearL_some hn
  obtain ⟨m, hm, hw⟩ := idx_get hi
  obtain ⟨d, hd, hmd⟩ := msAt_mem h.p.n (List.mem_of_getElem? hm)
  refine ⟨m, hw, ⟨d, hd, hmd⟩, ?_⟩
  have hb := below_m h.p hd hmd
  unfold D_nearest_method
  refine fn_val rfl c hb ?_
  unfold d_nearest_method
  simp only [n_nearest_method]
  walk_at "runp"
  rw [nearest_eq h.p c hx h.ml, hn]
  unfold mvNear
  walk_at "runp"
  rw [method_at_eq h.p c hm hb]
  walk_at "runp"
  walk_at "fin0"
end
end K06


set_option Elab.async false
set_option linter.all false
set_option maxRecDepth 100000
set_option maxHeartbeats 1000000
namespace K06
open PySem PySem.Spec PyProof.Rows L2 MI
section
variable {S : Store} {cs : List Cs} {E : EX} {Q : MV → Store → Prop}
theorem kind_ok (h : OkC cs) {k : Str} (hk : IsK cs k) : PyData.strOk k = true := by
  rcases hk with rfl | rfl | hk
  · decide +kernel
  · decide +kernel
  · obtain ⟨d, hd, rfl⟩ := List.mem_map.mp hk
    exact strOk_of (h.w d hd).1.2.2
theorem is_method_eq (c : MI.Cl S) (h : OkC cs) {d : Cs} {m : Mt} {n : Nat} {ws : List Str} (hd : d ∈ cs) (hm : m ∈ d.ms) (e : S[n]? = some (.lst (ws.map .str))) (hw : m.word ∉ ws) : D_is_method [mvAll cs, .str d.upper, .ref n, mvMt m, .int 5] S = .ok (.bl true) S := by
  obtain ⟨pre, post, es⟩ := List.append_of_mem hd
  have hu := h.p.n.upper es
  have hM := h.m d hd m hm
  unfold D_is_method
  refine fn_val rfl c rfl ?_
  unfold d_is_method
  simp only [n_is_method, mvMt_eq]
  walk_at "runp"
  rw [is_tuple_yes (by simp) (by simp)]
  walk_at "runp"
  rw [is_word_eq c hM.w]
  walk_at "runp"
  rw [wp_inR e, decide_eq_false hw]
  walk_at "runp"
  rw [show fSl (.tup [.str m.word, .tup (m.ins.map .str), .str m.out, .tup m.code, .tup m.hs]) none (some 3) S = .ok (.tup [.str m.word, .tup (m.ins.map .str), .str m.out]) S from rfl]
  walk_at "runp"
  rw [is_tuple_yes (by simp) (by simp; have := hM.few; omega)]
  walk_at "runp"
  refine wp_lcT MV.str m.ins (fun _ => true) (fun _ => .bl true) (by have := hM.few; omega) (by have := hM.few; omega) ?_ (fun _ _ _ => rfl) ?_
  · intro k hk S' g
    walk_at "runp"
    rw [is_told_kind_yes (g.cl c) h.p (hM.ins k hk)]
    walk_at "runp"
    walk_at "fin0"
  intro S' g el
  rw [flt_true] at el
  rw [wp_allR (bs := m.ins.map fun _ => true) (by rw [el, List.map_map]; rfl), all_true _ (by simp)]
  walk_at "runp"
  rw [is_told_kind_yes (g.cl c) h.p hM.out]
  walk_at "runp"
  rw [nearest_eq h.p (g.cl c) hu h.ml]
  walk_at "runp"
  cases hn : near cs d.upper m.word with
  | none =>
    unfold mvNear
    walk_at "runp"
    exact g
  | some q =>
    obtain ⟨u, i⟩ := q
    unfold mvNear
    walk_at "runp"
    obtain ⟨m', hw', ⟨d', hd', hm'⟩, e2⟩ := nearest_method_eq h (g.cl c) hu hn
    rw [e2]
    simp only [mvMt_eq]
    walk_at "runp"
    rw [show fSl (.tup [.str m'.word, .tup (m'.ins.map .str), .str m'.out, .tup m'.code, .tup m'.hs]) (some 1) (some 3) S' = .ok (.tup [.tup (m'.ins.map .str), .str m'.out]) S' from rfl]
    walk_at "runp"
    refine ⟨by decide, ?_⟩
    obtain ⟨sg, hsg⟩ := h.sg
    have h1 := hsg d hd m hm
    have h2 := hsg d' hd' m' hm'
    rw [hw'] at h2
    have h3 := h1.trans h2.symm
    simp only [Prod.mk.injEq] at h3
    rw [← h3.1, ← h3.2, eq_sig (fun u hu => kind_ok h (hM.ins u hu)) (kind_ok h hM.out)]
    exact ⟨.inl rfl, g⟩
theorem atAll {i : Nat} {d : Cs} (h : cs[i]? = some d) : atI (cs.map mvCs) (i : Int) = some (mvCs d) := by
  have hi := (List.getElem?_eq_some_iff.mp h).1
  unfold atI ixN
  rw [if_pos (by omega), if_pos (by simp; omega)]
  show (cs.map mvCs)[(i : Int).toNat]? = _
  rw [Int.toNat_natCast, List.getElem?_map, h]
  rfl
theorem atMs {l : List Mt} {i : Nat} {d : Mt} (h : l[i]? = some d) : atI (l.map mvMt) (i : Int) = some (mvMt d) := by
  have hi := (List.getElem?_eq_some_iff.mp h).1
  unfold atI ixN
  rw [if_pos (by omega), if_pos (by simp; omega)]
  show (l.map mvMt)[(i : Int).toNat]? = _
  rw [Int.toNat_natCast, List.getElem?_map, h]
  rfl
theorem check_methods_eq (c : MI.Cl S) (h : OkC cs) {i : Nat} {d : Cs} (hi : cs[i]? = some d) : D_check_methods [mvAll cs, .int i, .int 5] S = .ok .non S := by
  have hd := List.mem_of_getElem? hi
  have h4 := h.ml d hd
  unfold D_check_methods
  refine fn_val rfl c rfl ?_
  unfold d_check_methods mvAll
  simp only [n_check_methods]
  walk_at "runp"
  rw [atAll hi]
  simp only [mvCs_eq]
  walk_at "runp"
  rw [is_tuple_yes (by simp) (by simp; omega)]
  walk_at "runp"
  refine ⟨by decide, ?_⟩
  refine wp_forE mvMt d.ms (fun pre ρ S' => Gr S S' ∧ S'[S.length]? = some (.lst ((pre.map (·.word)).map .str)) ∧ ∃ v2 v6 v7, ρ = [some (.tup (cs.map mvCs)), some (.int i), some (.int 5), v2, some (.str d.upper), some (.tup (d.ms.map mvMt)), some (.ref S.length), v6, v7]) (by omega) ⟨Gr.refl.new rfl, at_new, _, _, _, rfl⟩ ?_ ?_
  · rintro pre m post ρ S' e ⟨g, hl, v2, v6, v7, rfl⟩
    have hm : m ∈ d.ms := by rw [e]; simp
    have hpl : pre.length ≤ 4 := by
      have := congrArg List.length e
      simp at this
      omega
    walk_at "runp"
    rw [show MV.tup (cs.map mvCs) = mvAll cs from rfl, is_method_eq (g.cl c) h hd hm hl (by
      have h1 := h.mnd d hd
      rw [e, List.map_append, List.map_cons] at h1
      obtain ⟨_, _, h3⟩ := List.nodup_append.mp h1
      intro z
      exact h3 m.word z m.word (by simp) rfl)]
    walk_at "runp"
    rw [isLst_ref hl]
    simp only [mvMt_eq]
    walk_at "runp"
    rw [wp_appR hl (by simp; omega)]
    simp only [keep]
    have hj : (pre.map (·.word)).map MV.str ++ [MV.str m.word] = ((pre ++ [m]).map (·.word)).map MV.str := by simp
    refine ⟨g.set (Nat.le_refl _) ?_, ?_, _, _, _, rfl⟩
    · rw [hj]; exact blws_str 0 _
    · rw [at_set hl, hj]
  · rintro ρ S' ⟨g, hl, v2, v6, v7, rfl⟩
    exact ⟨.inr ⟨_, rfl⟩, g⟩
theorem check_code_eq (c : MI.Cl S) (h : OkC cs) {i j : Nat} {d : Cs} {m : Mt} (hi : cs[i]? = some d) (hj : d.ms[j]? = some m) : D_check_code [mvAll cs, .int i, .int j] S = .ok .non S := by
  have hd := List.mem_of_getElem? hi
  have hm := List.mem_of_getElem? hj
  have hM := h.m d hd m hm
  unfold D_check_code
  refine fn_val rfl c rfl ?_
  unfold d_check_code
  simp only [n_check_code]
  walk_at "runp"
  rw [show fIx (mvAll cs) (.int i) S = .ok (mvCs d) S from by unfold fIx mvAll; simp only [atAll hi]]
  simp only [mvCs_eq]
  walk_at "runp"
  rw [atMs hj]
  simp only [mvMt_eq]
  walk_at "runp"
  rw [show fSl (.tup [.str m.word, .tup (m.ins.map .str), .str m.out, .tup m.code, .tup m.hs]) (some 3) none S = .ok (.tup [.tup m.code, .tup m.hs]) S from rfl]
  walk_at "runp"
  rw [is_tuple_yes (by have := hM.c1; omega) (by have := hM.c20; omega)]
  walk_at "runp"
  rw [hM.good S c]
  walk_at "runp"
  rw [is_tuple_yes (by omega) (by have := hM.h4; omega)]
  walk_at "runp"
  rw [hM.hgood S c]
  walk_at "runp"
  exact ⟨.inr ⟨_, rfl⟩, Gr.refl⟩
theorem check_shells_eq (c : MI.Cl S) (h : OkC cs) : D_check_shells [mvAll cs, .int 5] S = .ok .non S := by
  have h8 := h.p.few
  unfold D_check_shells
  refine fn_val rfl c rfl ?_
  unfold d_check_shells
  simp only [n_check_shells]
  walk_at "runp"
  rw [check_names_eq c h]
  unfold mvAll
  walk_at "runp"
  refine wp_forE mvCs cs (fun pre ρ S' => Gr S S' ∧ ∃ v1 v2, ρ = [some (mvAll cs), some (.int 5), v1, v2]) (by omega) ⟨Gr.refl, _, _, rfl⟩ ?_ ?_
  · rintro pre d post ρ S' e ⟨g, v1, v2, rfl⟩
    have hi : cs[pre.length]? = some d := by rw [e]; simp
    simp only [mvCs_eq]
    walk_at "runp"
    rw [are_fields_eq (g.cl c) h e]
    walk_at "runp"
    rw [check_methods_eq (g.cl c) h hi]
    walk_at "runp"
    simp only [keep]
    exact ⟨g, _, _, rfl⟩
  · rintro ρ S' ⟨g, v1, v2, rfl⟩
    exact ⟨.inr ⟨_, rfl⟩, g⟩
theorem check_classes_eq (c : MI.Cl S) (h : OkC cs) : D_check_classes [mvAll cs] S = .ok .non S := by
  have h8 := h.p.few
  unfold D_check_classes
  refine fn_val rfl c rfl ?_
  unfold d_check_classes
  simp only [n_check_classes]
  walk_at "runp"
  rw [check_shells_eq c h]
  unfold mvAll
  walk_at "runp"
  refine wp_forE mvCs cs (fun pre ρ S' => Gr S S' ∧ ∃ v1 v2 v3, ρ = [some (mvAll cs), v1, v2, v3]) (by omega) ⟨Gr.refl, _, _, _, rfl⟩ ?_ ?_
  · rintro pre d post ρ S' e ⟨g, v1, v2, v3, rfl⟩
    have hi : cs[pre.length]? = some d := by rw [e]; simp
    have hd := List.mem_of_getElem? hi
    have h4 := h.ml d hd
    simp only [mvCs_eq]
    walk_at "runp"
    refine ⟨by simp; omega, ?_⟩
    rw [List.length_map]
    refine wp_forN d.ms.length (fun j ρ S' => Gr S S' ∧ ∃ v2 v3, ρ = [some (mvAll cs), some (.int pre.length), v2, v3]) (by omega) ⟨g, _, _, rfl⟩ ?_ ?_
    · rintro j ρ S' hj ⟨g, v2, v3, rfl⟩
      walk_at "runp"
      rw [check_code_eq (g.cl c) h hi (List.getElem?_eq_getElem hj)]
      walk_at "runp"
      simp only [keep]
      exact ⟨g, _, _, rfl⟩
    · rintro ρ S' ⟨g, v2, v3, rfl⟩
      simp only [keep]
      exact ⟨g, _, _, _, rfl⟩
  · rintro ρ S' ⟨g, v1, v2, v3, rfl⟩
    exact ⟨.inr ⟨_, rfl⟩, g⟩
end
end K06


set_option Elab.async false
set_option linter.all false
set_option maxRecDepth 100000
set_option maxHeartbeats 200000
namespace K06
open PySem PySem.Spec PyProof.Rows L2 MI
section
variable {S : Store} {cs : List Cs} {E : EX} {Q : MV → Store → Prop}
/-- the house that stands for classes -/
def hs (cs : List Cs) : MO := .ins "House" [("_classes", mvAll cs)]
theorem blw_hs (h : OkP cs) : belowO 0 (hs cs) = true := by
  show belows 0 [mvAll cs] = true
  unfold belows
  rw [below_mvCs h]
  rfl
theorem init_eq (c : MI.Cl S) (h : OkC cs) : D_House___init__ [.ref S.length, mvAll cs] (S ++ [.ins "House" []]) = .ok .non (S ++ [hs cs]) := by
  have c1 : MI.Cl (S ++ [.ins "House" []]) := (Gr.refl.new (S := S) rfl).cl c
  unfold D_House___init__
  unfold mkFn
  rw [if_pos (show [MV.ref S.length, mvAll cs].length = List.length ([PySem.Str.ofString "self", PySem.Str.ofString "classes"]) from rfl)]
  have key : wp (d_House___init__ ([MV.ref S.length, mvAll cs].map some ++ List.replicate (n_House___init__.length - [MV.ref S.length, mvAll cs].length) none) (S ++ [.ins "House" []])) NE fun f S' => (∃ ρ, f = .next ρ) ∧ S' = S ++ [hs cs] := by
    unfold d_House___init__
    simp only [n_House___init__]
    walk_at "runp"
    rw [check_classes_eq c1 h]
    walk_at "runp"
    have e : insAt "House" (.ref S.length) (S ++ [.ins "House" []]) = some (S.length, []) := by
      unfold insAt
      simp
    unfold sFldM dVar
    simp only [List.getElem?_cons_zero, List.getElem?_cons_succ, Res.bindS, e]
    rw [if_pos (by decide)]
    refine ⟨⟨_, rfl⟩, ?_⟩
    rw [set_new]
    rfl
  obtain ⟨f, S', e, ⟨ρ, rfl⟩, rfl⟩ := key.ex
  rw [e]
  exact gc_same (by simp)
theorem make_eq (c : MI.Cl S) (h : OkC cs) {r : DenL} {ρ : Env'} (hr : r ρ S = .ok [mvAll cs] S) : dMake "House" D_House___init__ r ρ S = .ok (.ref S.length) (S ++ [hs cs]) := by
  unfold dMake
  simp only [hr, Res.bind, init_eq c h]
theorem insAt_hs {n : Nat} (e : S[n]? = some (hs cs)) : insAt "House" (.ref n) S = some (n, [(("_classes" : Str), mvAll cs)]) := by
  unfold insAt
  simp only [e, hs, if_true]
theorem classes_eq {n : Nat} (e : S[n]? = some (hs cs)) : D_House_classes [.ref n] S = .ok (mvAll cs) S := by
  unfold D_House_classes
  refine fn_same rfl ?_
  unfold d_House_classes
  simp only [n_House_classes]
  walk_at "runp"
  unfold fFld
  rw [insAt_hs e]
  exact ⟨.inl rfl, rfl⟩
theorem prop_eq {n : Nat} (e : S[n]? = some (hs cs)) : fProp "House" D_House_classes (.ref n) S = .ok (mvAll cs) S := by
  unfold fProp
  rw [insAt_hs e]
  show noErr (D_House_classes [.ref n] S) = _
  rw [classes_eq e]
  rfl
theorem check_house_eq {n : Nat} (e : S[n]? = some (hs cs)) : D_check_house [.ref n] S = .ok .non S := by
  unfold D_check_house
  refine fn_same rfl ?_
  unfold d_check_house
  simp only [n_check_house]
  walk_at "runp"
  have : fIsOwn "House" (.ref n) S = .ok (.bl true) S := by
    unfold fIsOwn tyM
    simp only [e, hs]
    rw [show insAt "House" (.ref n) S = some (n, [(("_classes" : Str), mvAll cs)]) from insAt_hs e]
  rw [this]
  walk_at "runp"
  exact .inr ⟨_, rfl⟩
theorem check_name_eq {n : Nat} (c : MI.Cl S) (h : OkP cs) (e : S[n]? = some (hs cs)) {x : Str} (hx : IsC cs x) : D_check_name [.ref n, .str x] S = .ok .non S := by
  unfold D_check_name
  refine fn_val rfl c rfl ?_
  unfold d_check_name
  simp only [n_check_name]
  walk_at "runp"
  rw [check_house_eq e]
  walk_at "runp"
  rw [prop_eq e]
  walk_at "runp"
  rw [is_class_yes c h hx]
  walk_at "runp"
  exact ⟨.inr ⟨_, rfl⟩, Gr.refl⟩
end
end K06


set_option Elab.async false
set_option linter.all false
set_option maxRecDepth 100000
set_option maxHeartbeats 1000000
namespace K06
open PySem PySem.Spec PyProof.Rows L2 MI
def bareOf (c : Cs) : CB := ⟨c.name, c.upper, c.fields, c.ms.map fun m => (m.word, (m.ins, m.out))⟩
def GoodM (names : List Str) (m : Mt) : Prop := (∃ a ∈ ends1, m.code = [a]) ∧ ∃ us : List Str, us.length ≤ 2 ∧ (∀ u ∈ us, u ∈ ("top" : Str) :: names) ∧ m.hs = us.map mvH
section
variable {l : List Int} {s : S3} {r R : Store} {E : EX} {Q : MV → Store → Prop} {S : Store}
theorem clR (cl : r.all (belowO (r.length + 2)) = true) (g : Gr r R) : R.all (belowO (R.length + 2)) = true := by
  obtain ⟨J, rfl, h⟩ := g
  rw [List.all_append, blwA_le (by simp) cl, blwA_le (by omega) h]
  rfl
theorem gc_valR {w : MV} (cl : r.all (belowO (r.length + 2)) = true) (g : Gr r R) (hw : below 0 w = true) (h : Q w (mk l s r)) : wp (gc (r.length + 1 + 1) w (mk l s R)) E Q := by
  obtain ⟨J, rfl, _⟩ := g
  exact gc_val cl (blw_le (by omega) w hw) h
theorem mvCB_eq (c : CB) : mvCB c = .tup [.str c.name, .str c.upper, .tup (c.fields.map mvP), .tup (c.ms.map mvM)] := rfl
theorem mvM_eq (q : Str × (List Str × Str)) : mvM q = .tup [.str q.1, .tup (q.2.1.map .str), .str q.2.2] := rfl
theorem below_end {a : MV} (ha : a ∈ ends1) : below 0 a = true := by
  unfold ends1 at ha
  simp at ha
  rcases ha with rfl | rfl | rfl <;> rfl
theorem below_good {names : List Str} {m : Mt} (h : GoodM names m) : below 0 (mvMt m) = true := by
  obtain ⟨⟨a, ha, hc⟩, us, _, _, hh⟩ := h
  unfold mvMt
  rw [hc, hh]
  unfold below belows belows belows belows belows belows
  simp only [Bool.and_eq_true]
  refine ⟨rfl, blws_str 0 _, rfl, ?_, ?_, trivial⟩
  · show (below 0 a && true) = true
    rw [below_end ha]
    rfl
  · show belows 0 (us.map mvH) = true
    exact blws_map 0 _ _ fun _ _ => rfl
theorem below_alls {nm : List Str} {ws : List Cs} (h : ∀ c ∈ ws, ∀ m ∈ c.ms, GoodM nm m) : belows 0 (ws.map mvCs) = true := blws_map 0 _ _ fun c hc => by
  unfold mvCs below belows belows belows belows belows
  simp only [Bool.and_eq_true]
  exact ⟨rfl, rfl, blws_pr 0 _, blws_map 0 _ _ fun m hm => below_good (h c hc m hm), trivial⟩
theorem classes {m : Nat} (h0 : 1 ≤ m) (h1 : m ≤ 8) (cl : r.all (belowO (r.length + 2)) = true)
    (h : ∀ ws s', Bare (ws.map bareOf) → (∀ c ∈ ws, ∀ m ∈ c.ms, GoodM (names ws) m) → 0 < ws.length → ws.length ≤ m → Q (mvAll ws) (mk l s' r)) : wp (D__law_classes [.ref 1, .int m, .int 1] (mk l s r)) E Q := by
  unfold D__law_classes
  rw [wp_fn (n := List.length [PySem.Str.ofString "row", PySem.Str.ofString "most", PySem.Str.ofString "steps"]) (ws := [MV.ref 1, MV.int m, MV.int 1]) rfl]
  unfold d__law_classes
  simp only [n__law_classes]
  walk_at "runp"
  refine bare h0 h1 cl fun cs s1 hB hp hm => ?_
  refine ⟨by decide, ?_⟩
  walk_at "runp"
  have hg0 : Gr r (r ++ [.lst (cs.map mvCB)] ++ [.lst []]) := (Gr.refl.new (o := .lst (cs.map mvCB)) (belows_mvCB 0 cs)).new rfl
  have e3 : (mk l s1 (r ++ [.lst (cs.map mvCB)] ++ [.lst []]))[r.length + 2]? = some (.lst (cs.map mvCB)) := by
    show ((r ++ [.lst (cs.map mvCB)]) ++ [.lst []])[r.length]? = _
    simp
  have e4 : (r ++ [.lst (cs.map mvCB)] ++ [.lst []])[r.length + 1]? = some (.lst []) := by
    simp
  have hlen : (r ++ [MO.lst (cs.map mvCB)]).length = r.length + 1 := by simp
  rw [hlen]
  have hR0 : (r ++ [MO.lst (cs.map mvCB)] ++ [MO.lst []]).length = r.length + 2 := by simp
  generalize r ++ [MO.lst (cs.map mvCB)] ++ [MO.lst []] = R0 at hg0 e3 e4 hR0 ⊢
  rw [wp_srcR e3]
  refine wp_lcR mvCB cs (fun _ => true) (fun c => .str c.name) e3 (by omega) (by omega) ?_ (fun _ _ _ => rfl) ?_
  · intro c hc S' g
    walk_at "runp"
    simp only [mvCB_eq]
    walk_at "runp"
    walk_at "fin0"
  intro S' g el
  rw [flt_true] at el
  have e3' := g.at e3
  obtain ⟨J, rfl, hJ⟩ := g
  have hg1 : Gr r (R0 ++ J) := hg0.trans ⟨J, rfl, hJ⟩
  have e4' : (R0 ++ J)[r.length + 1]? = some (.lst []) := by
    rw [List.getElem?_append_left (by omega)]
    exact e4
  have eb : (R0 ++ J)[r.length]? = some (.lst (cs.map mvCB)) := e3'
  have en : (R0 ++ J)[r.length + 2]? = some (.lst ((cs.map (·.name)).map .str)) := by
    have : (mk l s1 (R0 ++ J))[R0.length + 2]? = _ := el
    rw [List.map_map]
    rw [hR0] at this
    exact this
  have hml : (mk l s1 R0).length = r.length + 4 := by
    show R0.length + 2 = _
    omega
  rw [hml]
  show wp (srcOf (MV.ref (r.length + 2)) (mk l s1 (R0 ++ J))) _ _
  generalize R0 ++ J = R1 at hg1 e4' eb en ⊢
  rw [wp_srcR (show (mk l s1 R1)[r.length + 2]? = some (.lst (cs.map mvCB)) from eb)]
  have hnl : (cs.map (·.name)).length ≤ 8 := by simp; exact hB.few
  refine wp_forR mvCB cs (fun pre ρ S' => ∃ (ws : List Cs) (s' : S3) (R : Store) (v6 v7 v8 v9 v10 v11 v12 v13 v14 v15 : Option MV), ws.map bareOf = pre ∧ (∀ c ∈ ws, ∀ m ∈ c.ms, GoodM (cs.map (·.name)) m) ∧ S' = mk l s' R ∧ Gr r R ∧
      R[r.length]? = some (.lst (cs.map mvCB)) ∧ R[r.length + 1]? = some (.lst (ws.map mvCs)) ∧ R[r.length + 2]? = some (.lst ((cs.map (·.name)).map .str)) ∧
      ρ = [some (.ref 1), some (.int m), some (.int 1), some (.ref (r.length + 2)), some (.ref (r.length + 3)), some (.ref (r.length + 4)), v6, v7, v8, v9, v10, v11, v12, v13, v14, v15]) (by omega)
      ⟨[], s1, R1, none, none, none, none, none, none, none, none, none, none, rfl, by simp, rfl, hg1, eb, by simpa using e4', en, rfl⟩ ?_ ?_ ?_
  · rintro pre ρ S' ⟨ws, s', R, v6, v7, v8, v9, v10, v11, v12, v13, v14, v15, _, _, rfl, _, h1, _⟩
    exact h1
  · rintro pre c post ρ S' e ⟨ws, s', R, v6, v7, v8, v9, v10, v11, v12, v13, v14, v15, hw, hgm, rfl, g, hb, hf, hn, rfl⟩
    rw [mvCB_eq]
    walk_at "runp"
    have hc : c ∈ cs := by rw [e]; simp
    obtain ⟨sg, _, hms⟩ := hB.ms
    have hm3 : c.ms.length ≤ 3 := by
      have := (hms c hc).1.length_le
      rw [List.length_map] at this
      exact Nat.le_trans this (by decide)
    have hwl : ws.length ≤ 8 := by
      have h2 := congrArg List.length hw
      have h3 := congrArg List.length e
      have h4 := hB.few
      simp at h2 h3
      omega
    refine ⟨by decide, ?_⟩
    have hRl : r.length + 2 < R.length := (List.getElem?_eq_some_iff.mp hn).1
    show wp (MI.forM _ _ _ 4096 0 [some (.ref 1), some (.int m), some (.int 1), some (.ref (r.length + 2)), some (.ref (r.length + 3)), some (.ref (r.length + 4)), some (.str c.name), some (.str c.upper), some (.tup (c.fields.map mvP)), some (.tup (c.ms.map mvM)), some (.ref (R.length + 2)), v11, v12, v13, v14, v15] (mk l s' (R ++ [.lst []]))) _ _
    refine wp_forT mvM c.ms (fun pm ρ S' => ∃ (ms : List Mt) (s2 : S3) (R2 : Store) (v11 v12 v13 v15 : Option MV), ms.map (fun m => (m.word, (m.ins, m.out))) = pm ∧ (∀ m ∈ ms, GoodM (cs.map (·.name)) m) ∧ S' = mk l s2 R2 ∧ Gr r R2 ∧
      R2[r.length]? = some (.lst (cs.map mvCB)) ∧ R2[r.length + 1]? = some (.lst (ws.map mvCs)) ∧ R2[r.length + 2]? = some (.lst ((cs.map (·.name)).map .str)) ∧ R2[R.length]? = some (.lst (ms.map mvMt)) ∧
      ρ = [some (.ref 1), some (.int m), some (.int 1), some (.ref (r.length + 2)), some (.ref (r.length + 3)), some (.ref (r.length + 4)), some (.str c.name), some (.str c.upper), some (.tup (c.fields.map mvP)), some (.tup (c.ms.map mvM)), some (.ref (R.length + 2)), v11, v12, v13, v14, v15]) (by omega)
      ⟨[], s', R ++ [.lst []], v11, v12, v13, v15, rfl, by simp, rfl, g.new rfl, (Gr.refl.new (o := .lst []) rfl).at hb, (Gr.refl.new (o := .lst []) rfl).at hf, (Gr.refl.new (o := .lst []) rfl).at hn, at_new, rfl⟩ ?_ ?_
    · rintro pm q post2 ρ S' e2 ⟨ms, s2, R2, v11, v12, v13, v15, hmw, hmg, rfl, g2, hb2, hf2, hn2, hm2, rfl⟩
      have hml : ms.length ≤ 3 := by
        have h2 := congrArg List.length hmw
        have h3 := congrArg List.length e2
        simp at h2 h3
        omega
      rw [mvM_eq]
      walk_at "runp"
      have cl2 := clR cl g2
      refine code1 cl2 fun a s3 ha => ?_
      walk_at "runp"
      have hm2' : ∀ s3, (mk l s3 R2)[R.length + 2]? = some (.lst (ms.map mvMt)) := fun _ => hm2
      rw [isLst_ref (hm2' s3)]
      walk_at "runp"
      refine handlers1 (w := .ref (r.length + 4)) (names := cs.map (·.name)) (.inr ⟨r.length + 2, rfl, hn2⟩) ⟨_, rfl⟩ hnl cl2 fun us s4 hu2 hu => ?_
      refine ⟨by decide, ?_⟩
      rw [wp_appR (hm2' s4) (by simp; omega)]
      simp only [keep]
      let mm : Mt := ⟨q.1, q.2.1, q.2.2, [a], us.map mvH⟩
      have hmm : GoodM (cs.map (·.name)) mm := ⟨⟨a, ha, rfl⟩, us, hu2, hu, rfl⟩
      have hg : ∀ m ∈ ms ++ [mm], GoodM (cs.map (·.name)) m := fun m hm => by
        rcases List.mem_append.mp hm with hm | hm
        · exact hmg m hm
        · rw [List.mem_singleton.mp hm]; exact hmm
      have hj : ms.map mvMt ++ [MV.tup [.str q.1, .tup (q.2.1.map .str), .str q.2.2, .tup [a], .tup (us.map mvH)]] = (ms ++ [mm]).map mvMt := by rw [List.map_append]; rfl
      have hst : ∀ o, (mk l s4 R2).set (R.length + 2) o = mk l s4 (R2.set R.length o) := fun _ => rfl
      have hne : ∀ i o, i < R.length → (R2.set R.length o)[i]? = R2[i]? := fun i o hi => List.getElem?_set_ne (by omega)
      refine ⟨ms ++ [mm], s4, R2.set R.length (.lst ((ms ++ [mm]).map mvMt)), _, _, _, _, by rw [List.map_append, hmw]; rfl, hg, by rw [hst, hj], g2.set (by omega) (blws_map 0 _ _ fun m hm => below_good (hg m hm)), by rw [hne _ _ (by omega)]; exact hb2, by rw [hne _ _ (by omega)]; exact hf2, by rw [hne _ _ (by omega)]; exact hn2, at_set hm2, rfl⟩
    · rintro ρ S' ⟨ms, s2, R2, v11, v12, v13, v15, hmw, hmg, rfl, g2, hb2, hf2, hn2, hm2, rfl⟩
      walk_at "runp"
      have hf2' : (mk l s2 R2)[r.length + 3]? = some (.lst (ws.map mvCs)) := hf2
      have hm2' : (mk l s2 R2)[R.length + 2]? = some (.lst (ms.map mvMt)) := hm2
      rw [isLst_ref hf2', wp_tupR hm2']
      refine ⟨rfl, by decide, ?_⟩
      rw [wp_appR hf2' (by simp; omega)]
      simp only [keep]
      let cc : Cs := ⟨c.name, c.upper, c.fields, ms⟩
      have hst : ∀ o, (mk l s2 R2).set (r.length + 3) o = mk l s2 (R2.set (r.length + 1) o) := fun _ => rfl
      have hj : ws.map mvCs ++ [MV.tup [.str c.name, .str c.upper, .tup (c.fields.map mvP), .tup (ms.map mvMt)]] = (ws ++ [cc]).map mvCs := by rw [List.map_append]; rfl
      have hg : ∀ c ∈ ws ++ [cc], ∀ m ∈ c.ms, GoodM (cs.map (·.name)) m := fun d hd => by
        rcases List.mem_append.mp hd with hd | hd
        · exact hgm d hd
        · rw [List.mem_singleton.mp hd]; exact hmg
      have hne : ∀ i o, i ≠ r.length + 1 → (R2.set (r.length + 1) o)[i]? = R2[i]? := fun i o hi => List.getElem?_set_ne (by omega)
      refine ⟨ws ++ [cc], s2, R2.set (r.length + 1) (.lst ((ws ++ [cc]).map mvCs)), _, _, _, _, _, _, _, _, _, _, ?_, hg, by rw [hst, hj], g2.set (by omega) (below_alls hg), by rw [hne _ _ (by omega)]; exact hb2, at_set hf2, by rw [hne _ _ (by omega)]; exact hn2, rfl⟩
      rw [List.map_append, hw, List.map_cons, List.map_nil]
      congr 2
      show (⟨c.name, c.upper, c.fields, ms.map fun m => (m.word, (m.ins, m.out))⟩ : CB) = c
      rw [hmw]
  · rintro ρ S' ⟨ws, s', R, v6, v7, v8, v9, v10, v11, v12, v13, v14, v15, hw, hgm, rfl, g, hb, hf, hn, rfl⟩
    walk_at "runp"
    have hf' : (mk l s' R)[r.length + 3]? = some (.lst (ws.map mvCs)) := hf
    rw [wp_tupR hf']
    have hws : ws.length = cs.length := by
      have := congrArg List.length hw
      simpa using this
    have hnm : names ws = cs.map (·.name) := by
      rw [← hw, List.map_map]
      rfl
    exact gc_valR cl g (below_alls hgm) (h ws s' (by rw [hw]; exact hB) (by rw [hnm]; exact hgm) (by omega) (by omega))
end
end K06


set_option Elab.async false
set_option linter.all false
set_option maxRecDepth 100000
set_option maxHeartbeats 1000000
namespace K06
open PySem PySem.Spec PyProof.Rows L2 MI
theorem tree_up : ∀ {xs : List (Str × Str)}, Tree xs → ∀ pre q post, xs = pre ++ q :: post → q.2 ∈ ("top" : Str) :: pre.map (·.1) := by
  intro xs h
  induction h with
  | nil => intro pre q post e; simp at e
  | @snoc xs a u ht hn hu ih =>
    intro pre q post e
    rcases List.eq_nil_or_concat post with rfl | ⟨post', z, rfl⟩
    · have e' : xs ++ [(a, u)] = pre ++ [q] := e
      obtain ⟨e1, e2⟩ := List.append_inj' e' rfl
      simp only [List.cons.injEq, and_true] at e2
      subst e1
      subst e2
      exact hu
    · have e' : xs ++ [(a, u)] = (pre ++ q :: post') ++ [z] := by rw [e]; simp
      obtain ⟨e1, e2⟩ := List.append_inj' e' rfl
      exact ih pre q post' e1
theorem tree_names : ∀ {xs : List (Str × Str)}, Tree xs → xs.map (·.1) = nm8.take xs.length ∧ xs.length ≤ 8 := by
  intro xs h
  induction h with
  | nil => exact ⟨rfl, by decide⟩
  | @snoc xs a u ht hn hu ih =>
    obtain ⟨h1, h2⟩ := ih
    have hl : xs.length < nm8.length := (List.getElem?_eq_some_iff.mp hn).1
    refine ⟨?_, ?_⟩
    · rw [List.map_append, h1, List.length_append, List.length_singleton, List.take_add_one, hn]
      rfl
    · rw [List.length_append, List.length_singleton]
      exact hl
theorem nm8_nd : nm8.Nodup := by decide +kernel
theorem nm8_top : ("top" : Str) ∉ nm8 := by decide +kernel
theorem nm8_w : ∀ z ∈ nm8, isW z ∧ z ∉ takenNames := by
  unfold isW
  decide +kernel
theorem fw_nd : ((List.range 24).map fw).Nodup := by decide +kernel
theorem fw_w : ∀ z ∈ (List.range 24).map fw, isW z := by
  unfold isW
  decide +kernel
theorem w3_nd : words3.Nodup := by decide +kernel
theorem w3_w : ∀ z ∈ words3, isW z := by
  unfold isW
  decide +kernel
section
variable {S : Store} {cs : List Cs} {E : EX} {Q : MV → Store → Prop}
theorem step0 (c : MI.Cl S) {w : Str} (hw : w = "give" ∨ w = "throw") : D_is_step [mvAll cs, .int 1, .tup [.str w]] S = .ok (.bl true) S := by
  unfold D_is_step
  refine fn_val rfl c rfl ?_
  unfold d_is_step
  simp only [n_is_step]
  walk_at "runp"
  rw [is_tuple_yes (by simp) (by simp)]
  walk_at "runp"
  have e1 : fNotInK tb_PARTS (.str w) S = .ok (.bl false) S := by
    rcases hw with rfl | rfl <;> rfl
  have e2 : fIxK tb_PARTS (.str w) S = .ok (.tup []) S := by
    rcases hw with rfl | rfl <;> rfl
  rw [e1]
  walk_at "runp"
  rw [e2]
  walk_at "runp"
  rw [if_neg (by simp)]
  rw [show fSl (.tup [.str w]) (some 1) none S = .ok (.tup []) S from rfl]
  walk_at "runp"
  refine wp_forZ (fun _ ρ S' => S' = S) (by decide) rfl (fun pre x post ρ S' e => by simp at e) ?_
  rintro ρ S' rfl
  walk_at "runp"
  walk_at "fin0"
theorem step1 (c : MI.Cl S) : D_is_step [mvAll cs, .int 1, .tup [.str "go", .int 0]] S = .ok (.bl true) S := by
  unfold D_is_step
  refine fn_val rfl c rfl ?_
  unfold d_is_step
  simp only [n_is_step]
  walk_at "runp"
  rw [is_tuple_yes (by simp) (by simp)]
  walk_at "runp"
  rw [show fNotInK tb_PARTS (.str "go") S = .ok (.bl false) S from rfl]
  walk_at "runp"
  rw [show fIxK tb_PARTS (.str "go") S = .ok (.tup [.str "step"]) S from rfl]
  walk_at "runp"
  rw [if_neg (by simp)]
  rw [show fSl (.tup [.str "go", .int 0]) (some 1) none S = .ok (.tup [.int 0]) S from rfl]
  walk_at "runp"
  refine wp_forZ (fun _ ρ S' => S' = S ∧ ∃ v4 v5, ρ = [some (mvAll cs), some (.int 1), some (.tup [.str "go", .int 0]), some (.tup [.str "step"]), v4, v5]) (by decide) ⟨rfl, _, _, rfl⟩ (fun pre x post ρ S' e => ?_) ?_
  · rintro ⟨rfl, v4, v5, rfl⟩
    have hx : x = (.str "step", .int 0) := by
      have : x ∈ List.zip [MV.str "step"] [MV.int 0] := by rw [e]; simp
      simpa using this
    subst hx
    walk_at "runp"
    have hb : D_can_be_part [mvAll cs, .int 1, .str "step", .tup [.str "go", .int 0], .int 0] S' = .ok (.bl true) S' := by
      unfold D_can_be_part
      refine fn_val rfl c rfl ?_
      unfold d_can_be_part
      simp only [n_can_be_part]
      walk_at "runp"
      rw [if_neg (by decide +kernel), if_neg (by decide +kernel)]
      rw [is_number_yes (by decide) (by decide)]
      walk_at "runp"
      walk_at "fin0"
    rw [hb]
    walk_at "runp"
    simp only [keep]
    exact ⟨trivial, _, _, rfl⟩
  · rintro ρ S' ⟨rfl, v4, v5, rfl⟩
    walk_at "runp"
    walk_at "fin0"
theorem bad_step_eq (c : MI.Cl S) {a : MV} (ha : a ∈ ends1) : D_bad_step [mvAll cs, .tup [a]] S = .ok .non S := by
  unfold D_bad_step
  refine fn_val rfl c rfl ?_
  unfold d_bad_step
  simp only [n_bad_step]
  walk_at "runp"
  have hs : ∀ S, MI.Cl S → D_is_step [mvAll cs, .int 1, a] S = .ok (.bl true) S := fun S c => by
    unfold ends1 at ha
    simp at ha
    rcases ha with rfl | rfl | rfl
    · exact step0 c (.inl rfl)
    · exact step0 c (.inr rfl)
    · exact step1 c
  refine wp_forE (fun a => a) [a] (fun pre ρ S' => S' = S ∧ ∃ v3 v4, ρ = [some (mvAll cs), some (.tup [a]), some (.int 1), v3, v4]) (by simp) ⟨rfl, _, _, rfl⟩ ?_ ?_
  · rintro pre x post ρ S' e ⟨rfl, v3, v4, rfl⟩
    have hx : x = a := by
      have : x ∈ [a] := by rw [e]; simp
      simpa using this
    subst hx
    walk_at "runp"
    rw [hs _ c]
    walk_at "runp"
    simp only [keep]
    exact ⟨trivial, _, _, rfl⟩
  · rintro ρ S' ⟨rfl, v3, v4, rfl⟩
    walk_at "runp"
    refine ⟨a, rfl, ?_⟩
    unfold ends1 at ha
    simp at ha
    rcases ha with rfl | rfl | rfl
    · walk_at "runp"
      rw [show fNotIn (.str "give") c_LAST S' = .ok (.bl false) S' from rfl]
      walk_at "runp"
      walk_at "fin0"
    · walk_at "runp"
      rw [show fNotIn (.str "throw") c_LAST S' = .ok (.bl false) S' from rfl]
      walk_at "runp"
      walk_at "fin0"
    · walk_at "runp"
      rw [show fNotIn (.str "go") c_LAST S' = .ok (.bl false) S' from rfl]
      walk_at "runp"
      walk_at "fin0"
theorem is_handler_eq (c : MI.Cl S) (h : OkP cs) {u : Str} (hu : IsC cs u) : D_is_handler [mvAll cs, .int 1, mvH u] S = .ok (.bl true) S := by
  unfold D_is_handler
  refine fn_val rfl c rfl ?_
  unfold d_is_handler mvH
  simp only [n_is_handler]
  walk_at "runp"
  rw [is_tuple_yes (by simp) (by simp)]
  walk_at "runp"
  rw [is_number_yes (by decide) (by decide)]
  walk_at "runp"
  rw [is_number_yes (by decide) (by decide)]
  walk_at "runp"
  rw [if_pos (by decide)]
  rw [is_class_yes c h hu]
  walk_at "runp"
  rw [is_number_yes (by decide) (by decide)]
  walk_at "runp"
  walk_at "fin0"
theorem bad_handler_eq (c : MI.Cl S) (h : OkP cs) {us : List Str} (h2 : us.length ≤ 2) (hu : ∀ u ∈ us, IsC cs u) : D_bad_handler [mvAll cs, .int 1, .tup (us.map mvH)] S = .ok .non S := by
  unfold D_bad_handler
  refine fn_val rfl c rfl ?_
  unfold d_bad_handler
  simp only [n_bad_handler]
  walk_at "runp"
  refine wp_forE mvH us (fun pre ρ S' => S' = S ∧ ∃ v3 v4, ρ = [some (mvAll cs), some (.int 1), some (.tup (us.map mvH)), v3, v4]) (by omega) ⟨rfl, _, _, rfl⟩ ?_ ?_
  · rintro pre x post ρ S' e ⟨rfl, v3, v4, rfl⟩
    walk_at "runp"
    rw [is_handler_eq c h (hu x (by rw [e]; simp))]
    walk_at "runp"
    simp only [keep]
    exact ⟨trivial, _, _, rfl⟩
  · rintro ρ S' ⟨rfl, v3, v4, rfl⟩
    walk_at "runp"
    walk_at "fin0"
theorem okC_of {ws : List Cs} (hB : Bare (ws.map bareOf)) (hG : ∀ c ∈ ws, ∀ m ∈ c.ms, GoodM (names ws) m) (hp : 0 < ws.length) : OkC ws := by
  have hnm : (ws.map bareOf).map (·.name) = names ws := by rw [List.map_map]; rfl
  have hT := hB.tree
  rw [List.map_map] at hT
  obtain ⟨ht1, ht2⟩ := tree_names hT
  have hn8 : names ws = nm8.take ws.length := by
    rw [List.map_map, List.length_map] at ht1
    exact ht1
  have hmem : ∀ x ∈ names ws, x ∈ nm8 := fun x hx => List.mem_of_mem_take (hn8 ▸ hx)
  have hN : OkN ws := by
    refine ⟨?_, ?_, ?_⟩
    · rw [hn8]
      exact nm8_nd.sublist (List.take_sublist _ _)
    · exact fun z => nm8_top (hmem _ z)
    · intro pre c post e
      have := tree_up hT (pre.map ((fun c : CB => (c.name, c.upper)) ∘ bareOf)) (c.name, c.upper) (post.map ((fun c : CB => (c.name, c.upper)) ∘ bareOf)) (by rw [e, List.map_append, List.map_cons]; rfl)
      rw [List.map_map] at this
      rcases List.mem_cons.mp this with z | z
      · exact .inl z
      · exact .inr z
  have hP : OkP ws := ⟨hN, by have := hB.few; simpa using this, fun c hc => (blws_all 0 _).mp (below_alls hG) _ (List.mem_map_of_mem hc)⟩
  have hK : ∀ k, k ∈ kindsOf ((ws.map bareOf).map (·.name)) → IsK ws k := fun k hk => by
    rw [hnm] at hk
    unfold kindsOf at hk
    simp only [List.mem_cons] at hk
    rcases hk with hk | hk | hk | hk
    · exact .inl hk
    · exact .inl hk
    · exact .inr (.inl hk)
    · exact .inr (.inr hk)
  obtain ⟨sg, hsg, hms⟩ := hB.ms
  have hmm : ∀ c ∈ ws, ∀ m ∈ c.ms, m.word ∈ words3 ∧ (m.ins, m.out) = sg m.word := fun c hc m hm => by
    obtain ⟨h1, h2⟩ := hms (bareOf c) (List.mem_map_of_mem hc)
    have hq : (m.word, (m.ins, m.out)) ∈ (bareOf c).ms := List.mem_map_of_mem (f := fun m : Mt => (m.word, (m.ins, m.out))) hm
    exact ⟨h1.subset (List.mem_map_of_mem (f := fun q : Str × (List Str × Str) => q.1) hq), h2 _ hq⟩
  have hff : (ws.map (·.fields)).flatten = ((ws.map bareOf).map (·.fields)).flatten := by rw [List.map_map]; rfl
  have hfl : ((ws.map (·.fields)).flatten).length ≤ 24 := by
    have := fieldsOf_few (cs := ws.map bareOf) hB.f2
    unfold fieldsOf at this
    rw [← hff] at this
    have h8 := hP.few
    simp only [List.length_map] at this
    omega
  have hfw : ((ws.map (·.fields)).flatten).map (·.1) = ((List.range 24).map fw).take ((ws.map (·.fields)).flatten).length := by
    have := hB.fws
    rw [← hff] at this
    rw [this, ← List.map_take, List.take_range, Nat.min_eq_left hfl]
  refine ⟨hP, hp, ?_, ?_, ?_, ?_, ?_, ?_, ?_, ⟨sg, fun c hc m hm => (hmm c hc m hm).2⟩⟩
  · exact fun c hc => nm8_w _ (hmem _ (List.mem_map_of_mem hc))
  · intro c hc
    have := hB.f2 (bareOf c) (List.mem_map_of_mem hc)
    have h2 : c.fields.length ≤ 2 := this
    omega
  · intro c hc q hq
    refine ⟨fw_w _ ?_, hK _ (hB.fk (bareOf c) (List.mem_map_of_mem hc) q hq)⟩
    refine List.mem_of_mem_take (i := ((ws.map (·.fields)).flatten).length) ?_
    rw [← hfw]
    exact List.mem_map_of_mem (List.mem_flatten.mpr ⟨c.fields, List.mem_map_of_mem hc, hq⟩)
  · rw [hfw]
    exact fw_nd.sublist (List.take_sublist _ _)
  · intro c hc
    have h1 := (hms (bareOf c) (List.mem_map_of_mem hc)).1.length_le
    rw [List.length_map] at h1
    have h2 : c.ms.length ≤ words3.length := by
      have : (bareOf c).ms.length = c.ms.length := by unfold bareOf; simp
      omega
    exact Nat.le_trans h2 (by decide)
  · intro c hc m hm
    obtain ⟨hw, hs⟩ := hmm c hc m hm
    have hS := hsg m.word hw
    rw [← hs] at hS
    obtain ⟨⟨a, ha, hcode⟩, us, hu2, hu, hh⟩ := hG c hc m hm
    have hu' : ∀ u ∈ us, IsC ws u := fun u huu => by
      rcases List.mem_cons.mp (hu u huu) with z | z
      · exact .inl z
      · exact .inr z
    refine ⟨w3_w _ hw, ?_, fun k hk => hK k (hS.ins k hk), hK _ hS.out, by rw [hcode]; simp, by rw [hcode]; simp, by rw [hh, List.length_map]; omega, fun S c => by rw [hcode]; exact bad_step_eq c ha, fun S c => by rw [hcode, hh]; exact bad_handler_eq c hP hu2 hu'⟩
    have h2 := hS.few
    have h3 : m.ins.length ≤ 2 := h2
    omega
  · intro c hc
    have h1 := (hms (bareOf c) (List.mem_map_of_mem hc)).1
    have e : (bareOf c).ms.map (·.1) = c.ms.map (·.word) := by unfold bareOf; rw [List.map_map]; rfl
    rw [e] at h1
    exact w3_nd.sublist h1
end
end K06


set_option Elab.async false
set_option linter.all false
set_option maxRecDepth 100000
set_option maxHeartbeats 1000000
namespace K06
open PySem PySem.Spec PyProof.Rows L2 MI
section
variable {S : Store} {cs : List Cs} {E : EX} {Q : MV → Store → Prop}
/-! the law's own -/
theorem row_of_eq (c : MI.Cl S) (h : OkP cs) {x : Str} : D__law_row_of [mvAll cs, .str x] S = .ok (.ref S.length) (S ++ [.lst ((rowOf cs.reverse x).map mvCs)]) := by
  have hb : ∀ l : List Cs, (∀ d ∈ l, d ∈ cs) → belows 0 (l.map mvCs) = true := fun l hl => blws_map 0 _ _ fun d hd => h.pure d (hl d hd)
  unfold D__law_row_of
  refine fn_list rfl c (hb _ fun d hd => row_isC h hd) ?_
  unfold d__law_row_of mvAll
  simp only [n__law_row_of]
  walk_at "runp"
  refine ⟨by decide, ?_⟩
  rw [← List.map_reverse]
  refine wp_forT mvCs cs.reverse (fun pre ρ S' => ∃ (acc : List Cs) (y : Str) (v : Option MV), (∀ d ∈ acc, d ∈ cs) ∧ acc.length ≤ pre.length ∧ (∀ post, cs.reverse = pre ++ post → acc ++ rowOf post y = rowOf cs.reverse x) ∧ Gr S S' ∧ S'[S.length]? = some (.lst (acc.map mvCs)) ∧
    ρ = [some (.tup (cs.map mvCs)), some (.str y), some (.ref S.length), v]) (by have := h.few; simp; omega) ⟨[], x, none, by simp, by simp, fun post e => by simp at e; rw [e]; rfl, Gr.refl.new rfl, at_new, rfl⟩ ?_ ?_
  · rintro pre d post ρ S' e ⟨acc, y, v, hac, hal, hac2, g, hl, rfl⟩
    have hd : d ∈ cs := List.mem_reverse.mp (by rw [e]; simp)
    have hpl : pre.length ≤ 8 := by
      have h1 := congrArg List.length e
      have h2 := h.few
      simp at h1
      omega
    walk_at "runp"
    simp only [mvCs_eq]
    walk_at "runp"
    have hk := hac2 _ e
    by_cases hn : d.name = y
    · rw [if_pos hn]
      rw [isLst_ref hl, wp_appR hl (by simp; omega)]
      simp only [keep, true_and]
      have hj : acc.map mvCs ++ [MV.tup [.str d.name, .str d.upper, .tup (d.fields.map mvPr), .tup (d.ms.map mvMt)]] = (acc ++ [d]).map mvCs := by rw [List.map_append]; rfl
      have hac' : ∀ z ∈ acc ++ [d], z ∈ cs := fun z hz => by
        rcases List.mem_append.mp hz with hz | hz
        · exact hac z hz
        · rw [List.mem_singleton.mp hz]; exact hd
      refine ⟨acc ++ [d], d.upper, _, hac', by simp; omega, fun post' e' => ?_, g.set (Nat.le_refl _) (by rw [hj]; exact hb _ hac'), by rw [at_set hl, hj], rfl⟩
      have : post' = post := by
        rw [e] at e'
        simpa using e'.symm
      subst this
      have hr : rowOf (d :: post') y = d :: rowOf post' d.upper := by
        show (if d.name = y then _ else _) = _
        rw [if_pos hn]
      rw [hr] at hk
      simpa using hk
    · rw [if_neg hn]
      simp only [keep]
      refine ⟨acc, y, _, hac, by simp; omega, fun post' e' => ?_, g, hl, rfl⟩
      have : post' = post := by
        rw [e] at e'
        simpa using e'.symm
      subst this
      have hr : rowOf (d :: post') y = rowOf post' y := by
        show (if d.name = y then _ else _) = _
        rw [if_neg hn]
      rw [hr] at hk
      exact hk
  · rintro ρ S' ⟨acc, y, v, hac, hal, hac2, g, hl, rfl⟩
    walk_at "runp"
    have := hac2 [] (by simp)
    have hr : rowOf [] y = [] := rfl
    rw [hr, List.append_nil] at this
    rw [this] at hl
    exact ⟨g, _, rfl, Nat.le_refl _, hl⟩
theorem wp_isT2T {l : List MV} {T U : String} : wp (fIsT2 T U (.tup l) S) E Q = Q (.bl (isTy "tuple" T || isTy "tuple" U)) S := rfl
theorem wp_isT2S {z : Str} {T U : String} : wp (fIsT2 T U (.str z) S) E Q = Q (.bl (isTy "str" T || isTy "str" U)) S := rfl
theorem wp_isSN {z : Str} : wp (fIs (.str z) .non S) E Q = Q (.bl false) S := rfl
theorem wp_eqBB {a b : Bool} : wp (fEq (.bl a) (.bl b) S) E Q = Q (.bl (decide (a = b))) S := rfl
theorem wp_neBB {a b : Bool} : wp (fNe (.bl a) (.bl b) S) E Q = Q (.bl (!decide (a = b))) S := rfl
theorem alike_str (n : Nat) {x : Str} : R__law_alike (n + 1) [.str x, .str x] S = .ok (.bl true) S := by
  unfold R__law_alike
  refine fn_same rfl ?_
  unfold d__law_alike
  simp only [n__law_alike]
  walk_at "runp"
  simp only [wp_isT2S, ty_str_tuple, ty_str_list, Bool.or_false]
  walk_at "runp"
  simp only [wp_isSN]
  walk_at "runp"
  simp only [wp_eqBB]
  simp
theorem eq_nil {n m : Nat} (e1 : S[n]? = some (.lst [])) (e2 : S[m]? = some (.lst [])) : wp (fEq (.ref n) (.ref m) S) E Q = Q (.bl true) S := by
  have h : eqM (.ref n) (.ref m) S = some true := by
    unfold eqM
    rw [show scalM (.ref n) (.ref m) = none from rfl]
    dsimp only
    have p : ∀ k, S[k]? = some (.lst []) → toPy S (.ref k) = some (.list []) := fun k e => by
      show toPyR S 6 k = _
      unfold toPyR
      rw [e]
      rfl
    rw [p n e1, p m e2]
    rfl
  unfold fEq
  rw [h]
  rfl
theorem range_get {n i : Nat} {x : Nat} (e : (List.range n)[i]? = some x) : x = i ∧ i < n := by
  have hi : i < n := by
    have := (List.getElem?_eq_some_iff.mp e).1
    simpa using this
  rw [List.getElem?_range hi] at e
  cases e
  exact ⟨rfl, hi⟩
theorem rng_src {n i : Nat} {x : Nat} (e : (List.range n)[i]? = some x) {S' : Store} : srcRng 0 (n : Int) i S' = .yield (.int x) := by
  obtain ⟨rfl, hi⟩ := range_get e
  unfold srcRng
  rw [if_pos (by omega)]
  simp
theorem rng_stop {n : Nat} {S' : Store} : srcRng 0 (n : Int) (List.range n).length S' = .stop := by
  unfold srcRng
  rw [if_neg (by simp)]
theorem alike_int (n : Nat) {i : Int} : R__law_alike (n + 1) [.int i, .int i] S = .ok (.bl true) S := by
  unfold R__law_alike
  refine fn_same rfl ?_
  unfold d__law_alike
  simp only [n__law_alike]
  walk_at "runp"
  simp only [show ∀ S E Q, wp (fIsT2 "tuple" "list" (.int i) S) E Q = Q (.bl false) S from fun _ _ _ => rfl]
  walk_at "runp"
  simp only [show ∀ S E Q, wp (fIs (.int i) .non S) E Q = Q (.bl false) S from fun _ _ _ => rfl]
  walk_at "runp"
  simp only [wp_eqBB]
  simp
theorem alike_non (n : Nat) : R__law_alike (n + 1) [.non, .non] S = .ok (.bl true) S := by
  unfold R__law_alike
  refine fn_same rfl ?_
  unfold d__law_alike
  simp only [n__law_alike]
  walk_at "runp"
  simp only [show ∀ S E Q, wp (fIsT2 "tuple" "list" .non S) E Q = Q (.bl false) S from fun _ _ _ => rfl]
  walk_at "runp"
  simp only [show ∀ S E Q, wp (fEq .non .non S) E Q = Q (.bl true) S from fun _ _ _ => rfl]
  walk_at "runp"
  simp only [wp_eqBB]
  simp
/-- data that hold no object, not deeper than n -/
def okA : Nat → MV → Prop
  | _ + 1, .int _ => True
  | _ + 1, .str _ => True
  | _ + 1, .non => True
  | n + 1, .tup l => l.length ≤ 4000 ∧ ∀ w ∈ l, okA n w
  | _, _ => False
theorem atL {l : List MV} {i : Nat} (hi : i < l.length) : atI l (i : Int) = some l[i] := by
  unfold atI ixN
  rw [if_pos (by omega), if_pos (by omega)]
  show l[(i : Int).toNat]? = _
  rw [Int.toNat_natCast, List.getElem?_eq_getElem hi]
theorem alike_ok : ∀ (n : Nat) (w : MV) (S : Store), MI.Cl S → okA n w → R__law_alike n [w, w] S = .ok (.bl true) S
  | 0, w, S, _, h => by unfold okA at h; exact h.elim
  | n + 1, .int i, S, _, _ => alike_int n
  | n + 1, .str i, S, _, _ => alike_str n
  | n + 1, .non, S, _, _ => alike_non n
  | n + 1, .bl b, S, _, h => by unfold okA at h; exact h.elim
  | n + 1, .ref b, S, _, h => by unfold okA at h; exact h.elim
  | n + 1, .tup A, S, c, h => by
    unfold okA at h
    obtain ⟨h, hA⟩ := h
    unfold R__law_alike
    refine fn_val rfl c rfl ?_
    unfold d__law_alike
    simp only [n__law_alike]
    walk_at "runp"
    simp only [wp_isT2T, ty_tuple_tuple, ty_tuple_list, Bool.or_false]
    walk_at "runp"
    simp only [wp_neBB]
    walk_at "runp"
    rw [if_neg (by simp), if_neg (by simp)]
    refine ⟨by omega, ?_⟩
    refine wp_lcG (fun i : Nat => .int i) (List.range A.length) (fun _ => false) (fun _ => .non) (by simp; omega) (by simp; omega) ?_ ?_ ?_ (by simp) ?_
    · intro i x S' e g
      exact rng_src e
    · intro S' g
      exact rng_stop
    · intro i hi S' g
      have hi' : i < A.length := List.mem_range.mp hi
      walk_at "runp"
      simp only [atL hi', Option.some.injEq, exists_eq_left']
      rw [alike_ok n A[i] S' (g.cl c) (hA _ (List.getElem_mem hi'))]
      walk_at "runp"
      walk_at "fin0"
    · intro S' g el
      rw [List.filter_eq_nil_iff.mpr (by simp)] at el
      have el' : S'[S.length]? = some (.lst []) := el
      refine ⟨by decide, ?_⟩
      rw [eq_nil ((Gr.refl.new (o := .lst []) rfl).at el') at_new]
      exact ⟨.inl rfl, g.new rfl⟩
theorem len_ref {n : Nat} {x : List MV} (e : S[n]? = some (.lst x)) : wp (fLen [.ref n] S) E Q = Q (.int x.length) S := by
  unfold fLen lenM
  simp only [itemsR e]
  rfl
end
end K06


set_option Elab.async false
set_option linter.all false
set_option maxRecDepth 100000
set_option maxHeartbeats 1000000
namespace K06
open PySem PySem.Spec PyProof.Rows L2 MI
theorem rowOf_sub : ∀ (l : List Cs) (x : Str), (rowOf l x).Sublist l
  | [], _ => List.Sublist.refl _
  | d :: l, x => by
    unfold rowOf
    split
    · exact (rowOf_sub l _).cons_cons _
    · exact (rowOf_sub l x).cons _
def dueOf (l : List Cs) : List (Str × Str) := (l.map (·.fields)).flatten
theorem due_len : ∀ {l : List Cs}, (∀ c ∈ l, c.fields.length ≤ 4) → (dueOf l).length ≤ 4 * l.length
  | [], _ => by simp [dueOf]
  | d :: l, h => by
    have h1 := h d (by simp)
    have h2 := due_len fun c hc => h c (List.mem_cons_of_mem _ hc)
    unfold dueOf at h2 ⊢
    rw [List.map_cons, List.flatten_cons, List.length_append, List.length_cons]
    omega
theorem fieldsUp_due {cs : List Cs} (h : OkP cs) (x : Str) : fieldsUp cs x = dueOf (rowOf cs.reverse x).reverse := by
  unfold fieldsUp lineOf dueOf
  rw [List.reverse_append, List.map_append, List.flatten_append]
  have e0 : (([("top" : Str)].reverse.map (fieldsAt cs)).flatten : List (Str × Str)) = [] := by
    simp [fieldsAt, h.n.find_top]
  rw [e0, List.nil_append, ← List.map_reverse, List.map_map]
  congr 1
  refine List.map_congr_left fun d hd => ?_
  have hc := row_isC h (List.mem_reverse.mp hd)
  simp [fieldsAt, h.n.find_mem hc]
theorem flat_sub {α : Type} {l m : List (List α)} (h : l.Sublist m) : l.flatten.Sublist m.flatten := by
  induction h with
  | slnil => exact List.Sublist.refl _
  | cons a h ih =>
    rw [List.flatten_cons]
    exact ih.trans (List.sublist_append_right _ _)
  | cons_cons a h ih =>
    rw [List.flatten_cons, List.flatten_cons]
    exact List.Sublist.append (List.Sublist.refl _) ih
theorem due_nd {cs : List Cs} (h : OkC cs) (x : Str) : ((dueOf (rowOf cs.reverse x).reverse).map (·.1)).Nodup := by
  have hs : ((rowOf cs.reverse x).reverse).Sublist cs := by
    have := (rowOf_sub cs.reverse x).reverse
    rwa [List.reverse_reverse] at this
  refine h.fnd.sublist (List.Sublist.map _ ?_)
  exact flat_sub (hs.map _)
section
variable {S : Store} {cs : List Cs} {E : EX} {Q : MV → Store → Prop}
theorem fields_of_eq {n : Nat} (c : MI.Cl S) (h : OkC cs) (e : S[n]? = some (hs cs)) {x : Str} (hx : IsC cs x) : D_fields_of [.ref n, .str x] S = .ok (.tup ((fieldsUp cs x).map mvPr)) S := by
  unfold D_fields_of
  refine fn_val rfl c (blws_pr 0 _) ?_
  unfold d_fields_of
  simp only [n_fields_of]
  walk_at "runp"
  rw [check_name_eq c h.p e hx]
  walk_at "runp"
  rw [prop_eq e]
  walk_at "runp"
  rw [fields_up_eq h.p c hx h.fl]
  walk_at "runp"
  walk_at "fin0"
theorem wp_backR {n : Nat} {l : List MV} (e : S[n]? = some (.lst l)) : wp (fBack (.ref n) S) E Q = Q (.ref S.length) (S ++ [.lst l.reverse]) := by
  unfold fBack fRev
  simp only [e]
  rfl
theorem wp_listT {l : List MV} : wp (fLstOf [.tup l] S) E Q = Q (.ref S.length) (S ++ [.lst l]) := rfl
end
theorem okA_prs {n : Nat} {l : List (Str × Str)} (h : l.length ≤ 4000) : okA (n + 3) (.tup (l.map mvPr)) := by
  unfold okA
  refine ⟨by simpa using h, fun w hw => ?_⟩
  obtain ⟨q, _, rfl⟩ := List.mem_map.mp hw
  unfold mvPr okA
  refine ⟨by simp, fun w hw => ?_⟩
  simp at hw
  rcases hw with rfl | rfl <;> (unfold okA; trivial)
theorem wp_make {S : Store} {cs : List Cs} {E : EX} {Q : MV → Store → Prop} (c : MI.Cl S) (h : OkC cs) {d : Den} {ρ : Env'} (hd : d ρ S = .ok (mvAll cs) S) : wp (dMake "House" D_House___init__ (aCons d aNil) ρ S) E Q = Q (.ref S.length) (S ++ [hs cs]) := by
  rw [make_eq c h (by unfold aCons aNil; simp only [hd, Res.bind])]
  rfl
theorem cl_row (ns : List Int) (s : S3) {r : Store} (h : r.all (belowO 0) = true) : MI.Cl (mk ns s r) := by
  unfold MI.Cl
  exact cl_mk (by simp) (blwA_le (by omega) h)
theorem gc_bl {n : Nat} {b : Bool} {S : Store} {E : EX} {Q : MV → Store → Prop} (h : ∀ S', Q (.bl b) S') : wp (gc n (.bl b) S) E Q := by
  unfold gc
  split
  · exact h _
  · split
    · exact h _
    · exact h _
theorem law_all (ns : List Int) : ∃ S', D_law [.ref 0] [.rol (ns.map MV.int)] = .ok (.bl true) S' := by
  have key : wp (D_law [.ref 0] [.rol (ns.map MV.int)]) NE fun w _ => w = .bl true := by
    unfold D_law
    rw [wp_fn (n := List.length [PySem.Str.ofString "script"]) (ws := [MV.ref 0]) rfl]
    unfold d_law
    simp only [n_law]
    walk_at "runp"
    refine ⟨by decide, ?_⟩
    show wp (D__law_classes [.ref 1, .int ((8 : Nat) : Int), .int 1] (mk ns ⟨0, 2906, 0⟩ [])) _ _
    refine classes (by decide) (by decide) rfl fun ws s hB hG hp h8 => ?_
    have hO := okC_of hB hG hp
    have c0 : MI.Cl (mk ns s []) := cl_row ns s rfl
    rw [wp_make c0 hO (by rfl)]
    have c1 : MI.Cl (mk ns s [] ++ [hs ws]) := (Gr.refl.new (blw_hs hO.p)).cl c0
    have eh : (mk ns s [] ++ [hs ws])[2]? = some (hs ws) := rfl
    rw [show (mk ns s []).length = 2 from rfl]
    generalize mk ns s [] ++ [hs ws] = S1 at c1 eh ⊢
    refine ⟨by decide, ?_⟩
    unfold mvAll
    rw [wp_srcT]
    have g1 : Gr S1 (S1 ++ [.lst [.str "top"]]) := Gr.refl.new rfl
    have e0 : (S1 ++ [.lst [.str "top"]])[S1.length]? = some (.lst [.str "top"]) := at_new
    generalize (S1 ++ [.lst [.str "top"]] : Store) = T at g1 e0 ⊢
    refine wp_lcT mvCs ws (fun _ => true) (fun c => .str c.name) (by omega) (by omega) ?_ (fun _ _ _ => rfl) ?_
    · intro d hd S' g
      walk_at "runp"
      simp only [mvCs_eq]
      walk_at "runp"
      walk_at "fin0"
    intro S2 g el
    rw [flt_true] at el
    rw [wp_addL (g.at e0) el (by simp; omega)]
    have hj : [MV.str "top"] ++ ws.map (fun c => MV.str c.name) = (("top" : Str) :: names ws).map .str := by
      unfold names
      rw [List.map_cons, List.map_map]
      rfl
    rw [hj]
    have g2 := (g1.trans g).new (o := .lst ((("top" : Str) :: names ws).map .str)) (blws_str 0 _)
    have c2 := g2.cl c1
    have en : (S2 ++ [.lst ((("top" : Str) :: names ws).map .str)])[S2.length]? = some (.lst ((("top" : Str) :: names ws).map .str)) := at_new
    have eh2 := g2.at eh
    generalize (S2 ++ [.lst ((("top" : Str) :: names ws).map .str)] : Store) = T3 at c2 en eh2 ⊢
    generalize S2.length = k at en ⊢
    have hnl : (("top" : Str) :: names ws).length ≤ 9 := by simp [names]; omega
    have hC : ∀ x ∈ ("top" : Str) :: names ws, IsC ws x := fun x hx => List.mem_cons.mp hx
    clear e0 el g g1 g2 hj eh c1 S1 T S2
    rw [wp_srcR en]
    refine wp_forR MV.str (("top" : Str) :: names ws) (fun pre ρ S' => Gr T3 S' ∧ ∃ v4 v5 v6 v7, ρ = [some (.ref 0), some (.ref 1), some (mvAll ws), some (.ref 2), v4, v5, v6, v7]) (by omega) ⟨Gr.refl, _, _, _, _, rfl⟩ (fun pre ρ S' h => h.1.at en) ?_ ?_
    · rintro pre one post ρ S' e ⟨g, v4, v5, v6, v7, rfl⟩
      have ho := hC one (by rw [e]; simp)
      have c' := g.cl c2
      walk_at "runp"
      refine ⟨by decide, ?_⟩
      have g3 : Gr S' (S' ++ [.lst []]) := Gr.refl.new rfl
      have e3 : (S' ++ [.lst []])[S'.length]? = some (.lst []) := at_new
      have c3 := g3.cl c'
      generalize (S' ++ [.lst []] : Store) = T4 at g3 e3 c3 ⊢
      generalize S'.length = k0 at e3 ⊢
      rw [row_of_eq c3 hO.p]
      walk_at "runp"
      rw [wp_backR at_new, ← List.map_reverse]
      have hrc : ∀ d ∈ (rowOf ws.reverse one).reverse, d ∈ ws := fun d hd => row_isC hO.p (List.mem_reverse.mp hd)
      have hrl : (rowOf ws.reverse one).reverse.length ≤ 8 := by
        have h1 := rowOf_len ws.reverse one
        simp at h1 ⊢
        omega
      have hdl : (dueOf (rowOf ws.reverse one).reverse).length ≤ 32 := by
        have h1 := due_len fun c hc => hO.fl c (hrc c hc)
        omega
      have hdn := due_nd hO one
      have hdu := fieldsUp_due hO.p one
      have hbc : ∀ l : List Cs, (∀ d ∈ l, d ∈ ws) → belows 0 (l.map mvCs) = true := fun l hl => blws_map 0 _ _ fun d hd => hO.p.pure d (hl d hd)
      have g4 : Gr T4 (T4 ++ [MO.lst (List.map mvCs (rowOf ws.reverse one))] ++ [MO.lst (List.map mvCs (rowOf ws.reverse one).reverse)]) := (Gr.refl.new (o := MO.lst (List.map mvCs (rowOf ws.reverse one))) (hbc _ fun d hd => row_isC hO.p hd)).new (o := MO.lst (List.map mvCs (rowOf ws.reverse one).reverse)) (hbc _ hrc)
      have e4 : (T4 ++ [MO.lst (List.map mvCs (rowOf ws.reverse one))] ++ [MO.lst (List.map mvCs (rowOf ws.reverse one).reverse)])[(T4 ++ [MO.lst (List.map mvCs (rowOf ws.reverse one))]).length]? = some (MO.lst (List.map mvCs (rowOf ws.reverse one).reverse)) := at_new
      generalize (T4 ++ [MO.lst (List.map mvCs (rowOf ws.reverse one))] ++ [MO.lst (List.map mvCs (rowOf ws.reverse one).reverse)] : Store) = T5 at g4 e4 ⊢
      generalize (T4 ++ [MO.lst (List.map mvCs (rowOf ws.reverse one))] : Store).length = m at e4 ⊢
      generalize (rowOf ws.reverse one).reverse = rs at hrc hrl hdl hdn hdu e4 ⊢
      have g5 := (g.trans g3).trans g4
      have c5 := g5.cl c2
      have e5 := g4.at e3
      rw [wp_srcR e4]
      refine wp_forR mvCs rs (fun pre ρ S' => Gr T5 S' ∧ ∃ kd v6, S'[kd]? = some (.lst ((dueOf pre).map mvPr)) ∧ ρ = [some (.ref 0), some (.ref 1), some (mvAll ws), some (.ref 2), some (.str one), some (.ref kd), v6, v7]) (by omega) ⟨Gr.refl, k0, _, e5, rfl⟩ (fun pre ρ S' h => h.1.at e4) ?_ ?_
      · rintro p1 d p2 ρ S6 e6 ⟨g6, kd, v6', ek, rfl⟩
        have hd : d ∈ ws := hrc d (by rw [e6]; simp)
        have hp : (dueOf p1).length ≤ 32 := by
          have h1 : (dueOf p1).length ≤ 4 * p1.length := due_len fun c hc => hO.fl c (hrc c (by rw [e6]; simp [hc]))
          have h2 := congrArg List.length e6
          simp at h2
          omega
        have hf := hO.fl d hd
        simp only [mvCs_eq]
        walk_at "runp"
        rw [wp_listT, wp_addL ((Gr.refl.new (o := MO.lst (d.fields.map mvPr)) (blws_pr 0 _)).at ek) at_new (by simp; omega)]
        simp only [keep]
        have hj : (dueOf p1).map mvPr ++ d.fields.map mvPr = (dueOf (p1 ++ [d])).map mvPr := by
          unfold dueOf
          simp
        rw [hj]
        exact ⟨g6.trans ((Gr.refl.new (o := MO.lst (d.fields.map mvPr)) (blws_pr 0 _)).new (o := MO.lst ((dueOf (p1 ++ [d])).map mvPr)) (blws_pr 0 _)), _, _, at_new, rfl⟩
      · rintro ρ S6 ⟨g6, kd, v6', ek, rfl⟩
        have c6 := g6.cl c5
        walk_at "runp"
        rw [fields_of_eq c6 hO ((g5.trans g6).at eh2) ho, hdu]
        walk_at "runp"
        rw [wp_tupR ek]
        rw [show D__law_alike = R__law_alike (5 + 3) from rfl, alike_ok _ _ _ c6 (okA_prs (by omega))]
        walk_at "runp"
        rw [wp_srcR ek]
        refine wp_lcR mvPr (dueOf rs) (fun _ => true) (fun q => .str q.1) ek (by omega) (by omega) ?_ (fun _ _ _ => rfl) ?_
        · intro q hq S7 g7
          unfold mvPr
          walk_at "runp"
          walk_at "fin0"
        · intro S7 g7 el
          rw [flt_true, show (dueOf rs).map (fun q => MV.str q.1) = ((dueOf rs).map (·.1)).map .str by rw [List.map_map]; rfl] at el
          rw [wp_lenSet el (by simp; omega) hdn]
          rw [len_ref (g7.at ek), List.length_map, List.length_map]
          walk_at "runp"
          rw [if_neg (by simp)]
          simp only [keep]
          exact ⟨(g5.trans g6).trans g7, _, _, _, _, rfl⟩
    · rintro ρ S' ⟨g, v4, v5, v6, v7, rfl⟩
      have c' := g.cl c2
      walk_at "runp"
      rw [fields_of_eq c' hO (g.at eh2) (.inl rfl), fieldsUp_due hO.p, hO.p.n.row_top]
      exact ⟨by decide, gc_bl fun _ => rfl⟩
  obtain ⟨a, S', e, rfl⟩ := key.ex
  exact ⟨S', e⟩
end K06


set_option Elab.async false
set_option linter.all false
set_option maxRecDepth 100000
set_option maxHeartbeats 0
namespace K06
open PySem PySem.Spec PyProof.Rows L2 MI
theorem law_true (ns : List Int) (h : ns.length ≤ 63) : ∃ S', D_law [.ref 0] [.rol (ns.map MV.int)] = .ok (.bl true) S' := by
  exact law_all ns
end K06
open PySem PySem.W PySem.Calls PyProof.Rows
theorem PySem.Challenge.cw_classhouse_k06_whole_fields_holds : PySem.Challenge.rw_classhouse_k06_whole_fields.Holds := by
  w_on; o_law
  refine HandSHeadRun.head_any (r := K06.R) (q := K06.qv) (H := K06.hk) (ob := K06.lk) (M := 5600) (loose := K06.tnames) (d := HandSHeadRun.topDef K06.R.prog 62) (kwd := []) (MI.lookT_eq _ _ _ _ _)
    (by kernel_rfl) (fun s => by kernel_rfl) K06.run (by kernel_rfl) (by kernel_rfl) (by kernel_rfl) (by rfl) (by first | assumption | decide +kernel) (by decide +kernel) ⟨rfl, rfl, rfl, rfl, rfl, by decide +kernel⟩ ?hw ?hc
  case hw => w_witness2
  case hc =>
    refine MI.walkM (l := PySem.Challenge.rw_classhouse_k06_whole_fields) (n := 63) (k := 12) (x := "script") rfl (by decide) (by kernel_rfl) ⟨rfl, by decide, by decide⟩ K06.D_law K06.law_true ?F
    intro w mg f h Y G hm0
    obtain ⟨K, KX, c⟩ := Y
    have hm : mg ("law" : PySem.Str) = some (.ref f) := by
      have e : (HandSHeadRun.topDef K06.R.prog 62).name = ("law" : PySem.Str) := by kernel_rfl
      rw [← e]
      exact hm0
    obtain ⟨T, e⟩ := K06.all_txt KX G c
    have e2 : f = T.f_law := by
      have z := T.m_law
      rw [hm] at z
      cases z
      rfl
    subst e2
    exact ⟨K, (K06.GG T).ct, T.d_law, KX, c.no, MI.fun_bindsA (ps := ["script"]) T.F_law fun _ _ _ _ _ _ us hl => match us, hl with | [_], _ => rfl, fun base => K06.ok_law T⟩
