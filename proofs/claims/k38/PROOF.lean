import PyProof.Rows.All
import Wide.All
import OpenK.AllK
import Wide.FinOn
import HandS.ForMost
import HandS.ForExc
import HandS.Walk
import HandS.CallSlots
import HandS.IsInst
import HandS.Flow
import HandS.Strs
import HandS.TupAny
import HandS.TupMul
import HandS.Wide
import HandS.Conv
import HandS.Style
import HandS.Zip
import HandS.Property
import HandS.Star
import HandS.More
import KE.GoesEnum
import HandS.OwnEq
import PyProof.AutoSeq1
import HandS.Head0
import HandS.Head1
import HandS.Head2
import HandS.HeadEnd
import HandS.HeadHook1
import HandS.HeadHook2
import HandS.HeadHook3
import HandS.Deep
import HandS.RevRange
import HandS.ExcOwn
import HandS.Small
import PyProof.ExcBaseAll.ValueError
import PyProof.FString2
import KE.KExcSuper
import HandS.ExcInit
import HandS.ExcField
import HandS.ExcIs
import HandS.SortRule
import HandS.ListItems
import HandS.SetKeys
import PyProof.TupleOfSeq
import HandS.SetBool
import PyProof.Rows.SortShellAny
import HandS.SetFor
import KE.SortData
import HandS.Iter
import HandS.DictComp
import KE.DataFind
import KE.LcSums
import PySem.Challenge.RW_classhouse_k38_whole_codes_with_names_ag
set_option Elab.async false
set_option linter.all false
set_option maxRecDepth 100000
/-! The small machine: values with tuples held by value, a store of the objects that change, and what a program's expressions and statements come to over these.
Each rule here says: where the small machine comes to an end, the program does so too, and alike. -/
namespace MI
open PySem PySem.Spec PyProof.Rows L2
inductive MV where
  | non | bl (b : Bool) | int (i : Int) | str (s : Str) | tup (l : List MV) | ref (n : Nat) | out (k : Nat)
inductive MO where
  | lst (l : List MV) | rol (l : List MV) | dic (kvs : List (Key × MV)) | ins (c : Str) (fs : List (Str × MV)) | tpo (l : List MV) | tpp (l : List MV) | dct (kvs : List (List Key × MV)) | fdt (kvs : List (List Key × MV)) | set (zs : List Int)
abbrev Store := List MO
structure Gx where
  K : PySem.W.Frag
  ct : Str → Option Addr
  outs : List Addr := []
  ow : Option World := none
mutual
inductive RW (G : Gx) (ι : List Addr) (H : Hp) : MV → V → Prop
  | non : RW G ι H .non .non
  | bl (b : Bool) : RW G ι H (.bl b) (.bl b)
  | int (i : Int) : RW G ι H (.int i) (.int i)
  | str (s : Str) : RW G ι H (.str s) (.str s)
  | tup {a : Addr} {vs : List V} {l : List MV} : SqT G.K H a vs → RWs G ι H l vs → RW G ι H (.tup l) (.ref a)
  | ref {n : Nat} {a : Addr} : ι[n]? = some a → RW G ι H (.ref n) (.ref a)
  | out {k : Nat} {a : Addr} : G.outs[k]? = some a → RW G ι H (.out k) (.ref a)
inductive RWs (G : Gx) (ι : List Addr) (H : Hp) : List MV → List V → Prop
  | nil : RWs G ι H [] []
  | cons {w : MV} {v : V} {ws : List MV} {vs : List V} : RW G ι H w v → RWs G ι H ws vs → RWs G ι H (w :: ws) (v :: vs)
end
section
variable {G : Gx} {ι ι' : List Addr} {H H' : Hp}
mutual
theorem RW.mono (e : ∀ (n : Nat) (a : Addr), ι[n]? = some a → ι'[n]? = some a) (t : ∀ a xs, SqT G.K H a xs → SqT G.K H' a xs) : ∀ (w : MV) (v : V), RW G ι H w v → RW G ι' H' w v
  | .non, _, h => by cases h; exact .non
  | .bl b, _, h => by cases h; exact .bl b
  | .int i, _, h => by cases h; exact .int i
  | .str s, _, h => by cases h; exact .str s
  | .tup l, _, h => by
    cases h with
    | tup h1 h2 => exact .tup (t _ _ h1) (RWs.mono e t l _ h2)
  | .ref n, _, h => by
    cases h with
    | ref h1 => exact .ref (e _ _ h1)
  | .out k, _, h => by
    cases h with
    | out h1 => exact .out h1
theorem RWs.mono (e : ∀ (n : Nat) (a : Addr), ι[n]? = some a → ι'[n]? = some a) (t : ∀ a xs, SqT G.K H a xs → SqT G.K H' a xs) : ∀ (ws : List MV) (vs : List V), RWs G ι H ws vs → RWs G ι' H' ws vs
  | [], _, h => by cases h; exact .nil
  | w :: ws, _, h => by
    cases h with
    | cons h1 h2 => exact .cons (RW.mono e t w _ h1) (RWs.mono e t ws _ h2)
end
theorem RWs.length : ∀ {ws : List MV} {vs : List V}, RWs G ι H ws vs → ws.length = vs.length
  | [], _, h => by cases h; rfl
  | w :: ws, _, h => by
    cases h with
    | cons h1 h2 => rw [List.length_cons, List.length_cons, RWs.length h2]
theorem RWs.get : ∀ {ws : List MV} {vs : List V} {i : Nat} {w : MV}, RWs G ι H ws vs → ws[i]? = some w → ∃ v, vs[i]? = some v ∧ RW G ι H w v
  | [], _, _, _, h, e => by simp at e
  | a :: ws, _, i, w, h, e => by
    cases h with
    | cons h1 h2 =>
      cases i with
      | zero => simp at e; subst e; exact ⟨_, rfl, h1⟩
      | succ i =>
        obtain ⟨v, e1, r⟩ := RWs.get (i := i) h2 (by simpa using e)
        exact ⟨v, by simpa using e1, r⟩
theorem RWs.append : ∀ {ws us : List MV} {vs xs : List V}, RWs G ι H ws vs → RWs G ι H us xs → RWs G ι H (ws ++ us) (vs ++ xs)
  | [], _, _, _, h, k => by cases h; exact k
  | a :: ws, _, _, _, h, k => by
    cases h with
    | cons h1 h2 => exact .cons h1 (RWs.append h2 k)
theorem RWs.set {w : MV} {v : V} (r : RW G ι H w v) : ∀ {ws : List MV} {vs : List V} (i : Nat), RWs G ι H ws vs → RWs G ι H (ws.set i w) (vs.set i v)
  | [], _, _, h => by cases h; exact .nil
  | a :: ws, _, i, h => by
    cases h with
    | cons h1 h2 =>
      cases i with
      | zero => exact .cons r h2
      | succ i => exact .cons h1 (RWs.set r i h2)
theorem RWs.take : ∀ {ws : List MV} {vs : List V} (n : Nat), RWs G ι H ws vs → RWs G ι H (ws.take n) (vs.take n)
  | _, _, 0, _ => by simpa using RWs.nil
  | [], _, n + 1, h => by cases h; exact .nil
  | a :: ws, _, n + 1, h => by
    cases h with
    | cons h1 h2 => exact .cons h1 (RWs.take n h2)
theorem RWs.drop : ∀ {ws : List MV} {vs : List V} (n : Nat), RWs G ι H ws vs → RWs G ι H (ws.drop n) (vs.drop n)
  | _, _, 0, h => by simpa using h
  | [], _, n + 1, h => by cases h; exact .nil
  | a :: ws, _, n + 1, h => by
    cases h with
    | cons h1 h2 => exact RWs.drop n h2
end
/-! ### the store -/
def RO (G : Gx) (ι : List Addr) (H : Hp) (a : Addr) : MO → Prop
  | .lst l => ∃ vs, H a = some (.lst vs) ∧ RWs G ι H l vs
  | .rol l => ∃ o vs, H a = some (.frz o (.lst vs)) ∧ RWs G ι H l vs ∧ ∀ w ∈ l, ∃ i, w = .int i
  | .dic kvs => ∃ kv', H a = some (.dK kv') ∧ kv'.map (·.1) = kvs.map (·.1) ∧ RWs G ι H (kvs.map (·.2)) (kv'.map (·.2))
  | .ins c fs => ∃ C dx fs', G.ct c = some C ∧ H a = some (.ins C dx fs') ∧ fs'.map (·.1) = fs.map (·.1) ∧ RWs G ι H (fs.map (·.2)) (fs'.map (·.2))
  | .tpo l => ∃ o vs, H a = some (.frz o (.tup vs)) ∧ o.cls = .type "tuple" ∧ o.dict = none ∧ RWs G ι H l vs
  | .tpp l => ∃ vs, H a = some (.tup vs) ∧ RWs G ι H l vs
  | .dct kvs => ∃ kv', H a = some (.dT kv') ∧ kv'.map (·.1) = kvs.map (·.1) ∧ RWs G ι H (kvs.map (·.2)) (kv'.map (·.2))
  | .fdt kvs => ∃ o kv', H a = some (.frz o (.dT kv')) ∧ kv'.map (·.1) = kvs.map (·.1) ∧ RWs G ι H (kvs.map (·.2)) (kv'.map (·.2))
  | .set zs => ∃ w c, G.ow = some w ∧ c ≤ zs.length ∧ H a = some (SetO w a (fun j => decide (j ∈ zs)) c)
structure Sim (G : Gx) (ι : List Addr) (H : Hp) (S : Store) : Prop where
  len : ι.length = S.length
  nd : ι.Nodup
  obj : ∀ (n : Nat) (o : MO) (a : Addr), S[n]? = some o → ι[n]? = some a → RO G ι H a o
structure Post (G : Gx) (ι : List Addr) (H : Hp) (ι' : List Addr) (H' : Hp) (S' : Store) : Prop where
  ext : ∀ (n : Nat) (a : Addr), ι[n]? = some a → ι'[n]? = some a
  tup : ∀ a xs, SqT G.K H a xs → SqT G.K H' a xs
  frz : ∀ a o u, H a = some (.frz o u) → H' a = some (.frz o u)
  sim : Sim G ι' H' S'
section
variable {G : Gx} {ι ι1 ι' : List Addr} {H H1 H' : Hp} {S S1 S' : Store}
theorem Post.refl (s : Sim G ι H S) : Post G ι H ι H S := ⟨fun _ _ e => e, fun _ _ e => e, fun _ _ _ e => e, s⟩
theorem Post.trans (p : Post G ι H ι1 H1 S1) (q : Post G ι1 H1 ι' H' S') : Post G ι H ι' H' S' := ⟨fun n a e => q.ext n a (p.ext n a e), fun a xs e => q.tup a xs (p.tup a xs e), fun a o u e => q.frz a o u (p.frz a o u e), q.sim⟩
theorem Post.rw (p : Post G ι H ι' H' S') {w : MV} {v : V} (r : RW G ι H w v) : RW G ι' H' w v := r.mono p.ext p.tup
theorem Post.rws (p : Post G ι H ι' H' S') {w : List MV} {v : List V} (r : RWs G ι H w v) : RWs G ι' H' w v := r.mono p.ext p.tup
theorem RO.here {a : Addr} {o : MO} (r : RO G ι H a o) : ∃ ho, H a = some ho := by
  cases o with
  | lst l => obtain ⟨vs, e, _⟩ := r; exact ⟨_, e⟩
  | rol l => obtain ⟨o, vs, e, _⟩ := r; exact ⟨_, e⟩
  | dic kvs => obtain ⟨kv', e, _⟩ := r; exact ⟨_, e⟩
  | ins c fs => obtain ⟨C, dx, fs', _, e, _⟩ := r; exact ⟨_, e⟩
  | tpo l => obtain ⟨o, vs, e, _⟩ := r; exact ⟨_, e⟩
  | tpp l => obtain ⟨vs, e, _⟩ := r; exact ⟨_, e⟩
  | dct kvs => obtain ⟨kv', e, _⟩ := r; exact ⟨_, e⟩
  | fdt kvs => obtain ⟨o, kv', e, _⟩ := r; exact ⟨_, e⟩
  | set zs => obtain ⟨w, c, _, _, e⟩ := r; exact ⟨_, e⟩
theorem RO.mono {a : Addr} {o : MO} (e : ∀ (n : Nat) (a : Addr), ι[n]? = some a → ι'[n]? = some a) (t : ∀ a xs, SqT G.K H a xs → SqT G.K H' a xs) (k : H' a = H a) (r : RO G ι H a o) : RO G ι' H' a o := by
  cases o with
  | lst l => obtain ⟨vs, h, q⟩ := r; exact ⟨vs, k.trans h, q.mono e t⟩
  | rol l => obtain ⟨o, vs, h, q, ii⟩ := r; exact ⟨o, vs, k.trans h, q.mono e t, ii⟩
  | dic kvs => obtain ⟨kv', h, z, q⟩ := r; exact ⟨kv', k.trans h, z, q.mono e t⟩
  | ins c fs => obtain ⟨C, dx, fs', hc, h, z, q⟩ := r; exact ⟨C, dx, fs', hc, k.trans h, z, q.mono e t⟩
  | tpo l => obtain ⟨o, vs, h, c, d, q⟩ := r; exact ⟨o, vs, k.trans h, c, d, q.mono e t⟩
  | tpp l => obtain ⟨vs, h, q⟩ := r; exact ⟨vs, k.trans h, q.mono e t⟩
  | dct kvs => obtain ⟨kv', h, z, q⟩ := r; exact ⟨kv', k.trans h, z, q.mono e t⟩
  | fdt kvs => obtain ⟨o, kv', h, z, q⟩ := r; exact ⟨o, kv', k.trans h, z, q.mono e t⟩
  | set zs => obtain ⟨w, c, g, l, h⟩ := r; exact ⟨w, c, g, l, k.trans h⟩
theorem Sim.at (s : Sim G ι H S) {n : Nat} {o : MO} (h : S[n]? = some o) : ∃ a, ι[n]? = some a ∧ RO G ι H a o := by
  have hn : n < ι.length := by rw [s.len]; exact (List.getElem?_eq_some_iff.mp h).1
  exact ⟨ι[n], by simp [hn], s.obj n o _ h (by simp [hn])⟩
theorem Sim.there (s : Sim G ι H S) {n : Nat} {a : Addr} (h : ι[n]? = some a) : ∃ ho, H a = some ho := by
  have hn : n < S.length := by rw [← s.len]; exact (List.getElem?_eq_some_iff.mp h).1
  exact (s.obj n S[n] a (by simp [hn]) h).here
theorem sqT_upd {K : PySem.W.Frag} {p : Addr} {ho : HO} (h : ∀ xs, ¬ Rd H p (.tup xs)) (a : Addr) (xs : List V) (q : SqT K H a xs) : SqT K (upd H p ho) a xs := by
  rcases q with q | q
  · have ne : a ≠ p := fun e => h xs (e ▸ q)
    left
    rcases q with q | ⟨o, q⟩
    · exact .inl (by rw [upd_ne ne]; exact q)
    · exact .inr ⟨o, by rw [upd_ne ne]; exact q⟩
  · exact .inr q
theorem noTup_none {p : Addr} (h : H p = none) (xs : List V) : ¬ Rd H p (.tup xs) := fun q => by
  rcases q with q | ⟨o, q⟩ <;> (rw [h] at q; cases q)
theorem noTup_of {p : Addr} {ho : HO} (h : H p = some ho) (n1 : ∀ ys, ho ≠ .tup ys) (n2 : ∀ o ys, ho ≠ .frz o (.tup ys)) (xs : List V) : ¬ Rd H p (.tup xs) := fun q => by
  rcases q with q | ⟨o, q⟩ <;> (rw [h] at q; cases q)
  · exact n1 _ rfl
  · exact n2 _ _ rfl
theorem Sim.lay (s : Sim G ι H S) {p : Addr} (h : H p = none) (ho : HO) : Post G ι H ι (upd H p ho) S := by
  have t := sqT_upd (K := G.K) (ho := ho) (noTup_none h)
  refine ⟨fun _ _ e => e, t, fun a o u e => by rw [upd_ne (ne_of_none e h)]; exact e, s.len, s.nd, fun n o a hn ha => ?_⟩
  have r := s.obj n o a hn ha
  obtain ⟨hb, e⟩ := r.here
  exact r.mono (fun _ _ e => e) t (upd_ne (ne_of_none e h))
theorem Sim.new (s : Sim G ι H S) {p : Addr} (h : H p = none) {ho : HO} {mo : MO} (r : RO G (ι ++ [p]) (upd H p ho) p mo) : Post G ι H (ι ++ [p]) (upd H p ho) (S ++ [mo]) := by
  have t := sqT_upd (K := G.K) (ho := ho) (noTup_none h)
  have ext : ∀ (n : Nat) (a : Addr), ι[n]? = some a → (ι ++ [p])[n]? = some a := fun n a e => by
    have hn := (List.getElem?_eq_some_iff.mp e).1
    rw [List.getElem?_append_left hn]; exact e
  refine ⟨ext, t, fun a o u e => by rw [upd_ne (ne_of_none e h)]; exact e, by simp [s.len], ?_, fun n o a hn ha => ?_⟩
  · refine List.nodup_append.mpr ⟨s.nd, by simp, fun a ha b hb e => ?_⟩
    have hb' : b = p := by simpa using hb
    subst hb'
    subst e
    obtain ⟨n, hn⟩ := List.getElem?_of_mem ha
    obtain ⟨ho', e⟩ := s.there hn
    rw [h] at e; cases e
  · by_cases hl : n < S.length
    · rw [List.getElem?_append_left hl] at hn
      rw [List.getElem?_append_left (by rw [s.len]; exact hl)] at ha
      have q := s.obj n o a hn ha
      obtain ⟨hb, e⟩ := q.here
      exact q.mono ext t (upd_ne (ne_of_none e h))
    · have hn' : n = S.length := by
        have := (List.getElem?_eq_some_iff.mp hn).1
        simp at this; omega
      subst hn'
      rw [List.getElem?_append_right (Nat.le_refl _)] at hn
      rw [List.getElem?_append_right (by rw [s.len]; exact Nat.le_refl _)] at ha
      simp [s.len] at hn ha
      subst hn
      subst ha
      exact r
theorem Sim.write (s : Sim G ι H S) {n : Nat} {p : Addr} {ho ho' : HO} {mo : MO} (hi : ι[n]? = some p) (h : H p = some ho) (n1 : ∀ ys, ho ≠ .tup ys) (n2 : ∀ o u, ho ≠ .frz o u)
    (r : RO G ι (upd H p ho') p mo) : Post G ι H ι (upd H p ho') (S.set n mo) := by
  have t := sqT_upd (K := G.K) (ho := ho') (noTup_of h n1 fun o ys => n2 o (.tup ys))
  refine ⟨fun _ _ e => e, t, fun a o u e => by rw [upd_ne fun z => by rw [z, h] at e; cases e; exact n2 _ _ rfl]; exact e, by simp [s.len], s.nd, fun m o a hm ha => ?_⟩
  by_cases e : n = m
  · subst e
    have hl : n < S.length := by
      have := (List.getElem?_eq_some_iff.mp hm).1
      simpa using this
    rw [List.getElem?_set_self hl] at hm
    cases hm
    rw [hi] at ha
    cases ha
    exact r
  · rw [List.getElem?_set_ne e] at hm
    have q := s.obj m o a hm ha
    refine q.mono (fun _ _ e => e) t (upd_ne fun z => e ?_)
    subst z
    obtain ⟨h1, e1⟩ := List.getElem?_eq_some_iff.mp hi
    obtain ⟨h2, e2⟩ := List.getElem?_eq_some_iff.mp ha
    exact (List.getElem_inj s.nd).mp (e1.trans e2.symm)
end
/-! ### a frame's names -/
abbrev Env' := List (Option MV)
structure RE (G : Gx) (ι : List Addr) (H : Hp) (ρ : Env') (σ : L2.St) : Prop where
  len : ρ.length = σ.length
  get : ∀ (i : Nat) (w : MV), ρ[i]? = some (some w) → ∃ v, σ[i]? = some (some v) ∧ RW G ι H w v
section
variable {G : Gx} {ι ι1 ι' : List Addr} {H H1 H' : Hp} {S S1 S' : Store} {ρ : Env'} {σ : L2.St}
theorem Post.re (p : Post G ι H ι' H' S') (r : RE G ι H ρ σ) : RE G ι' H' ρ σ := ⟨r.len, fun i w e => let ⟨v, h, q⟩ := r.get i w e; ⟨v, h, p.rw q⟩⟩
theorem RE.set (r : RE G ι H ρ σ) {w : MV} {v : V} (q : RW G ι H w v) (i : Nat) : RE G ι H (ρ.set i (some w)) (σ.set i (some v)) := by
  refine ⟨by simp [r.len], fun j u e => ?_⟩
  by_cases z : i = j
  · subst z
    have hl : i < ρ.length := by
      have := (List.getElem?_eq_some_iff.mp e).1
      simpa using this
    rw [List.getElem?_set_self hl] at e
    cases e
    exact ⟨v, by rw [List.getElem?_set_self (by rw [← r.len]; exact hl)], q⟩
  · rw [List.getElem?_set_ne z] at e
    obtain ⟨v', h, q'⟩ := r.get j u e
    exact ⟨v', by rw [List.getElem?_set_ne z]; exact h, q'⟩
end
/-! ### what comes out -/
inductive Res (α : Type) where
  | ok (a : α) (S : Store)
  | err (c : Str) (fs : List (Str × MV)) (S : Store)
  | stuck
def Res.bind {α β : Type} (r : Res α) (f : α → Store → Res β) : Res β :=
  match r with
  | .ok a S => f a S
  | .err c fs S => .err c fs S
  | .stuck => .stuck
abbrev Den := Env' → Store → Res MV
abbrev DenL := Env' → Store → Res (List MV)
def RX (G : Gx) (ι : List Addr) (H : Hp) (c : Str) (fs : List (Str × MV)) (cls : Value) (d : Option Addr) : Prop :=
  ∃ C, G.ct c = some C ∧ cls = .ref C ∧ ((fs = [] ∧ d = none) ∨ ∃ a fs', d = some a ∧ H a = some (.xd fs') ∧ fs'.map (·.1) = fs.map (·.1) ∧ RWs G ι H (fs.map (·.2)) (fs'.map (·.2)))
def fin {α : Type} (G : Gx) (ι : List Addr) (H : Hp) (E : Value → Option Addr → Hp → Prop) (P : α → List Addr → Hp → Prop) : Res α → Prop
  | .ok a S' => ∀ ι' H', Post G ι H ι' H' S' → P a ι' H'
  | .err c fs S' => ∀ ι' H' cls d, Post G ι H ι' H' S' → RX G ι' H' c fs cls d → E cls d H'
  | .stuck => False
section
variable {α β : Type} {G : Gx} {ι ι1 ι' : List Addr} {H H1 H' : Hp} {S S1 S' : Store} {E : Value → Option Addr → Hp → Prop} {P P' : α → List Addr → Hp → Prop}
theorem fin.mono {r : Res α} (h : fin G ι H E P r) (k : ∀ a ι' H' S', Post G ι H ι' H' S' → r = .ok a S' → P a ι' H' → P' a ι' H') : fin G ι H E P' r := by
  cases r with
  | ok a S' => exact fun ι' H' p => k a ι' H' S' p rfl (h ι' H' p)
  | err c fs S' => exact h
  | stuck => exact h
theorem fin.later {r : Res α} (p : Post G ι H ι1 H1 S1) (h : fin G ι H E P r) : fin G ι1 H1 E P r := by
  cases r with
  | ok a S' => exact fun ι' H' q => h ι' H' (p.trans q)
  | err c fs S' => exact fun ι' H' cls d q => h ι' H' cls d (p.trans q)
  | stuck => exact h
theorem fin.bind {P : β → List Addr → Hp → Prop} {r : Res α} {f : α → Store → Res β} (h : fin G ι H E P (r.bind f)) : fin G ι H E (fun a ι1 H1 => ∃ S1, Sim G ι1 H1 S1 ∧ (∀ w v, RW G ι H w v → RW G ι1 H1 w v) ∧ (∀ ρ σ, RE G ι H ρ σ → RE G ι1 H1 ρ σ) ∧ r = .ok a S1 ∧ fin G ι1 H1 E P (f a S1)) r := by
  cases r with
  | ok a S' => exact fun ι' H' p => ⟨S', p.sim, fun w v q => p.rw q, fun ρ σ q => p.re q, rfl, fin.later p h⟩
  | err c fs S' => exact h
  | stuck => exact h
end
/-! ### readings made of it -/
abbrev PV (G : Gx) (Q : VK) : MV → List Addr → Hp → Prop := fun w ι' H' => ∀ v, RW G ι' H' w v → Q v H'
abbrev PVs (G : Gx) (Q : List V → Hp → Prop) : List MV → List Addr → Hp → Prop := fun ws ι' H' => ∀ vs, RWs G ι' H' ws vs → Q vs H'
def tD (G : Gx) (W : WX) (d : Den) : TE := fun σ H Q => ∃ ι S ρ, Sim G ι H S ∧ RE G ι H ρ σ ∧ fin G ι H (fun c x H' => W c x σ H') (PV G Q) (d ρ S)
def tDs (G : Gx) (W : WX) (d : DenL) : TA := fun σ H Q => ∃ ι S ρ, Sim G ι H S ∧ RE G ι H ρ σ ∧ fin G ι H (fun c x H' => W c x σ H') (PVs G Q) (d ρ S)
theorem PE.imp {X : Cx} {e : Expr} {t t' : TE} (h : PE X e t) (k : ∀ σ H Q, t' σ H Q → t σ H Q) : PE X e t' := ⟨fun pins s σ H Q I q => h.run pins s σ H Q I (k σ H Q q)⟩
theorem PT.imp {X : Cx} {e : Expr} {t t' : TT} (h : PT X e t) (k : ∀ σ H Q, t' σ H Q → t σ H Q) : PT X e t' := ⟨fun pins s σ H Q I q => h.run pins s σ H Q I (k σ H Q q)⟩
theorem PA.imp {X : Cx} {e : List Expr} {t t' : TA} (h : PA X e t) (k : ∀ σ H Q, t' σ H Q → t σ H Q) : PA X e t' := ⟨fun pos pins s σ H Q I q => h.run pos pins s σ H Q I (k σ H Q q)⟩
theorem PS.imp {X : Cx} {e : Stmt} {t t' : TS} (h : PS X e t) (k : ∀ D σ H, t' D σ H → t D σ H) : PS X e t' := ⟨fun pins s σ H D I q => h.run pins s σ H D I (k D σ H q)⟩
theorem PSs.imp {X : Cx} {e : List Stmt} {t t' : TS} (h : PSs X e t) (k : ∀ D σ H, t' D σ H → t D σ H) : PSs X e t' := ⟨fun pins s σ H D I q => h.run pins s σ H D I (k D σ H q)⟩
structure DE (X : Cx) (G : Gx) (W : WX) (e : Expr) (d : Den) : Prop where
  run : PE X e (tD G W d)
structure DA (X : Cx) (G : Gx) (W : WX) (es : List Expr) (d : DenL) : Prop where
  run : PA X es (tDs G W d)
end MI
set_option Elab.async false
set_option linter.all false
set_option maxRecDepth 100000
namespace MI
open PySem PySem.Spec PyProof.Rows L2
theorem big_ok {n : Nat} (h : n ≤ 100000) : n ≤ sizeLine := Nat.le_trans h (by rw [sizeLine_eq]; decide)
section
variable {X : Cx} {G : Gx} {W : WX} {e a b c : Expr} {pos : Pos} {d da db dc : Den}
/-! ### names, constants -/
def dVar (i : Nat) : Den := fun ρ S => match ρ[i]? with
  | some (some w) => .ok w S
  | _ => .stuck
theorem de_var (i : Nat) {x : Str} (hN : X.N[i]? = some x := by rfl) (hv : Vis X.env.scope x := by first | exact Or.inl rfl | exact Or.inr (Or.inl rfl) | exact Or.inr (Or.inr rfl)) (hd : (x == ("__debug__" : Str)) = false := by decide)
    (hcd : (x == ("__classdict__" : Str)) = false := by decide) : DE X G W (.Name x pos) (dVar i) := by
  refine ⟨PE.imp (pe_var hN hv hd hcd) fun σ H Q h => ?_⟩
  obtain ⟨ι, S, ρ, s, re, h⟩ := h
  unfold dVar at h
  split at h
  · rename_i w e1
    obtain ⟨v, e2, r⟩ := re.get i w e1
    exact ⟨v, e2, h ι H (.refl s) v r⟩
  · exact h.elim
def dC (w : MV) : Den := fun _ S => .ok w S
def KC (G : Gx) (w : MV) (v : V) : Prop := ∀ ι H, RW G ι H w v
theorem de_const {w : MV} {v : V} (h : PE X e (tC v)) (k : KC G w v) : DE X G W e (dC w) := by
  refine ⟨PE.imp h fun σ H Q h => ?_⟩
  obtain ⟨ι, S, ρ, s, re, h⟩ := h
  exact h ι H (.refl s) v (k ι H)
theorem de_int {i : Int} {j} : DE X G W (.Constant (.int i) j pos) (dC (.int i)) := de_const pe_int fun _ _ => .int i
theorem de_bl {i : Bool} {j} : DE X G W (.Constant (.bool i) j pos) (dC (.bl i)) := de_const pe_bl fun _ _ => .bl i
theorem de_non {j} : DE X G W (.Constant .none j pos) (dC .non) := de_const pe_non fun _ _ => .non
theorem de_str {i : Str} {j} : DE X G W (.Constant (.str i) j pos) (dC (.str i)) := de_const pe_str fun _ _ => .str i
theorem de_glob {x : Str} {w : MV} {v : V} {u : Value} (hg : Gl X x) (hm : X.mg x = some u) (r : RelV v u) (k : KC G w v) (hd : (x == ("__debug__" : Str)) = false := by decide) : DE X G W (.Name x pos) (dC w) := de_const (pe_glob hg hm r hd) k
/-! ### operators of two and of one -/
def dBin (f : MV → MV → Store → Res MV) (a b : Den) : Den := fun ρ S => (a ρ S).bind fun x S1 => (b ρ S1).bind fun y S2 => f x y S2
def dUn (f : MV → Store → Res MV) (a : Den) : Den := fun ρ S => (a ρ S).bind fun x S1 => f x S1
def OpW (G : Gx) (f : MV → MV → Store → Res MV) (r : R2) : Prop := ∀ (ι : List Addr) (H : Hp) (S : Store) (E : Value → Option Addr → Hp → Prop) (Q : VK) (w1 w2 : MV) (v1 v2 : V), Sim G ι H S → RW G ι H w1 v1 → RW G ι H w2 v2 → fin G ι H E (PV G Q) (f w1 w2 S) → r v1 v2 H Q
def UnW (G : Gx) (f : MV → Store → Res MV) (r : V → Hp → VK → Prop) : Prop := ∀ (ι : List Addr) (H : Hp) (S : Store) (E : Value → Option Addr → Hp → Prop) (Q : VK) (w1 : MV) (v1 : V), Sim G ι H S → RW G ι H w1 v1 → fin G ι H E (PV G Q) (f w1 S) → r v1 H Q
theorem bin_imp {f : MV → MV → Store → Res MV} {r : R2} (ho : OpW G f r) {σ : L2.St} {H : Hp} {Q : VK} (h : tD G W (dBin f da db) σ H Q) : tOp r (tD G W da) (tD G W db) σ H Q := by
  obtain ⟨ι, S, ρ, s, re, h⟩ := h
  refine ⟨ι, S, ρ, s, re, (fin.bind h).mono fun w1 ι1 H1 S1 p _ h1 v1 r1 => ?_⟩
  obtain ⟨S1, s1, m1, n1, _, h1⟩ := h1
  refine ⟨ι1, S1, ρ, s1, n1 _ _ re, (fin.bind h1).mono fun w2 ι2 H2 S2 p2 _ h2 v2 r2 => ?_⟩
  obtain ⟨S2, s2, m2, _, _, h2⟩ := h2
  exact ho ι2 H2 S2 _ Q w1 w2 v1 v2 s2 (m2 _ _ r1) r2 h2
theorem un_imp {f : MV → Store → Res MV} {r : V → Hp → VK → Prop} (ho : UnW G f r) {σ : L2.St} {H : Hp} {Q : VK} (h : tD G W (dUn f da) σ H Q) : tUn r (tD G W da) σ H Q := by
  obtain ⟨ι, S, ρ, s, re, h⟩ := h
  refine ⟨ι, S, ρ, s, re, (fin.bind h).mono fun w1 ι1 H1 S1 p _ h1 v1 r1 => ?_⟩
  obtain ⟨S1, s1, m1, n1, _, h1⟩ := h1
  exact ho ι1 H1 S1 _ Q w1 v1 s1 r1 h1
theorem de_op {op : Operator} {f : MV → MV → Store → Res MV} {r : R2} (ho : OpR X (binaryOp op) r) (hw : OpW G f r) (ha : DE X G W a da) (hb : DE X G W b db) : DE X G W (.BinOp a op b pos) (dBin f da db) :=
  ⟨PE.imp (pe_op ho ha.run hb.run) fun _ _ _ h => bin_imp hw h⟩
theorem de_cmp {op : CmpOp} {f : MV → MV → Store → Res MV} {r : R2} (ho : OpR X (compareOp op) r) (hw : OpW G f r) (ha : DE X G W a da) (hb : DE X G W b db) (hm : behindInMarks op b = false) : DE X G W (.Compare a [op] [b] pos) (dBin f da db) :=
  ⟨PE.imp (pe_cmpR ho ha.run hb.run hm) fun _ _ _ h => bin_imp hw h⟩
theorem de_un {op : UnaryOp} {f : MV → Store → Res MV} {r : V → Hp → VK → Prop} (ho : UnR X (unaryOp op) r) (hw : UnW G f r) (ha : DE X G W a da) : DE X G W (.UnaryOp op a pos) (dUn f da) :=
  ⟨PE.imp (pe_un ho ha.run) fun _ _ _ h => un_imp hw h⟩
theorem OpW.or {f : MV → MV → Store → Res MV} {r r' : R2} (h : OpW G f (fun x y H Q => r x y H Q ∨ r' x y H Q)) : OpW G f (fun x y H Q => r x y H Q ∨ r' x y H Q) := h
/-! ### allocation, as what comes out -/
theorem new_tup {ι : List Addr} {H : Hp} {S : Store} {l : List MV} {vs : List V} {Q : VK} {E : Value → Option Addr → Hp → Prop} (s : Sim G ι H S) (r : RWs G ι H l vs) (h : fin G ι H E (PV G Q) (.ok (.tup l) S)) : ∀ p, H p = none → Q (.ref p) (upd H p (.tup vs)) := fun p hp => by
  have q := s.lay hp (.tup vs)
  exact h ι _ q (.ref p) (.tup (.of upd_same) (q.rws r))
theorem new_lst {ι : List Addr} {H : Hp} {S : Store} {l : List MV} {vs : List V} {Q : VK} {E : Value → Option Addr → Hp → Prop} (s : Sim G ι H S) (r : RWs G ι H l vs) (h : fin G ι H E (PV G Q) (.ok (.ref S.length) (S ++ [.lst l]))) : ∀ p, H p = none → Q (.ref p) (upd H p (.lst vs)) := fun p hp => by
  have q0 := s.lay hp (.lst vs)
  have ext : ∀ (n : Nat) (a : Addr), ι[n]? = some a → (ι ++ [p])[n]? = some a := fun n a e => by
    rw [List.getElem?_append_left (List.getElem?_eq_some_iff.mp e).1]; exact e
  have q := s.new hp (ho := .lst vs) (mo := .lst l) ⟨vs, upd_same, r.mono ext q0.tup⟩
  exact h _ _ q (.ref p) (.ref (by rw [← s.len]; simp))
/-! ### + -/
def fAdd (w1 w2 : MV) (S : Store) : Res MV := match w1, w2 with
  | .int i, .int j => .ok (.int (i + j)) S
  | .str x, .str y => if x.length + y.length ≤ 100000 then .ok (.str (x ++ y)) S else .stuck
  | .tup x, .tup y => if x.length + y.length ≤ 100000 then .ok (.tup (x ++ y)) S else .stuck
  | .ref n, .ref m => match S[n]?, S[m]? with
    | some (.lst x), some (.lst y) => if x.length + y.length ≤ 100000 then .ok (.ref S.length) (S ++ [.lst (x ++ y)]) else .stuck
    | _, _ => .stuck
  | _, _ => .stuck
abbrev rAddS : R2 := fun x y H Q => ∃ i j, x = .str i ∧ y = .str j ∧ i.length + j.length ≤ sizeLine ∧ Q (.str (i ++ j)) H
abbrev rAddAll (K : PySem.W.Frag) : R2 := fun x y H Q => (rI0 (fun i j => V.int (i + j)) x y H Q) ∨ (rAddS x y H Q ∨ (rCatA K x y H Q ∨ rCat x y H Q))
theorem op_addAll : OpR X (binaryOp .Add) (rAddAll X.K) := op_add.or (op_add_str.or (op_catA.or op_cat))
theorem w_add : OpW G fAdd (rAddAll G.K) := fun ι H S E Q w1 w2 v1 v2 s r1 r2 h => by
  unfold fAdd at h
  split at h
  · cases r1; cases r2
    exact .inl ⟨_, _, rfl, rfl, h ι H (.refl s) _ (.int _)⟩
  · cases r1; cases r2
    split at h
    · rename_i hz
      exact .inr (.inl ⟨_, _, rfl, rfl, big_ok hz, h ι H (.refl s) _ (.str _)⟩)
    · exact h.elim
  · cases r1 with
    | tup t1 q1 => cases r2 with
      | tup t2 q2 =>
        split at h
        · rename_i hz
          refine .inr (.inr (.inl ⟨_, _, _, _, rfl, rfl, t1, t2, ?_, fun e => ?_, fun e e2 => ?_, fun _ _ => ?_⟩))
          · rw [← q1.length, ← q2.length]; exact big_ok hz
          · subst e
            cases q1
            exact h ι H (.refl s) _ (.tup t2 (by simpa using q2))
          · subst e2
            cases q2
            exact h ι H (.refl s) _ (.tup t1 (by simpa using q1))
          · exact new_tup s (q1.append q2) h
        · exact h.elim
  · cases r1 with
    | ref t1 => cases r2 with
      | ref t2 =>
        split at h
        · rename_i e1 e2
          split at h
          · rename_i hz
            obtain ⟨vs1, g1, q1⟩ := s.obj _ _ _ e1 t1
            obtain ⟨vs2, g2, q2⟩ := s.obj _ _ _ e2 t2
            exact .inr (.inr (.inr ⟨_, _, _, _, rfl, rfl, g1, g2, by rw [← q1.length, ← q2.length]; exact big_ok hz, new_lst s (q1.append q2) h⟩))
          · exact h.elim
        · exact h.elim
  · exact h.elim
theorem de_add (hK : X.K = G.K) (ha : DE X G W a da) (hb : DE X G W b db) : DE X G W (.BinOp a .Add b pos) (dBin fAdd da db) := de_op (by rw [← hK]; exact op_addAll) w_add ha hb
/-! ### the other operators of ints -/
def fInt (C : Int → Int → Bool) (g : Int → Int → MV) (w1 w2 : MV) (S : Store) : Res MV := match w1, w2 with
  | .int i, .int j => if C i j then .ok (g i j) S else .stuck
  | _, _ => .stuck
theorem w_int {C : Int → Int → Bool} {P : Int → Int → Prop} {g : Int → Int → MV} {gv : Int → Int → V} (hC : ∀ i j, C i j = true → P i j) (hg : ∀ i j, KC G (g i j) (gv i j)) : OpW G (fInt C g) (rI P gv) := fun ι H S E Q w1 w2 v1 v2 s r1 r2 h => by
  unfold fInt at h
  split at h
  · split at h
    · rename_i c
      cases r1; cases r2
      exact ⟨_, _, rfl, rfl, hC _ _ c, h ι H (.refl s) _ (hg _ _ ι H)⟩
    · exact h.elim
  · exact h.elim
theorem w_int0 {g : Int → Int → MV} {gv : Int → Int → V} (hg : ∀ i j, KC G (g i j) (gv i j)) : OpW G (fInt (fun _ _ => true) g) (rI0 gv) := fun ι H S E Q w1 w2 v1 v2 s r1 r2 h => by
  unfold fInt at h
  split at h
  · cases r1; cases r2
    exact ⟨_, _, rfl, rfl, h ι H (.refl s) _ (hg _ _ ι H)⟩
  · exact h.elim
theorem kc_int (g : Int → Int → Int) : ∀ i j, KC G (.int (g i j)) (.int (g i j)) := fun _ _ _ _ => .int _
theorem kc_bl (g : Int → Int → Bool) : ∀ i j, KC G (.bl (g i j)) (.bl (g i j)) := fun _ _ _ _ => .bl _
abbrev fSub := fInt (fun _ _ => true) (fun i j => .int (i - j))
theorem de_sub (ha : DE X G W a da) (hb : DE X G W b db) : DE X G W (.BinOp a .Sub b pos) (dBin fSub da db) := de_op op_sub (w_int0 (kc_int fun i j => i - j)) ha hb
abbrev fMod := fInt (fun _ j => decide (0 < j)) (fun i j => .int (i % j))
theorem de_mod (ha : DE X G W a da) (hb : DE X G W b db) : DE X G W (.BinOp a .Mod b pos) (dBin fMod da db) := de_op op_mod (w_int (fun _ _ h => of_decide_eq_true h) (kc_int fun i j => i % j)) ha hb
abbrev fDiv := fInt (fun _ j => decide (0 < j) && decide (j < 1073741824)) (fun i j => .int (i / j))
theorem de_div (ha : DE X G W a da) (hb : DE X G W b db) : DE X G W (.BinOp a .FloorDiv b pos) (dBin fDiv da db) := de_op op_fdiv (w_int (fun i j h => by
  rw [Bool.and_eq_true] at h
  exact ⟨of_decide_eq_true h.1, of_decide_eq_true h.2⟩) (kc_int fun i j => i / j)) ha hb
abbrev fPow := fInt (fun i j => decide (0 ≤ j) && (decide (j ≤ 1000) && decide (i.natAbs < 2 ^ 64))) (fun i j => .int (i ^ j.toNat))
theorem de_pow (ha : DE X G W a da) (hb : DE X G W b db) : DE X G W (.BinOp a .Pow b pos) (dBin fPow da db) := de_op op_pow (w_int (fun i j h => by
  rw [Bool.and_eq_true, Bool.and_eq_true] at h
  have h2 := of_decide_eq_true h.2.1
  exact ⟨of_decide_eq_true h.1, by omega, of_decide_eq_true h.2.2⟩) (kc_int fun i j => i ^ j.toNat)) ha hb
def fMul (w1 w2 : MV) (S : Store) : Res MV := match w1, w2 with
  | .int i, .int j => if (decide (-(2 ^ 64) < i) && decide (i < 2 ^ 64)) || (decide (-(2 ^ 64) < j) && decide (j < 2 ^ 64)) then .ok (.int (i * j)) S else .stuck
  | .tup x, .int k => if decide (x ≠ []) && (decide (2 ≤ k) && (decide (k ≤ 1000) && decide (x.length ≤ 1000))) then .ok (.tup (List.replicate k.toNat x).flatten) S else .stuck
  | .ref n, .int k => match S[n]? with
    | some (.lst x) => if decide (0 ≤ k) && (decide (k ≤ 100) && decide (x.length ≤ 1000)) then .ok (.ref S.length) (S ++ [.lst (List.replicate k.toNat x).flatten]) else .stuck
    | _ => .stuck
  | _, _ => .stuck
end
end MI
set_option Elab.async false
set_option linter.all false
set_option maxRecDepth 100000
namespace MI
open PySem PySem.Spec PyProof.Rows L2
/-! ### values as data -/
mutual
def toPyW (f : Nat → Option PyData) : MV → Option PyData
  | .non => some .none
  | .bl b => some (.bool b)
  | .int i => some (.int i)
  | .str s => some (.str s)
  | .tup l => (toPyWs f l).map .tuple
  | .ref n => f n
  | .out _ => none
def toPyWs (f : Nat → Option PyData) : List MV → Option (List PyData)
  | [] => some []
  | w :: ws => (toPyW f w).bind fun d => (toPyWs f ws).map (d :: ·)
end
def toPyR (S : Store) : Nat → Nat → Option PyData
  | 0, _ => none
  | k + 1, n => match S[n]? with
    | some (.lst l) => (toPyWs (toPyR S k) l).map .list
    | some (.rol l) => (toPyWs (toPyR S k) l).map .list
    | _ => none
abbrev toPy (S : Store) (w : MV) : Option PyData := toPyW (toPyR S 6) w
section
variable {G : Gx} {ι : List Addr} {H : Hp} {S : Store}
mutual
theorem dp_w {f : Nat → Option PyData} (hf : ∀ (n : Nat) (d : PyData) (a : Addr), f n = some d → ι[n]? = some a → Dp G.K H (.ref a) d) : ∀ (w : MV) (v : V) (d : PyData), RW G ι H w v → toPyW f w = some d → Dp G.K H v d
  | .non, _, _, r, e => by cases r; simp [toPyW] at e; subst e; exact .non
  | .bl b, _, _, r, e => by cases r; simp [toPyW] at e; subst e; exact .bl b
  | .int i, _, _, r, e => by cases r; simp [toPyW] at e; subst e; exact .int i
  | .str s, _, _, r, e => by cases r; simp [toPyW] at e; subst e; exact .str s
  | .tup l, _, d, r, e => by
    cases r with
    | tup t q =>
      unfold toPyW at e
      cases e2 : toPyWs f l with
      | none => rw [e2] at e; cases e
      | some ds =>
        rw [e2] at e
        cases e
        exact .tup t (dp_ws hf l _ ds q e2)
  | .ref n, _, d, r, e => by
    cases r with
    | ref i =>
      unfold toPyW at e
      exact hf n d _ e i
  | .out k, _, _, _, e => by simp [toPyW] at e
theorem dp_ws {f : Nat → Option PyData} (hf : ∀ (n : Nat) (d : PyData) (a : Addr), f n = some d → ι[n]? = some a → Dp G.K H (.ref a) d) : ∀ (ws : List MV) (vs : List V) (ds : List PyData), RWs G ι H ws vs → toPyWs f ws = some ds → DpAll G.K H vs ds
  | [], _, _, r, e => by cases r; simp [toPyWs] at e; subst e; exact .nil
  | w :: ws, _, ds, r, e => by
    cases r with
    | cons r1 r2 =>
      unfold toPyWs at e
      cases e1 : toPyW f w with
      | none => rw [e1] at e; cases e
      | some d =>
        rw [e1] at e
        cases e2 : toPyWs f ws with
        | none => rw [e2] at e; cases e
        | some ds2 =>
          rw [e2] at e
          cases e
          exact .cons (dp_w hf w _ d r1 e1) (dp_ws hf ws _ ds2 r2 e2)
end
theorem dp_r (s : Sim G ι H S) : ∀ (k n : Nat) (d : PyData) (a : Addr), toPyR S k n = some d → ι[n]? = some a → Dp G.K H (.ref a) d
  | 0, n, d, a, e, i => by cases e
  | k + 1, n, d, a, e, i => by
    unfold toPyR at e
    split at e
    · rename_i l h
      obtain ⟨vs, g, q⟩ := s.obj _ _ _ h i
      cases e2 : toPyWs (toPyR S k) l with
      | none => rw [e2] at e; cases e
      | some ds =>
        rw [e2] at e
        cases e
        exact .lst (.of g) (dp_ws (dp_r s k) l vs ds q e2)
    · rename_i l h
      obtain ⟨o, vs, g, q, _⟩ := s.obj _ _ _ h i
      cases e2 : toPyWs (toPyR S k) l with
      | none => rw [e2] at e; cases e
      | some ds =>
        rw [e2] at e
        cases e
        exact .lst (.inl (.inr ⟨o, g⟩)) (dp_ws (dp_r s k) l vs ds q e2)
    · cases e
theorem dp_of (s : Sim G ι H S) {w : MV} {v : V} {d : PyData} (r : RW G ι H w v) (e : toPy S w = some d) : Dp G.K H v d := dp_w (dp_r s 6) w v d r e
end
section
variable {X : Cx} {G : Gx} {W : WX} {e a b c : Expr} {pos : Pos} {d da db dc : Den}
/-! ### == and != -/
def scalM : MV → MV → Option Bool
  | .non, .non => some true
  | .int i, .int j => some (decide (i = j))
  | .bl i, .bl j => some (decide (i = j))
  | .str i, .str j => some (decide (i = j))
  | .non, .int _ => some false | .int _, .non => some false | .non, .bl _ => some false | .bl _, .non => some false | .non, .str _ => some false | .str _, .non => some false
  | .int _, .str _ => some false | .str _, .int _ => some false | .bl _, .str _ => some false | .str _, .bl _ => some false
  | _, _ => none
def eqM (w1 w2 : MV) (S : Store) : Option Bool := match scalM w1 w2 with
  | some k => some k
  | none => match toPy S w1, toPy S w2 with
    | some d, some e => if SeqAt.shaped d && SeqAt.shaped e then some (PyData.eqv d e) else none
    | _, _ => none
def fEq (w1 w2 : MV) (S : Store) : Res MV := match eqM w1 w2 S with
  | some k => .ok (.bl k) S
  | none => .stuck
def fNe (w1 w2 : MV) (S : Store) : Res MV := match eqM w1 w2 S with
  | some k => .ok (.bl (!k)) S
  | none => .stuck
theorem scal_ok {ι : List Addr} {H : Hp} {w1 w2 : MV} {v1 v2 : V} {k : Bool} (r1 : RW G ι H w1 v1) (r2 : RW G ι H w2 v2) (e : scalM w1 w2 = some k) : scal v1 v2 = true ∧ decide (v1 = v2) = k := by
  cases r1 <;> cases r2 <;> first
    | (cases e; simp [scal]; done)
    | (simp [scalM] at e; done)
    | (simp [scalM] at e; subst e; simp [scal])
theorem eqM_ok {ι : List Addr} {H : Hp} {S : Store} {w1 w2 : MV} {v1 v2 : V} {k : Bool} (s : Sim G ι H S) (r1 : RW G ι H w1 v1) (r2 : RW G ι H w2 v2) (h : eqM w1 w2 S = some k) :
    (scal v1 v2 = true ∧ decide (v1 = v2) = k) ∨ ∃ d e, Dp G.K H v1 d ∧ Dp G.K H v2 e ∧ SeqAt.shaped d = true ∧ SeqAt.shaped e = true ∧ PyData.eqv d e = k := by
  unfold eqM at h
  split at h
  · rename_i k' e
    cases h
    exact .inl (scal_ok r1 r2 e)
  · split at h
    · rename_i d e e1 e2
      split at h
      · rename_i hz
        rw [Bool.and_eq_true] at hz
        cases h
        exact .inr ⟨d, e, dp_of s r1 e1, dp_of s r2 e2, hz.1, hz.2, rfl⟩
      · cases h
    · cases h
theorem w_eq : OpW G fEq (fun x y H Q => rEq x y H Q ∨ rEqD G.K x y H Q) := fun ι H S E Q w1 w2 v1 v2 s r1 r2 h => by
  unfold fEq at h
  split at h
  · rename_i k e
    have q := h ι H (.refl s) _ (.bl k)
    rcases eqM_ok s r1 r2 e with ⟨h1, h2⟩ | ⟨d, e, h1, h2, h3, h4, h5⟩
    · exact .inl ⟨h1, by rw [h2]; exact q⟩
    · exact .inr ⟨d, e, h1, h2, h3, h4, by rw [h5]; exact q⟩
  · exact h.elim
theorem w_ne : OpW G fNe (fun x y H Q => rNe x y H Q ∨ rNeD G.K x y H Q) := fun ι H S E Q w1 w2 v1 v2 s r1 r2 h => by
  unfold fNe at h
  split at h
  · rename_i k e
    have q := h ι H (.refl s) _ (.bl (!k))
    rcases eqM_ok s r1 r2 e with ⟨h1, h2⟩ | ⟨d, e, h1, h2, h3, h4, h5⟩
    · exact .inl ⟨h1, by rw [h2]; exact q⟩
    · exact .inr ⟨d, e, h1, h2, h3, h4, by rw [h5]; exact q⟩
  · exact h.elim
/-! ### in, not in -/
def flatM : MV → Bool
  | .non => true | .bl _ => true | .int _ => true | .str _ => true | _ => false
def eqF : MV → MV → Bool
  | .non, .non => true
  | .bl a, .bl b => a == b
  | .bl a, .int b => (if a then 1 else 0) == b
  | .int a, .bl b => a == (if b then 1 else 0)
  | .int a, .int b => a == b
  | .str a, .str b => a == b
  | _, _ => false
def itemsOf (w : MV) (S : Store) : Option (List MV) := match w with
  | .tup l => some l
  | .ref n => match S[n]? with
    | some (.lst l) => some l
    | some (.rol l) => some l
    | _ => none
  | _ => none
theorem items_ok {ι : List Addr} {H : Hp} {S : Store} {w : MV} {v : V} {l : List MV} (s : Sim G ι H S) (r : RW G ι H w v) (e : itemsOf w S = some l) : ∃ a vs, v = .ref a ∧ (SqL G.K H a vs ∨ SqT G.K H a vs) ∧ RWs G ι H l vs := by
  unfold itemsOf at e
  split at e
  · cases e
    cases r with
    | tup t q => exact ⟨_, _, rfl, .inr t, q⟩
  · cases r with
    | ref i =>
      split at e
      · rename_i h
        cases e
        obtain ⟨vs, g, q⟩ := s.obj _ _ _ h i
        exact ⟨_, vs, rfl, .inl (.of g), q⟩
      · rename_i h
        cases e
        obtain ⟨o, vs, g, q, _⟩ := s.obj _ _ _ h i
        exact ⟨_, vs, rfl, .inl (.inl (.inr ⟨o, g⟩)), q⟩
      · cases e
  · cases e
theorem flat_ok {ι : List Addr} {H : Hp} {w : MV} {v : V} (r : RW G ι H w v) (e : flatM w = true) : flatV v = true := by
  cases r <;> first | rfl | cases e
theorem flats_ok {ι : List Addr} {H : Hp} : ∀ {ws : List MV} {vs : List V}, RWs G ι H ws vs → ws.all flatM = true → vs.all flatV = true
  | [], _, r, _ => by cases r; rfl
  | w :: ws, _, r, e => by
    cases r with
    | cons r1 r2 =>
      rw [List.all_cons, Bool.and_eq_true] at e
      rw [List.all_cons, Bool.and_eq_true]
      exact ⟨flat_ok r1 e.1, flats_ok r2 e.2⟩
theorem eqF_ok {ι : List Addr} {H : Hp} {w1 w2 : MV} {v1 v2 : V} (r1 : RW G ι H w1 v1) (r2 : RW G ι H w2 v2) : eqF w1 w2 = eqV v1 v2 := by
  cases r1 <;> cases r2 <;> rfl
theorem inF_ok {ι : List Addr} {H : Hp} {w : MV} {v : V} (r : RW G ι H w v) : ∀ {ws : List MV} {vs : List V}, RWs G ι H ws vs → (ws.any fun y => eqF y w) = inV v vs
  | [], _, q => by cases q; rfl
  | y :: ws, _, q => by
    cases q with
    | cons q1 q2 =>
      have ih := inF_ok r q2
      unfold inV at ih ⊢
      rw [List.any_cons, List.any_cons, eqF_ok q1 r, ih]
def inM (w1 w2 : MV) (S : Store) : Option Bool := match w1, w2 with
  | .str x, .str z => match x.cps with
    | ⟨[c]⟩ => some (decide (c ∈ z.cps.toList))
    | _ => none
  | w1, w2 => match itemsOf w2 S with
    | some l => if flatM w1 && l.all flatM then some (l.any fun y => eqF y w1) else none
    | none => none
def fIn (w1 w2 : MV) (S : Store) : Res MV := match inM w1 w2 S with
  | some k => .ok (.bl k) S
  | none => .stuck
def fNotIn (w1 w2 : MV) (S : Store) : Res MV := match inM w1 w2 S with
  | some k => .ok (.bl (!k)) S
  | none => .stuck
abbrev rInS : R2 := fun x y H Q => ∃ (c : Nat) (z : Str), x = .str ⟨#[c]⟩ ∧ y = .str z ∧ Q (.bl (decide (c ∈ z.cps.toList))) H
theorem inM_ok {ι : List Addr} {H : Hp} {S : Store} {w1 w2 : MV} {v1 v2 : V} {k : Bool} (s : Sim G ι H S) (r1 : RW G ι H w1 v1) (r2 : RW G ι H w2 v2) (h : inM w1 w2 S = some k) :
    (∃ (c : Nat) (z : Str), v1 = .str ⟨#[c]⟩ ∧ v2 = .str z ∧ decide (c ∈ z.cps.toList) = k) ∨ ∃ p xs, v2 = .ref p ∧ (SqL G.K H p xs ∨ SqT G.K H p xs) ∧ flatV v1 = true ∧ xs.all flatV = true ∧ inV v1 xs = k := by
  unfold inM at h
  split at h
  · rename_i x z
    cases r1; cases r2
    split at h
    · rename_i c e
      cases h
      obtain ⟨cs⟩ := x
      have e' : cs = #[c] := e
      subst e'
      exact .inl ⟨c, z, rfl, rfl, rfl⟩
    · cases h
  · split at h
    · rename_i l e
      split at h
      · rename_i hz
        rw [Bool.and_eq_true] at hz
        cases h
        obtain ⟨a, vs, rfl, t, q⟩ := items_ok s r2 e
        exact .inr ⟨a, vs, rfl, t, flat_ok r1 hz.1, flats_ok q hz.2, (inF_ok r1 q).symm⟩
      · cases h
    · cases h
theorem w_in : OpW G fIn (fun x y H Q => rInS x y H Q ∨ rIn G.K false x y H Q) := fun ι H S E Q w1 w2 v1 v2 s r1 r2 h => by
  unfold fIn at h
  split at h
  · rename_i k e
    have q := h ι H (.refl s) _ (.bl k)
    rcases inM_ok s r1 r2 e with ⟨c, z, h1, h2, h3⟩ | ⟨p, xs, h1, h2, h3, h4, h5⟩
    · exact .inl ⟨c, z, h1, h2, by rw [h3]; exact q⟩
    · exact .inr ⟨p, xs, h1, h2, h3, h4, by rw [h5]; exact q⟩
  · exact h.elim
/-! ### is None, is not None -/
def isNonM : MV → Bool
  | .non => true
  | _ => false
theorem isNon_ok {ι : List Addr} {H : Hp} {w : MV} {v : V} (r : RW G ι H w v) : decide (v = .non) = isNonM w := by
  cases r <;> simp [isNonM]
def fIs (w1 w2 : MV) (S : Store) : Res MV := match w2 with
  | .non => .ok (.bl (isNonM w1)) S
  | _ => .stuck
def fIsNot (w1 w2 : MV) (S : Store) : Res MV := match w2 with
  | .non => .ok (.bl (!isNonM w1)) S
  | _ => .stuck
theorem w_is : OpW G fIs (fun x y H Q => y = .non ∧ Q (.bl (decide (x = .non))) H) := fun ι H S E Q w1 w2 v1 v2 s r1 r2 h => by
  unfold fIs at h
  split at h
  · cases r2
    exact ⟨rfl, by rw [isNon_ok r1]; exact h ι H (.refl s) _ (.bl _)⟩
  · exact h.elim
/-! ### the comparisons, each as a rule of its operator: the reading's and the small machine's -/
structure CmpOk (X : Cx) (G : Gx) (op : CmpOp) (f : MV → MV → Store → Res MV) : Prop where
  ex : ∃ r, OpR X (compareOp op) r ∧ OpW G f r
theorem cmp_eq (hK : X.K = G.K) (hu : X.A.units + 64 < cLine) : CmpOk X G .Eq fEq := ⟨_, op_eq.or (op_eqD hu), by rw [hK]; exact w_eq⟩
theorem cmp_ne (hK : X.K = G.K) (hu : X.A.units + 64 < cLine) : CmpOk X G .NotEq fNe := ⟨_, op_ne.or (op_neD hu), by rw [hK]; exact w_ne⟩
theorem cmp_in (hK : X.K = G.K) : CmpOk X G .In fIn := ⟨_, op_in_sign.or op_in_seq, by rw [hK]; exact w_in⟩
theorem cmp_is : CmpOk X G .Is fIs := ⟨_, op_isN, w_is⟩
abbrev fLt := fInt (fun _ _ => true) (fun i j => .bl (decide (i < j)))
abbrev fLe := fInt (fun _ _ => true) (fun i j => .bl (decide (i ≤ j)))
abbrev fGt := fInt (fun _ _ => true) (fun i j => .bl (decide (j < i)))
abbrev fGe := fInt (fun _ _ => true) (fun i j => .bl (decide (j ≤ i)))
theorem cmp_lt : CmpOk X G .Lt fLt := ⟨_, op_lt, w_int0 (kc_bl fun i j => decide (i < j))⟩
theorem cmp_le : CmpOk X G .LtE fLe := ⟨_, op_le, w_int0 (kc_bl fun i j => decide (i ≤ j))⟩
theorem cmp_gt : CmpOk X G .Gt fGt := ⟨_, op_gt, w_int0 (kc_bl fun i j => decide (j < i))⟩
theorem cmp_ge : CmpOk X G .GtE fGe := ⟨_, op_ge, w_int0 (kc_bl fun i j => decide (j ≤ i))⟩
theorem de_cmp' {op : CmpOp} {f : MV → MV → Store → Res MV} (k : CmpOk X G op f) (ha : DE X G W a da) (hb : DE X G W b db) (hm : behindInMarks op b = false) : DE X G W (.Compare a [op] [b] pos) (dBin f da db) := by
  obtain ⟨r, h1, h2⟩ := k.ex
  exact de_cmp h1 h2 ha hb hm
/-! ### tests -/
abbrev DenB := Env' → Store → Res Bool
def tT (G : Gx) (W : WX) (d : DenB) : TT := fun σ H Q => ∃ ι S ρ, Sim G ι H S ∧ RE G ι H ρ σ ∧ fin G ι H (fun c x H' => W c x σ H') (fun k _ H' => Q k H') (d ρ S)
structure DT (X : Cx) (G : Gx) (W : WX) (e : Expr) (d : DenB) : Prop where
  run : PT X e (tT G W d)
structure DW (X : Cx) (G : Gx) (W : WX) (e : Expr) (d : DenB) : Prop where
  run : PW X e (tT G W d)
theorem PW.imp {X : Cx} {e : Expr} {t t' : TT} (h : PW X e t) (k : ∀ σ H Q, t' σ H Q → t σ H Q) : PW X e t' := ⟨fun wh pins s σ H Q I q => h.run wh pins s σ H Q I (k σ H Q q)⟩
def boolOf (w : MV) (S : Store) : Res Bool := match w with
  | .bl k => .ok k S
  | _ => .stuck
def bCmp (f : MV → MV → Store → Res MV) (a b : Den) : DenB := fun ρ S => (dBin f a b ρ S).bind boolOf
theorem test_imp {d : Den} {σ : L2.St} {H : Hp} {Q : Bool → Hp → Prop} (h : tT G W (fun ρ S => (d ρ S).bind boolOf) σ H Q) : tD G W d σ H (fun x H' => ∃ k, x = .bl k ∧ Q k H') := by
  obtain ⟨ι, S, ρ, s, re, h⟩ := h
  refine ⟨ι, S, ρ, s, re, (fin.bind h).mono fun w ι1 H1 S1 p _ h1 v r => ?_⟩
  obtain ⟨S2, s2, _, _, _, h2⟩ := h1
  unfold boolOf at h2
  split at h2
  · cases r
    exact ⟨_, rfl, h2 ι1 H1 (.refl s2)⟩
  · exact h2.elim
theorem dt_cmp {op : CmpOp} {f : MV → MV → Store → Res MV} (k : CmpOk X G op f) (ha : DE X G W a da) (hb : DE X G W b db) (hm : behindInMarks op b = false) : DT X G W (.Compare a [op] [b] pos) (bCmp f da db) := by
  obtain ⟨r, h1, h2⟩ := k.ex
  exact ⟨PT.imp (pt_cmpR h1 ha.run hb.run hm) fun σ H Q h => bin_imp h2 (test_imp h)⟩
def truM (w : MV) (S : Store) : Option Bool := match w with
  | .non => some false
  | .bl b => some b
  | .int i => some (i != 0)
  | .str x => if x.length ≤ 100000 then some ((x.length : Int) != 0) else none
  | .tup l => some (!l.isEmpty)
  | .ref n => match S[n]? with
    | some (.lst l) => some (!l.isEmpty)
    | some (.rol l) => some (!l.isEmpty)
    | some (.dic l) => some (!l.isEmpty)
    | _ => none
  | .out _ => none
def truB (w : MV) (S : Store) : Res Bool := match truM w S with
  | some k => .ok k S
  | none => .stuck
theorem isEmpty_rws {ι : List Addr} {H : Hp} {l : List MV} {vs : List V} (r : RWs G ι H l vs) : vs.isEmpty = l.isEmpty := by cases r <;> rfl
theorem tru_w {ι : List Addr} {H : Hp} {S : Store} {w : MV} {v : V} {k : Bool} (s : Sim G ι H S) (r : RW G ι H w v) (e : truM w S = some k) : TruV G.K v H k := by
  unfold truM at e
  split at e
  · cases r; cases e; exact rfl
  · cases r; cases e; exact rfl
  · cases r; cases e; exact rfl
  · cases r
    split at e
    · rename_i hz
      cases e
      exact ⟨big_ok hz, rfl⟩
    · cases e
  · cases r with
    | tup t q => cases e; exact .inr (.inl ⟨_, t, by rw [isEmpty_rws q]⟩)
  · cases r with
    | ref i =>
      split at e
      · rename_i h
        obtain ⟨vs, g, q⟩ := s.obj _ _ _ h i
        cases e
        exact .inl ⟨vs, .of g, by rw [isEmpty_rws q]⟩
      · rename_i h
        obtain ⟨o, vs, g, q, _⟩ := s.obj _ _ _ h i
        cases e
        exact .inl ⟨vs, .inl (.inr ⟨o, g⟩), by rw [isEmpty_rws q]⟩
      · rename_i l h
        obtain ⟨kv, g, q1, q2⟩ := s.obj _ _ _ h i
        cases e
        refine .inr (.inr ⟨kv, g, ?_⟩)
        have hl : kv.length = l.length := by
          have := congrArg List.length q1
          simpa using this
        cases kv <;> cases l <;> first | rfl | (simp at hl)
      · cases e
  · cases e
def bTru (d : Den) : DenB := fun ρ S => (d ρ S).bind truB
theorem dt_truth (hK : X.K = G.K) (ha : DE X G W a da) (he : ∀ whole, isTrue a X.env whole = (do let v ← whole; standAt a.pos; holding [v] (truthy v)) := by intro _; rfl) : DT X G W a (bTru da) := by
  refine ⟨PT.imp (pt_truth ha.run he) fun σ H Q h => ?_⟩
  obtain ⟨ι, S, ρ, s, re, h⟩ := h
  refine ⟨ι, S, ρ, s, re, (fin.bind h).mono fun w ι1 H1 S1 p _ h1 v r => ?_⟩
  obtain ⟨S2, s2, _, _, _, h2⟩ := h1
  unfold truB at h2
  split at h2
  · rename_i k e
    exact ⟨k, by rw [hK]; exact tru_w s2 r e, h2 ι1 H1 (.refl s2)⟩
  · exact h2.elim
def bNot (d : DenB) : DenB := fun ρ S => (d ρ S).bind fun k S1 => .ok (!k) S1
def bAnd (d f : DenB) : DenB := fun ρ S => (d ρ S).bind fun k S1 => if k = true then f ρ S1 else .ok false S1
def bOr (d f : DenB) : DenB := fun ρ S => (d ρ S).bind fun k S1 => if k = true then .ok true S1 else f ρ S1
variable {dA dB : DenB} {rest : List Expr}
theorem dt_not (ha : DT X G W a dA) : DT X G W (.UnaryOp .Not a pos) (bNot dA) := by
  refine ⟨PT.imp (pt_not ha.run) fun σ H Q h => ?_⟩
  obtain ⟨ι, S, ρ, s, re, h⟩ := h
  refine ⟨ι, S, ρ, s, re, (fin.bind h).mono fun k ι1 H1 S1 p _ h1 => ?_⟩
  obtain ⟨S2, s2, _, _, _, h2⟩ := h1
  exact h2 ι1 H1 (.refl s2)
theorem dw_dt (h : DW X G W e dA) : DT X G W e dA := ⟨h.run.pt⟩
theorem dw_and1 (ha : DT X G W a dA) : DW X G W (.BoolOp .And [a] pos) dA := ⟨pw_and1 ha.run⟩
theorem dw_or1 (ha : DT X G W a dA) : DW X G W (.BoolOp .Or [a] pos) dA := ⟨pw_or1 ha.run⟩
theorem dw_and (ha : DT X G W a dA) (hb : DW X G W (.BoolOp .And (b :: rest) pos) dB) : DW X G W (.BoolOp .And (a :: b :: rest) pos) (bAnd dA dB) := by
  refine ⟨PW.imp (pw_and ha.run hb.run) fun σ H Q h => ?_⟩
  obtain ⟨ι, S, ρ, s, re, h⟩ := h
  refine ⟨ι, S, ρ, s, re, (fin.bind h).mono fun k ι1 H1 S1 p _ h1 => ?_⟩
  obtain ⟨S2, s2, _, re2, _, h2⟩ := h1
  cases k with
  | true => exact ⟨ι1, S2, ρ, s2, re2 _ _ re, h2⟩
  | false => exact h2 ι1 H1 (.refl s2)
theorem dw_or (ha : DT X G W a dA) (hb : DW X G W (.BoolOp .Or (b :: rest) pos) dB) : DW X G W (.BoolOp .Or (a :: b :: rest) pos) (bOr dA dB) := by
  refine ⟨PW.imp (pw_or ha.run hb.run) fun σ H Q h => ?_⟩
  obtain ⟨ι, S, ρ, s, re, h⟩ := h
  refine ⟨ι, S, ρ, s, re, (fin.bind h).mono fun k ι1 H1 S1 p _ h1 => ?_⟩
  obtain ⟨S2, s2, _, re2, _, h2⟩ := h1
  cases k with
  | false => exact ⟨ι1, S2, ρ, s2, re2 _ _ re, h2⟩
  | true => exact h2 ι1 H1 (.refl s2)
/-! ### and, or, not as values, of True and False -/
def dAnd (d f : Den) : Den := fun ρ S => (d ρ S).bind fun w S1 => match w with
  | .bl true => f ρ S1
  | .bl false => .ok (.bl false) S1
  | _ => .stuck
def dOr (d f : Den) : Den := fun ρ S => (d ρ S).bind fun w S1 => match w with
  | .bl true => .ok (.bl true) S1
  | .bl false => f ρ S1
  | _ => .stuck
def dNot (d : Den) : Den := fun ρ S => (d ρ S).bind fun w S1 => match w with
  | .bl k => .ok (.bl (!k)) S1
  | _ => .stuck
theorem de_one {op} (h : DE X G W a da) : DE X G W (.BoolOp op [a] pos) da := ⟨pe_one h.run⟩
theorem de_and (ha : DE X G W a da) (hb : DE X G W (.BoolOp .And (b :: rest) pos) db) : DE X G W (.BoolOp .And (a :: b :: rest) pos) (dAnd da db) := by
  refine ⟨PE.imp (pe_and ha.run hb.run) fun σ H Q h => ?_⟩
  obtain ⟨ι, S, ρ, s, re, h⟩ := h
  refine ⟨ι, S, ρ, s, re, (fin.bind h).mono fun w ι1 H1 S1 p _ h1 v r => ?_⟩
  obtain ⟨S2, s2, _, re2, _, h2⟩ := h1
  split at h2
  · cases r
    exact ⟨true, rfl, ι1, S2, ρ, s2, re2 _ _ re, h2⟩
  · cases r
    exact ⟨false, rfl, h2 ι1 H1 (.refl s2) _ (.bl _)⟩
  · exact h2.elim
theorem de_not (ha : DE X G W a da) : DE X G W (.UnaryOp .Not a pos) (dNot da) := by
  refine ⟨PE.imp (pe_not ha.run) fun σ H Q h => ?_⟩
  obtain ⟨ι, S, ρ, s, re, h⟩ := h
  refine ⟨ι, S, ρ, s, re, (fin.bind h).mono fun w ι1 H1 S1 p _ h1 v r => ?_⟩
  obtain ⟨S2, s2, _, re2, _, h2⟩ := h1
  split at h2
  · cases r
    exact ⟨_, rfl, h2 ι1 H1 (.refl s2) _ (.bl _)⟩
  · exact h2.elim
def dIf (t : DenB) (d f : Den) : Den := fun ρ S => (t ρ S).bind fun k S1 => if k = true then d ρ S1 else f ρ S1
theorem de_if (hc : DT X G W c dA) (ha : DE X G W a da) (hb : DE X G W b db) : DE X G W (.IfExp c a b pos) (dIf dA da db) := by
  refine ⟨PE.imp (pe_ifExp hc.run ha.run hb.run) fun σ H Q h => ?_⟩
  obtain ⟨ι, S, ρ, s, re, h⟩ := h
  refine ⟨ι, S, ρ, s, re, (fin.bind h).mono fun k ι1 H1 S1 p _ h1 => ?_⟩
  obtain ⟨S2, s2, _, re2, _, h2⟩ := h1
  cases k with
  | true => exact ⟨ι1, S2, ρ, s2, re2 _ _ re, h2⟩
  | false => exact ⟨ι1, S2, ρ, s2, re2 _ _ re, h2⟩
def dChain (f g : MV → MV → Store → Res MV) (a b c : Den) : Den := fun ρ S => (a ρ S).bind fun x S1 => (b ρ S1).bind fun y S2 => (f x y S2).bind fun k S3 => match k with
  | .bl true => (c ρ S3).bind fun z S4 => g y z S4
  | .bl false => .ok (.bl false) S3
  | _ => .stuck
end
end MI
set_option Elab.async false
set_option linter.all false
set_option maxRecDepth 100000
namespace MI
open PySem PySem.Spec PyProof.Rows L2
section
variable {X : Cx} {G : Gx} {W : WX} {e a b c : Expr} {pos : Pos} {d da db dc : Den}
/-! ### a dict's keys -/
def keyM : MV → Option Key
  | .int i => some (.inl i)
  | .str s => some (.inr s)
  | _ => none
theorem key_ok {ι : List Addr} {H : Hp} {w : MV} {v : V} {k : Key} (r : RW G ι H w v) (e : keyM w = some k) : v = kV k := by
  unfold keyM at e
  split at e <;> (first | (cases r; cases e; rfl) | cases e)
def valM (kvs : List (Key × MV)) (k : Key) : Option MV := (kvs.find? fun kv => decide (kv.1 = k)).map (·.2)
def putM (kvs : List (Key × MV)) (k : Key) (w : MV) : List (Key × MV) :=
  if (kvs.any fun kv => decide (kv.1 = k)) = true then kvs.map (fun kv => if kv.1 = k then (kv.1, w) else kv) else kvs ++ [(k, w)]
theorem kvs_val {ι : List Addr} {H : Hp} {k : Key} : ∀ {kvs : List (Key × MV)} {kv : List (Key × V)}, kv.map (·.1) = kvs.map (·.1) → RWs G ι H (kvs.map (·.2)) (kv.map (·.2)) →
    (∃ w v, valM kvs k = some w ∧ valV kv k = some v ∧ RW G ι H w v) ∨ (valM kvs k = none ∧ valV kv k = none)
  | [], [], _, _ => .inr ⟨rfl, rfl⟩
  | [], p :: kv, e, _ => by simp at e
  | p :: kvs, [], e, _ => by simp at e
  | p :: kvs, q :: kv, e, r => by
    simp only [List.map_cons, List.cons.injEq] at e
    simp only [List.map_cons] at r
    cases r with
    | cons r1 r2 =>
      by_cases h : p.1 = k
      · refine .inl ⟨p.2, q.2, by simp [valM, List.find?_cons, h], ?_, r1⟩
        exact valV_pos (by rw [e.1]; exact h)
      · have ih := kvs_val (k := k) e.2 r2
        have e1 : valM (p :: kvs) k = valM kvs k := by simp [valM, List.find?_cons, h]
        have e2 : valV (q :: kv) k = valV kv k := valV_neg (by rw [e.1]; exact h)
        rw [e1, e2]
        exact ih
theorem kvs_put {ι : List Addr} {H : Hp} {k : Key} {w : MV} {v : V} (rw' : RW G ι H w v) {kvs : List (Key × MV)} {kv : List (Key × V)} (e : kv.map (·.1) = kvs.map (·.1)) (r : RWs G ι H (kvs.map (·.2)) (kv.map (·.2))) :
    (putK kv k v).map (·.1) = (putM kvs k w).map (·.1) ∧ RWs G ι H ((putM kvs k w).map (·.2)) ((putK kv k v).map (·.2)) := by
  have ha : ∀ {kvs : List (Key × MV)} {kv : List (Key × V)}, kv.map (·.1) = kvs.map (·.1) → (kvs.any fun x => decide (x.1 = k)) = (kv.any fun x => decide (x.1 = k)) := by
    intro kvs
    induction kvs with
    | nil => intro kv e; cases kv with
      | nil => rfl
      | cons p r => simp at e
    | cons p r ih => intro kv e; cases kv with
      | nil => simp at e
      | cons q t =>
        simp only [List.map_cons, List.cons.injEq] at e
        rw [List.any_cons, List.any_cons, ih e.2, e.1]
  have hm : ∀ {kvs : List (Key × MV)} {kv : List (Key × V)}, kv.map (·.1) = kvs.map (·.1) → RWs G ι H (kvs.map (·.2)) (kv.map (·.2)) →
      (kv.map fun x => if x.1 = k then (x.1, v) else x).map (·.1) = (kvs.map fun x => if x.1 = k then (x.1, w) else x).map (·.1) ∧ RWs G ι H ((kvs.map fun x => if x.1 = k then (x.1, w) else x).map (·.2)) ((kv.map fun x => if x.1 = k then (x.1, v) else x).map (·.2)) := by
    intro kvs
    induction kvs with
    | nil => intro kv e r; cases kv with
      | nil => exact ⟨rfl, .nil⟩
      | cons p r => simp at e
    | cons p l ih => intro kv e r; cases kv with
      | nil => simp at e
      | cons q t =>
        simp only [List.map_cons, List.cons.injEq] at e
        simp only [List.map_cons] at r
        cases r with
        | cons r1 r2 =>
          obtain ⟨i1, i2⟩ := ih e.2 r2
          simp only [List.map_cons]
          by_cases h : p.1 = k
          · have h' : q.1 = k := by rw [e.1]; exact h
            rw [if_pos h, if_pos h']
            exact ⟨by rw [i1, e.1], .cons rw' i2⟩
          · have h' : ¬ q.1 = k := by rw [e.1]; exact h
            rw [if_neg h, if_neg h']
            exact ⟨by rw [i1, e.1], .cons r1 i2⟩
  unfold putK putM
  rw [← ha e]
  by_cases h : (kvs.any fun kv => decide (kv.1 = k)) = true
  · rw [if_pos h, if_pos h]
    exact hm e r
  · rw [if_neg h, if_neg h]
    refine ⟨by simp [e], ?_⟩
    rw [List.map_append, List.map_append]
    exact r.append (.cons rw' .nil)
/-! ### a[b] -/
def fIx (w1 w2 : MV) (S : Store) : Res MV := match w1, w2 with
  | .tup l, .int i => match atI l i with
    | some w => .ok w S
    | none => .stuck
  | .str z, .int i => if z.length ≤ 100000 then match atI z.cps.toList i with
    | some c => .ok (.str ⟨#[c]⟩) S
    | none => .stuck
    else .stuck
  | .ref n, k => match S[n]? with
    | some (.dic kvs) => match keyM k with
      | some k => match valM kvs k with
        | some w => .ok w S
        | none => .stuck
      | none => .stuck
    | some (.lst l) => match k with
      | .int i => match atI l i with
        | some w => .ok w S
        | none => .stuck
      | _ => .stuck
    | some (.rol l) => match k with
      | .int i => match atI l i with
        | some w => .ok w S
        | none => .stuck
      | _ => .stuck
    | _ => .stuck
  | _, _ => .stuck
def rIxDic : R2 := fun x y H Q => ∃ a v, x = .ref a ∧ DGet H a y (some v) ∧ Q v H
theorem ix_dic (hu : X.A.units + 1 < cLine) : IxR X rIxDic := by
  intro value slice pins s σ H x y v u Q I rx ry h hs
  obtain ⟨a, z, rfl, g, q⟩ := h
  cases rx
  exact tail_any (dict_typeIs I g) PySem.F.slot_dict_getitem.lookup (d_getItem hu I g ry fun w' s' I' r => ⟨z, H, I', r, q⟩) hs
theorem atI_rws {ι : List Addr} {H : Hp} {l : List MV} {vs : List V} {i : Int} {w : MV} (r : RWs G ι H l vs) (e : atI l i = some w) : ∃ v, atI vs i = some v ∧ RW G ι H w v := by
  unfold atI at e ⊢
  rw [← r.length]
  cases h : ixN l.length i with
  | none => rw [h] at e; cases e
  | some j =>
    rw [h] at e
    exact r.get e
theorem w_ix : OpW G fIx (fun x y H Q => rIx G.K x y H Q ∨ rIxDic x y H Q) := fun ι H S E Q w1 w2 v1 v2 s r1 r2 h => by
  unfold fIx at h
  split at h
  · cases r1 with
    | tup t q =>
      cases r2
      split at h
      · rename_i w e
        obtain ⟨v, e2, r⟩ := atI_rws q e
        exact .inl (.inr (.inl ⟨_, _, _, _, rfl, rfl, t, e2, h ι H (.refl s) v r⟩))
      · exact h.elim
  · cases r1
    cases r2
    split at h
    · rename_i hz
      split at h
      · rename_i c e
        exact .inl (.inr (.inr ⟨_, _, _, rfl, rfl, big_ok hz, e, h ι H (.refl s) _ (.str _)⟩))
      · exact h.elim
    · exact h.elim
  · cases r1 with
    | ref i =>
      split at h
      · rename_i kvs hS
        obtain ⟨kv, g, q1, q2⟩ := s.obj _ _ _ hS i
        split at h
        · rename_i k ek
          have ev := key_ok r2 ek
          subst ev
          split at h
          · rename_i w ew
            rcases kvs_val (k := k) q1 q2 with ⟨w', v, h1, h2, h3⟩ | ⟨h1, _⟩
            · rw [ew] at h1
              cases h1
              refine .inr ⟨_, v, rfl, ?_, h ι H (.refl s) v h3⟩
              rw [← h2]
              exact .k g
            · rw [ew] at h1; cases h1
          · exact h.elim
        · exact h.elim
      · rename_i l hS
        obtain ⟨vs, g, q⟩ := s.obj _ _ _ hS i
        split at h
        · cases r2
          split at h
          · rename_i w e
            obtain ⟨v, e2, r⟩ := atI_rws q e
            exact .inl (.inl ⟨_, _, _, _, rfl, rfl, .of g, e2, h ι H (.refl s) v r⟩)
          · exact h.elim
        · exact h.elim
      · rename_i l hS
        obtain ⟨o, vs, g, q, _⟩ := s.obj _ _ _ hS i
        split at h
        · cases r2
          split at h
          · rename_i w e
            obtain ⟨v, e2, r⟩ := atI_rws q e
            exact .inl (.inl ⟨_, _, _, _, rfl, rfl, .inl (.inr ⟨o, g⟩), e2, h ι H (.refl s) v r⟩)
          · exact h.elim
        · exact h.elim
      · exact h.elim
  · exact h.elim
theorem de_ix (hK : X.K = G.K) (hu : X.A.units + 64 < cLine) (ha : DE X G W a da) (hb : DE X G W b db) (hs : PlainIx b := by exact fun _ _ => rfl) : DE X G W (.Subscript a b pos) (dBin fIx da db) :=
  ⟨PE.imp (pe_ix (IxR.or ix_seq (ix_dic (by omega))) ha.run hb.run hs) fun _ _ _ h => by rw [hK]; exact bin_imp w_ix h⟩
/-! ### a[i:j] -/
abbrev DenO := Env' → Store → Res (Option Int)
def tO (G : Gx) (W : WX) (d : DenO) : TO := fun σ H Q => ∃ ι S ρ, Sim G ι H S ∧ RE G ι H ρ σ ∧ fin G ι H (fun c x H' => W c x σ H') (fun k _ H' => Q k H') (d ρ S)
structure DO (X : Cx) (G : Gx) (W : WX) (e : Option Expr) (d : DenO) : Prop where
  run : PO X e (tO G W d)
theorem PO.imp {X : Cx} {e : Option Expr} {t t' : TO} (h : PO X e t) (k : ∀ σ H Q, t' σ H Q → t σ H Q) : PO X e t' := ⟨fun pins s σ H Q I q => h.run pins s σ H Q I (k σ H Q q)⟩
def oNone : DenO := fun _ S => .ok none S
def oSome (d : Den) : DenO := fun ρ S => (d ρ S).bind fun w S1 => match w with
  | .int i => .ok (some i) S1
  | _ => .stuck
theorem do_none : DO X G W none oNone := ⟨PO.imp po_none fun σ H Q h => by
  obtain ⟨ι, S, ρ, s, re, h⟩ := h
  exact h ι H (.refl s)⟩
theorem do_some (h : DE X G W a da) : DO X G W (some a) (oSome da) := ⟨PO.imp (po_some h.run) fun σ H Q h => by
  obtain ⟨ι, S, ρ, s, re, h⟩ := h
  refine ⟨ι, S, ρ, s, re, (fin.bind h).mono fun w ι1 H1 S1 p _ h1 v r => ?_⟩
  obtain ⟨S2, s2, _, _, _, h2⟩ := h1
  split at h2
  · cases r
    exact ⟨_, rfl, h2 ι1 H1 (.refl s2)⟩
  · exact h2.elim⟩
def cutM (xs : List MV) (lo hi : Option Int) : List MV := (xs.drop (HT.sIx xs.length 0 lo)).take (HT.sIx xs.length xs.length hi - HT.sIx xs.length 0 lo)
theorem cut_rws {ι : List Addr} {H : Hp} {l : List MV} {vs : List V} (r : RWs G ι H l vs) (lo hi : Option Int) : RWs G ι H (cutM l lo hi) (cutV vs lo hi) := by
  unfold cutM cutV
  rw [r.length]
  exact (r.drop _).take _
def fSl (w : MV) (lo hi : Option Int) (S : Store) : Res MV := match w with
  | .tup l => .ok (.tup (cutM l lo hi)) S
  | .str z => if z.length ≤ 100000 then .ok (.str (cutS z lo hi)) S else .stuck
  | .ref n => match S[n]? with
    | some (.lst l) => .ok (.ref S.length) (S ++ [.lst (cutM l lo hi)])
    | some (.rol l) => .ok (.ref S.length) (S ++ [.lst (cutM l lo hi)])
    | _ => .stuck
  | _ => .stuck
def dSl (d : Den) (l u : DenO) : Den := fun ρ S => (d ρ S).bind fun w S1 => (l ρ S1).bind fun i S2 => (u ρ S2).bind fun j S3 => fSl w i j S3
theorem cut_whole (xs : List MV) {lo hi : Option Int} (h1 : HT.sIx xs.length 0 lo = 0) (h2 : HT.sIx xs.length xs.length hi = xs.length) : cutM xs lo hi = xs := by
  unfold cutM
  rw [h1, h2]
  simp
theorem de_sl {lo hi : Option Expr} {dl du : DenO} {p2 : Pos} (hK : X.K = G.K) (ha : DE X G W a da) (hl : DO X G W lo dl) (hh : DO X G W hi du) : DE X G W (.Subscript a (.Slice lo hi none p2) pos) (dSl da dl du) := by
  refine ⟨PE.imp (pe_slice (SlR.or sl_list (SlR.or sl_tupA sl_str)) ha.run hl.run hh.run) fun σ H Q h => ?_⟩
  obtain ⟨ι, S, ρ, s, re, h⟩ := h
  refine ⟨ι, S, ρ, s, re, (fin.bind h).mono fun w ι1 H1 S1 p _ h1 v r => ?_⟩
  obtain ⟨S1, s1, _, re1, _, h1⟩ := h1
  have re1 := re1 _ _ re
  refine ⟨ι1, S1, ρ, s1, re1, (fin.bind h1).mono fun i ι2 H2 S2 p2 _ h2 => ?_⟩
  obtain ⟨S2, s2, m2, re2, _, h2⟩ := h2
  refine ⟨ι2, S2, ρ, s2, re2 _ _ re1, (fin.bind h2).mono fun j ι3 H3 S3 p3 _ h3 => ?_⟩
  obtain ⟨S3, s3, m3, re3, _, h3⟩ := h3
  have r := m3 _ _ (m2 _ _ r)
  rw [hK]
  unfold fSl at h3
  split at h3
  · cases r with
    | tup t q =>
      refine .inr (.inl ⟨_, _, rfl, t, fun c => ?_, fun c => ?_⟩)
      · rw [← q.length] at c
        rw [cut_whole _ c.1 c.2] at h3
        exact h3 ι3 H3 (.refl s3) _ (.tup t q)
      · exact new_tup s3 (cut_rws q i j) h3
  · cases r
    split at h3
    · rename_i hz
      exact .inr (.inr ⟨_, rfl, big_ok hz, h3 ι3 H3 (.refl s3) _ (.str _)⟩)
    · exact h3.elim
  · cases r with
    | ref k =>
      split at h3
      · rename_i l hS
        obtain ⟨vs, g, q⟩ := s3.obj _ _ _ hS k
        exact .inl ⟨_, _, rfl, .of g, new_lst s3 (cut_rws q i j) h3⟩
      · rename_i l hS
        obtain ⟨o, vs, g, q, _⟩ := s3.obj _ _ _ hS k
        exact .inl ⟨_, _, rfl, .inl (.inr ⟨o, g⟩), new_lst s3 (cut_rws q i j) h3⟩
      · exact h3.elim
  · exact h3.elim
def fRev (w : MV) (S : Store) : Res MV := match w with
  | .ref n => match S[n]? with
    | some (.lst l) => .ok (.ref S.length) (S ++ [.lst l.reverse])
    | some (.rol l) => .ok (.ref S.length) (S ++ [.lst l.reverse])
    | _ => .stuck
  | _ => .stuck
/-! ### argument lists, displays -/
def aNil : DenL := fun _ S => .ok [] S
def aCons (d : Den) (r : DenL) : DenL := fun ρ S => (d ρ S).bind fun w S1 => (r ρ S1).bind fun ws S2 => .ok (w :: ws) S2
variable {es : List Expr} {dr : DenL}
theorem da_nil : DA X G W [] aNil := ⟨PA.imp pa_nil fun σ H Q h => by
  obtain ⟨ι, S, ρ, s, re, h⟩ := h
  exact h ι H (.refl s) _ .nil⟩
theorem da_cons (ha : DE X G W a da) (hr : DA X G W es dr) (hs : starEach (a :: es) X.env = (false, eval a X.env) :: starEach es X.env := by rfl) : DA X G W (a :: es) (aCons da dr) := ⟨PA.imp (pa_cons ha.run hr.run hs) fun σ H Q h => by
  obtain ⟨ι, S, ρ, s, re, h⟩ := h
  refine ⟨ι, S, ρ, s, re, (fin.bind h).mono fun w ι1 H1 S1 p _ h1 v r => ?_⟩
  obtain ⟨S1, s1, m1, re1, _, h1⟩ := h1
  refine ⟨ι1, S1, ρ, s1, re1 _ _ re, (fin.bind h1).mono fun ws ι2 H2 S2 p2 _ h2 vs rs => ?_⟩
  obtain ⟨S2, s2, m2, _, _, h2⟩ := h2
  exact h2 ι2 H2 (.refl s2) _ (.cons (m2 _ _ r) rs)⟩
def dTup (r : DenL) : Den := fun ρ S => (r ρ S).bind fun ws S1 => if ws.length ≤ 100000 then .ok (.tup ws) S1 else .stuck
def dLst (r : DenL) : Den := fun ρ S => (r ρ S).bind fun ws S1 => if ws.length ≤ 100000 then .ok (.ref S1.length) (S1 ++ [.lst ws]) else .stuck
theorem de_tup {k} (h : DA X G W es dr) : DE X G W (.Tuple es k pos) (dTup dr) := ⟨PE.imp (pe_tup h.run) fun σ H Q h => by
  obtain ⟨ι, S, ρ, s, re, h⟩ := h
  refine ⟨ι, S, ρ, s, re, (fin.bind h).mono fun ws ι1 H1 S1 p _ h1 vs r => ?_⟩
  obtain ⟨S1, s1, _, _, _, h1⟩ := h1
  split at h1
  · rename_i hz
    exact ⟨by rw [← r.length]; exact big_ok hz, new_tup s1 r h1⟩
  · exact h1.elim⟩
theorem de_lst (h : DA X G W es dr) : DE X G W (.List es pos) (dLst dr) := ⟨PE.imp (pe_lst h.run) fun σ H Q h => by
  obtain ⟨ι, S, ρ, s, re, h⟩ := h
  refine ⟨ι, S, ρ, s, re, (fin.bind h).mono fun ws ι1 H1 S1 p _ h1 vs r => ?_⟩
  obtain ⟨S1, s1, _, _, _, h1⟩ := h1
  split at h1
  · rename_i hz
    exact ⟨by rw [← r.length]; exact big_ok hz, new_lst s1 r h1⟩
  · exact h1.elim⟩
def dDic0 : Den := fun _ S => .ok (.ref S.length) (S ++ [.dic []])
theorem de_dic0 : DE X G W (.Dict [] [] pos) dDic0 := ⟨PE.imp pe_dnewK fun σ H Q h => by
  obtain ⟨ι, S, ρ, s, re, h⟩ := h
  intro p hp
  have q := s.new hp (ho := .dK []) (mo := .dic []) ⟨[], upd_same, rfl, .nil⟩
  exact h _ _ q (.ref p) (.ref (by rw [← s.len]; simp))⟩
/-! ### built-ins called by their names -/
abbrev FnM := List MV → Store → Res MV
def dCall (f : FnM) (r : DenL) : Den := fun ρ S => (r ρ S).bind fun ws S1 => f ws S1
def ClW (G : Gx) (f : FnM) (r : List V → Hp → VK → Prop) : Prop := ∀ (ι : List Addr) (H : Hp) (S : Store) (E : Value → Option Addr → Hp → Prop) (Q : VK) (ws : List MV) (vs : List V), Sim G ι H S → RWs G ι H ws vs → fin G ι H E (PV G Q) (f ws S) → r vs H Q
theorem call_imp {f : FnM} {r : List V → Hp → VK → Prop} (hw : ClW G f r) {σ : L2.St} {H : Hp} {Q : VK} (h : tD G W (dCall f dr) σ H Q) : tCB r (tDs G W dr) σ H Q := by
  obtain ⟨ι, S, ρ, s, re, h⟩ := h
  refine ⟨ι, S, ρ, s, re, (fin.bind h).mono fun ws ι1 H1 S1 p _ h1 vs r => ?_⟩
  obtain ⟨S1, s1, _, _, _, h1⟩ := h1
  exact hw ι1 H1 S1 _ Q ws vs s1 r h1
theorem de_callB {id : String} {x : Str} {p : Pos} {f : FnM} {r : List V → Hp → VK → Prop} (hc : CallR X (.builtin id) r) (hw : ClW G f r) (hg : Gl X x) (hm : X.mg x = none) (hv : bootBuiltins x = some (.builtin id)) (ha : DA X G W (a :: es) dr) (hn : x ≠ "__name__" := by decide) (hdb : (x == ("__debug__" : Str)) = false := by decide)
    (he : starEach (a :: es) X.env = (false, eval a X.env) :: starEach es X.env := by rfl) (hpl : (backTo pos (starEach es X.env)).any (·.1) = false := by rfl) : DE X G W (.Call (.Name x p) (a :: es) [] pos) (dCall f dr) :=
  ⟨PE.imp (pe_callB hc hg hm hv ha.run hn hdb he hpl) fun _ _ _ h => call_imp hw h⟩
theorem de_callTy {T : String} {x : Str} {p : Pos} {f : FnM} {r : List V → Hp → VK → Prop} (hc : CallR X (.type T) r) (hw : ClW G f r) (hg : Gl X x) (hm : X.mg x = none) (hv : bootBuiltins x = some (.type T)) (ha : DA X G W (a :: es) dr) (hn : x ≠ "__name__" := by decide) (hdb : (x == ("__debug__" : Str)) = false := by decide)
    (he : starEach (a :: es) X.env = (false, eval a X.env) :: starEach es X.env := by rfl) (hpl : (backTo pos (starEach es X.env)).any (·.1) = false := by rfl) : DE X G W (.Call (.Name x p) (a :: es) [] pos) (dCall f dr) :=
  ⟨PE.imp (pe_callTy hc hg hm hv ha.run hn hdb he hpl) fun _ _ _ h => call_imp hw h⟩
theorem rws1 {ι : List Addr} {H : Hp} {w : MV} {vs : List V} (r : RWs G ι H [w] vs) : ∃ v, vs = [v] ∧ RW G ι H w v := by
  cases r with
  | cons r1 r2 => cases r2; exact ⟨_, rfl, r1⟩
theorem rws2 {ι : List Addr} {H : Hp} {w u : MV} {vs : List V} (r : RWs G ι H [w, u] vs) : ∃ v v2, vs = [v, v2] ∧ RW G ι H w v ∧ RW G ι H u v2 := by
  cases r with
  | cons r1 r2 =>
    obtain ⟨v, e, q⟩ := rws1 r2
    subst e
    exact ⟨_, _, rfl, r1, q⟩
def lenM (w : MV) (S : Store) : Option Nat := match w with
  | .str z => if z.length ≤ 100000 then some z.length else none
  | w => (itemsOf w S).map List.length
def fLen : FnM := fun ws S => match ws with
  | [w] => match lenM w S with
    | some n => .ok (.int n) S
    | none => .stuck
  | _ => .stuck
theorem w_len : ClW G fLen (fun xs H Q => ∃ x n, xs = [x] ∧ LenV G.K x H n ∧ Q (.int n) H) := fun ι H S E Q ws vs s r h => by
  unfold fLen at h
  split at h
  · rename_i w
    obtain ⟨v, rfl, r1⟩ := rws1 r
    split at h
    · rename_i n e
      refine ⟨v, n, rfl, ?_, h ι H (.refl s) _ (.int _)⟩
      unfold lenM at e
      split at e
      · cases r1
        split at e
        · rename_i hz
          cases e
          exact ⟨big_ok hz, rfl⟩
        · cases e
      · cases e2 : itemsOf w S with
        | none => rw [e2] at e; cases e
        | some l =>
          rw [e2] at e
          cases e
          obtain ⟨p, us, rfl, t, q⟩ := items_ok s r1 e2
          rcases t with t | t
          · exact .inl ⟨us, t, q.length⟩
          · exact .inr ⟨us, t, q.length⟩
    · exact h.elim
  · exact h.elim
def fIntOf : FnM := fun ws S => match ws with
  | [.int i] => .ok (.int i) S
  | [.bl k] => .ok (.int (if k then 1 else 0)) S
  | _ => .stuck
theorem w_intOf : ClW G fIntOf (fun xs H Q => (∃ i, xs = [.int i] ∧ Q (.int i) H) ∨ ∃ k, xs = [.bl k] ∧ Q (.int (if k then 1 else 0)) H) := fun ι H S E Q ws vs s r h => by
  unfold fIntOf at h
  split at h
  · obtain ⟨v, rfl, r1⟩ := rws1 r
    cases r1
    exact .inl ⟨_, rfl, h ι H (.refl s) _ (.int _)⟩
  · obtain ⟨v, rfl, r1⟩ := rws1 r
    cases r1
    exact .inr ⟨_, rfl, h ι H (.refl s) _ (.int _)⟩
  · exact h.elim
def fTupOf (w : MV) (S : Store) : Res MV := match itemsOf w S with
  | some l => .ok (.tup l) S
  | none => .stuck
def fLstOf : FnM := fun ws S => match ws with
  | [w] => match itemsOf w S with
    | some l => .ok (.ref S.length) (S ++ [.lst l])
    | none => .stuck
  | _ => .stuck
theorem w_lstOf : ClW G fLstOf (fun xs H Q => ∃ p ys, xs = [.ref p] ∧ (SqL G.K H p ys ∨ SqT G.K H p ys) ∧ ∀ l, H l = none → Q (.ref l) (upd H l (.lst ys))) := fun ι H S E Q ws vs s r h => by
  unfold fLstOf at h
  split at h
  · obtain ⟨v, rfl, r1⟩ := rws1 r
    split at h
    · rename_i l e
      obtain ⟨p, us, rfl, t, q⟩ := items_ok s r1 e
      exact ⟨p, us, rfl, t, new_lst s q h⟩
    · exact h.elim
  · exact h.elim
theorem de_tupOf {p : Pos} (hK : X.K = G.K) (hg : Gl X "tuple") (hm : X.mg "tuple" = none) (ha : DE X G W a da) (na : starEach [a] X.env = (false, eval a X.env) :: starEach [] X.env := by rfl) : DE X G W (.Call (.Name "tuple" p) [a] [] pos) (dUn fTupOf da) := by
  refine ⟨PE.imp (pe_tupleOf hg hm ha.run na) fun σ H Q h => ?_⟩
  obtain ⟨ι, S, ρ, s, re, h⟩ := h
  refine ⟨ι, S, ρ, s, re, (fin.bind h).mono fun w ι1 H1 S1 p _ h1 v r => ?_⟩
  obtain ⟨S1, s1, _, re1, _, h1⟩ := h1
  unfold fTupOf at h1
  split at h1
  · rename_i l e
    obtain ⟨a, us, rfl, t, q⟩ := items_ok s1 r e
    rw [hK]
    rcases t with t | t
    · exact .inl ⟨a, us, rfl, t, new_tup s1 q h1⟩
    · exact .inr ⟨a, us, rfl, t, h1 ι1 H1 (.refl s1) _ (.tup t q)⟩
  · exact h1.elim
theorem de_len {p : Pos} (hK : X.K = G.K) (hg : Gl X "len") (hm : X.mg "len" = none) (ha : DA X G W (a :: es) dr)
    (he : starEach (a :: es) X.env = (false, eval a X.env) :: starEach es X.env := by rfl) (hpl : (backTo pos (starEach es X.env)).any (·.1) = false := by rfl) : DE X G W (.Call (.Name "len" p) (a :: es) [] pos) (dCall fLen dr) :=
  de_callB call_len (by rw [hK]; exact w_len) hg hm PySem.boot_len ha (by decide) (by decide) he hpl
theorem de_intOf {p : Pos} (hg : Gl X "int") (hm : X.mg "int" = none) (ha : DA X G W (a :: es) dr)
    (he : starEach (a :: es) X.env = (false, eval a X.env) :: starEach es X.env := by rfl) (hpl : (backTo pos (starEach es X.env)).any (·.1) = false := by rfl) : DE X G W (.Call (.Name "int" p) (a :: es) [] pos) (dCall fIntOf dr) :=
  de_callTy call_int1 w_intOf hg hm (by decide +kernel) ha (by decide) (by decide) he hpl
theorem de_lstOf {p : Pos} (hK : X.K = G.K) (hg : Gl X "list") (hm : X.mg "list" = none) (ha : DA X G W (a :: es) dr)
    (he : starEach (a :: es) X.env = (false, eval a X.env) :: starEach es X.env := by rfl) (hpl : (backTo pos (starEach es X.env)).any (·.1) = false := by rfl) : DE X G W (.Call (.Name "list" p) (a :: es) [] pos) (dCall fLstOf dr) :=
  de_callTy call_list_of (by rw [hK]; exact w_lstOf) hg hm (by decide +kernel) ha (by decide) (by decide) he hpl
end
end MI
set_option Elab.async false
set_option linter.all false
set_option maxRecDepth 100000
namespace MI
open PySem PySem.Spec PyProof.Rows L2
/-! ### flows -/
inductive Fl where
  | next (ρ : Env') | ret (w : MV) | brk (ρ : Env') | cont (ρ : Env') | exc (c : Str) (fs : List (Str × MV)) (ρ : Env')
abbrev DenS := Env' → Store → Res Fl
def Res.bindS {α : Type} (r : Res α) (ρ : Env') (f : α → Store → Res Fl) : Res Fl :=
  match r with
  | .ok a S => f a S
  | .err c fs S => .ok (.exc c fs ρ) S
  | .stuck => .stuck
abbrev NoE : Value → Option Addr → Hp → Prop := fun _ _ _ => False
def want (G : Gx) (W : WX) (D : Ends) : Fl → List Addr → Hp → Prop
  | .next ρ, ι, H => ∀ σ, RE G ι H ρ σ → D.nx σ H
  | .ret w, ι, H => ∀ v, RW G ι H w v → D.rt v H
  | .brk ρ, ι, H => ∀ σ, RE G ι H ρ σ → D.bk σ H
  | .cont ρ, ι, H => ∀ σ, RE G ι H ρ σ → D.ct σ H
  | .exc c fs ρ, ι, H => ∀ σ cls d, RE G ι H ρ σ → RX G ι H c fs cls d → W cls d σ H
def tS (G : Gx) (W : WX) (d : DenS) : TS := fun D σ H => ∃ ι S ρ, Sim G ι H S ∧ RE G ι H ρ σ ∧ fin G ι H NoE (want G W D) (d ρ S)
structure DS (X : Cx) (G : Gx) (W : WX) (st : Stmt) (d : DenS) : Prop where
  run : PS X st (tS G W d)
structure DSs (X : Cx) (G : Gx) (W : WX) (st : List Stmt) (d : DenS) : Prop where
  run : PSs X st (tS G W d)
section
variable {α : Type} {G : Gx} {W : WX} {ι : List Addr} {H : Hp} {S : Store} {ρ : Env'} {σ : L2.St} {D : Ends}
theorem fin.bindS {r : Res α} {k : α → Store → Res Fl} (re : RE G ι H ρ σ) (h : fin G ι H NoE (want G W D) (r.bindS ρ k)) :
    fin G ι H (fun c x H' => W c x σ H') (fun a ι1 H1 => ∃ S1, Sim G ι1 H1 S1 ∧ RE G ι1 H1 ρ σ ∧ (∀ w v, RW G ι H w v → RW G ι1 H1 w v) ∧ fin G ι1 H1 NoE (want G W D) (k a S1)) r := by
  cases r with
  | ok a S' => exact fun ι' H' p => ⟨S', p.sim, p.re re, fun w v q => p.rw q, fin.later p h⟩
  | err c fs S' => exact fun ι' H' cls d p q => h ι' H' p σ cls d (p.re re) q
  | stuck => exact h
end
section
variable {X : Cx} {G : Gx} {W : WX} {e a b c : Expr} {pos : Pos} {d da db : Den} {st : Stmt} {rest : List Stmt} {s1 s2 : DenS}
def sSeq (x y : DenS) : DenS := fun ρ S => match x ρ S with
  | .ok (.next ρ1) S1 => y ρ1 S1
  | r => r
def sNil : DenS := fun ρ S => .ok (.next ρ) S
theorem dss_nil : DSs X G W [] sNil := ⟨PSs.imp pss_nil fun D σ H h => by
  obtain ⟨ι, S, ρ, s, re, h⟩ := h
  exact h ι H (.refl s) σ re⟩
theorem dss_one (h : DS X G W st s1) : DSs X G W [st] s1 := ⟨pss_one h.run⟩
theorem dss_cons (h1 : DS X G W st s1) (h2 : DSs X G W rest s2) : DSs X G W (st :: rest) (sSeq s1 s2) := ⟨PSs.imp (pss_cons h1.run h2.run) fun D σ H h => by
  obtain ⟨ι, S, ρ, s, re, h⟩ := h
  refine ⟨ι, S, ρ, s, re, ?_⟩
  unfold sSeq at h
  cases r : s1 ρ S with
  | ok fl S' =>
    rw [r] at h
    cases fl with
    | next ρ1 => exact fun ι1 H1 p σ1 re1 => ⟨ι1, S', ρ1, p.sim, re1, fin.later p h⟩
    | ret w => exact fun ι1 H1 p => h ι1 H1 p
    | brk ρ1 => exact fun ι1 H1 p => h ι1 H1 p
    | cont ρ1 => exact fun ι1 H1 p => h ι1 H1 p
    | exc c fs ρ1 => exact fun ι1 H1 p => h ι1 H1 p
  | err c fs S' => rw [r] at h; exact h
  | stuck => rw [r] at h; exact h⟩
def sNever : DenS := fun _ _ => .stuck
def sExpr (d : Den) : DenS := fun ρ S => (d ρ S).bindS ρ fun _ S1 => .ok (.next ρ) S1
theorem ds_expr (ha : DE X G W a da) (hs : swapsWith a none pos.line X.env = pure false := by rfl) : DS X G W (.Expr a pos) (sExpr da) := ⟨PS.imp (ps_expr ha.run hs) fun D σ H h => by
  obtain ⟨ι, S, ρ, s, re, h⟩ := h
  refine ⟨ι, S, ρ, s, re, (fin.bindS re h).mono fun w ι1 H1 S1 p _ h1 v r => ?_⟩
  obtain ⟨S1, s1, re1, _, h1⟩ := h1
  exact h1 ι1 H1 (.refl s1) σ re1⟩
def sRet (d : Den) : DenS := fun ρ S => (d ρ S).bindS ρ fun w S1 => .ok (.ret w) S1
theorem ds_ret (ha : DE X G W a da) : DS X G W (.Return (some a) pos) (sRet da) := ⟨PS.imp (ps_ret ha.run) fun D σ H h => by
  obtain ⟨ι, S, ρ, s, re, h⟩ := h
  refine ⟨ι, S, ρ, s, re, (fin.bindS re h).mono fun w ι1 H1 S1 p _ h1 v r => ?_⟩
  obtain ⟨S1, s1, re1, _, h1⟩ := h1
  exact h1 ι1 H1 (.refl s1) v r⟩
def sIf (t : DenB) (x y : DenS) : DenS := fun ρ S => (t ρ S).bindS ρ fun k S1 => if k = true then x ρ S1 else y ρ S1
variable {p q : List Stmt} {dt : DenB}
theorem ds_if (hc : DT X G W c dt) (ha : DSs X G W p s1) (hb : DSs X G W q s2) : DS X G W (.If c p q pos) (sIf dt s1 s2) := ⟨PS.imp (ps_if hc.run ha.run hb.run) fun D σ H h => by
  obtain ⟨ι, S, ρ, s, re, h⟩ := h
  refine ⟨ι, S, ρ, s, re, (fin.bindS re h).mono fun k ι1 H1 S1 p _ h1 => ?_⟩
  obtain ⟨S1, s1, re1, _, h1⟩ := h1
  cases k with
  | true => exact ⟨ι1, S1, ρ, s1, re1, h1⟩
  | false => exact ⟨ι1, S1, ρ, s1, re1, h1⟩⟩
/-! ### targets: vs are the slots that it stores -/
abbrev DenG := MV → Env' → Store → Res Env'
def tG (G : Gx) (vs : List Nat) (g : DenG) : TG := fun v σ H Q => ∃ ι S ρ w, Sim G ι H S ∧ RE G ι H ρ σ ∧ RW G ι H w v ∧
  fin G ι H NoE (fun ρ' ι' H' => ∀ σ', RE G ι' H' ρ' σ' → (∀ j, j ∉ vs → σ'[j]? = σ[j]?) → σ'.length = σ.length → Q σ' H') (g w ρ S)
structure DG (X : Cx) (G : Gx) (e : Expr) (vs : List Nat) (g : DenG) : Prop where
  run : PG X e (tG G vs g)
theorem PG.imp {X : Cx} {e : Expr} {t t' : TG} (h : PG X e t) (k : ∀ v σ H Q, t' v σ H Q → t v σ H Q) : PG X e t' := ⟨fun pins s σ H v u Q I r q => h.run pins s σ H v u Q I r (k v σ H Q q)⟩
def gN (i : Nat) : DenG := fun w ρ S => .ok (ρ.set i (some w)) S
theorem dg_name (i : Nat) {x : Str} (hN : X.N.Nodup) (hi : X.N[i]? = some x := by rfl) (hx : Loc X.env.scope x := by first | exact Or.inl rfl | exact Or.inr rfl) (hf : X.fn x = true ∨ X.env.scope.names.lookup x = some .local := by first | exact .inl rfl | exact .inr rfl) : DG X G (.Name x pos) [i] (gN i) := by
  refine ⟨PG.imp (pg_name (i := i) hN hi hx hf) fun v σ H Q h => ?_⟩
  obtain ⟨ι, S, ρ, w, s, re, r, h⟩ := h
  refine h ι H (.refl s) _ (re.set r i) (fun j hj => ?_) (by simp)
  rw [List.getElem?_set_ne (by intro z; exact hj (by simp [z]))]
abbrev DenGs := List MV → Env' → Store → Res Env'
def tGs (G : Gx) (vs : List Nat) (g : DenGs) : TGs := fun v σ H Q => ∃ ι S ρ w, Sim G ι H S ∧ RE G ι H ρ σ ∧ RWs G ι H w v ∧
  fin G ι H NoE (fun ρ' ι' H' => ∀ σ', RE G ι' H' ρ' σ' → (∀ j, j ∉ vs → σ'[j]? = σ[j]?) → σ'.length = σ.length → Q σ' H') (g w ρ S)
structure DGs (X : Cx) (G : Gx) (es : List Expr) (vs : List Nat) (g : DenGs) : Prop where
  run : PGs X es (tGs G vs g)
theorem PGs.imp {X : Cx} {e : List Expr} {t t' : TGs} (h : PGs X e t) (k : ∀ v σ H Q, t' v σ H Q → t v σ H Q) : PGs X e t' := ⟨fun pins s σ H v u Q I r q => h.run pins s σ H v u Q I r (k v σ H Q q)⟩
def gsNil : DenGs := fun ws ρ S => match ws with
  | [] => .ok ρ S
  | _ => .stuck
def gsCons (g : DenG) (r : DenGs) : DenGs := fun ws ρ S => match ws with
  | w :: ws => match g w ρ S with
    | .ok ρ1 S1 => r ws ρ1 S1
    | _ => .stuck
  | [] => .stuck
theorem dgs_nil : DGs X G [] [] gsNil := ⟨PGs.imp pgs_nil fun v σ H Q h => by
  obtain ⟨ι, S, ρ, w, s, re, r, h⟩ := h
  unfold gsNil at h
  split at h
  · cases r
    exact ⟨rfl, h ι H (.refl s) σ re (fun _ _ => rfl) rfl⟩
  · exact h.elim⟩
theorem RWs.later {ι ι' : List Addr} {H H' : Hp} {S' : Store} {ws : List MV} {vs : List V} (p : Post G ι H ι' H' S') (r : RWs G ι H ws vs) : RWs G ι' H' ws vs := p.rws r
theorem dgs_cons {es : List Expr} {vs us : List Nat} {g : DenG} {r : DenGs} (h1 : DG X G e vs g) (h2 : DGs X G es us r) (hs : (assignEach (e :: es) X.env).map (·.2) = assign e X.env :: (assignEach es X.env).map (·.2) := by rfl) : DGs X G (e :: es) (vs ++ us) (gsCons g r) := ⟨PGs.imp (pgs_cons h1.run h2.run hs) fun v σ H Q h => by
  obtain ⟨ι, S, ρ, w, s, re, rw', h⟩ := h
  unfold gsCons at h
  split at h
  · rename_i w ws
    cases rw' with
    | cons r1 r2 =>
      refine ⟨_, _, rfl, ι, S, ρ, w, s, re, r1, ?_⟩
      cases e2 : g w ρ S with
      | ok ρ1 S1 =>
        rw [e2] at h
        refine fun ι1 H1 p σ1 re1 hv hl => ⟨ι1, S1, ρ1, ws, p.sim, re1, p.rws r2, (fin.later p h).mono fun ρ2 ι2 H2 S2 p2 _ h2 σ2 re2 hv2 hl2 => ?_⟩
        refine h2 σ2 re2 (fun j hj => ?_) (hl2.trans hl)
        rw [List.mem_append, not_or] at hj
        exact (hv2 j hj.2).trans (hv j hj.1)
      | err c fs S1 => rw [e2] at h; exact h.elim
      | stuck => rw [e2] at h; exact h.elim
  · exact h.elim⟩
def gT (r : DenGs) : DenG := fun w ρ S => match w with
  | .tup l => r l ρ S
  | _ => .stuck
theorem dg_tup {es : List Expr} {k : Nat} {vs : List Nat} {r : DenGs} {n : Nat} (hK : X.K = G.K) (hc : X.calm = true) (h : DGs X G es vs r) (hl : ∀ l ρ S, r l ρ S ≠ .stuck → l.length = n)
    (hn : (assignEach es X.env).length = n := by rfl) (hst : (assignEach es X.env).findIdx? (·.1) = none := by rfl) : DG X G (.Tuple es k pos) vs (gT r) := by
  refine ⟨PG.imp (pg_tup hc h.run hn hst) fun v σ H Q h => ?_⟩
  obtain ⟨ι, S, ρ, w, s, re, rw', h⟩ := h
  unfold gT at h
  split at h
  · rename_i l
    cases rw' with
    | tup t q =>
      refine ⟨_, _, rfl, by rw [hK]; exact t, ?_, ι, S, ρ, l, s, re, q, h⟩
      rw [← q.length]
      exact hl l ρ S fun z => by rw [z] at h; exact h
  · exact h.elim
theorem gs_len0 : ∀ l ρ S, gsNil l ρ S ≠ .stuck → l.length = 0 := fun l ρ S h => by
  cases l with
  | nil => rfl
  | cons a l => exact absurd rfl h
theorem gs_len {g : DenG} {r : DenGs} {n : Nat} (hr : ∀ l ρ S, r l ρ S ≠ .stuck → l.length = n) : ∀ l ρ S, gsCons g r l ρ S ≠ .stuck → l.length = n + 1 := fun l ρ S h => by
  cases l with
  | nil => exact absurd rfl h
  | cons w l =>
    unfold gsCons at h
    dsimp only at h
    cases e : g w ρ S with
    | ok ρ1 S1 =>
      rw [e] at h
      rw [List.length_cons, hr l ρ1 S1 h]
    | err c fs S1 => rw [e] at h; exact absurd rfl h
    | stuck => rw [e] at h; exact absurd rfl h
def fSet (o i w : MV) (S : Store) : Option Store := match o with
  | .ref n => match S[n]?, i with
    | some (.lst l), .int k => match ixN l.length k with
      | some j => some (S.set n (.lst (l.set j w)))
      | none => none
    | some (.dic kvs), i => match keyM i with
      | some k => if kvs.length ≤ 100000 then some (S.set n (.dic (putM kvs k w))) else none
      | none => none
    | _, _ => none
  | _ => none
def gS (o i : Den) : DenG := fun w ρ S => match o ρ S with
  | .ok ov S1 => match i ρ S1 with
    | .ok iv S2 => match fSet ov iv w S2 with
      | some S3 => .ok ρ S3
      | none => .stuck
    | _ => .stuck
  | _ => .stuck
theorem PSet.or {t t' : TSet} (h : PSet X t) (h' : PSet X t') : PSet X (fun o i v H Q => t o i v H Q ∨ t' o i v H Q) := fun pins s σ H o i v ov iv u Q I ro ri rv q => by
  rcases q with q | q
  · exact h pins s σ H o i v ov iv u Q I ro ri rv q
  · exact h' pins s σ H o i v ov iv u Q I ro ri rv q
theorem set_dic (hu : X.A.units + 1 < cLine) : PSet X (fun o i v H Q => ∃ a H4, o = .ref a ∧ DPut H a i v H4 ∧ Q H4) := fun pins s σ H o i v ov iv u Q I ro ri rv q => by
  obtain ⟨a, H4, rfl, g, q⟩ := q
  cases ro
  exact d_setItem hu I g ri rv fun s4 I4 => ⟨H4, I4, q⟩
theorem set_w {ι : List Addr} {H : Hp} {S S3 : Store} {w1 w2 w3 : MV} {v1 v2 v3 : V} {Q : Hp → Prop} (s : Sim G ι H S) (r1 : RW G ι H w1 v1) (r2 : RW G ι H w2 v2) (r3 : RW G ι H w3 v3) (e : fSet w1 w2 w3 S = some S3) (h : ∀ H', Post G ι H ι H' S3 → Q H') :
    rSetL v1 v2 v3 H Q ∨ ∃ a H4, v1 = .ref a ∧ DPut H a v2 v3 H4 ∧ Q H4 := by
  unfold fSet at e
  split at e
  · cases r1 with
    | ref i =>
      split at e
      · rename_i l k hS
        obtain ⟨vs, g, q⟩ := s.obj _ _ _ hS i
        cases r2
        split at e
        · rename_i j hj
          cases e
          refine .inl ⟨_, _, _, _, rfl, rfl, g, by rw [← q.length]; exact hj, h _ (s.write i g (fun _ z => by cases z) (fun _ _ z => by cases z) ?_)⟩
          have t := sqT_upd (K := G.K) (ho := .lst (vs.set j v3)) (noTup_of g (fun _ z => by cases z) (fun _ _ z => by cases z))
          exact ⟨_, upd_same, (RWs.set r3 j q).mono (fun _ _ e => e) t⟩
        · cases e
      · rename_i kvs hS
        obtain ⟨kv, g, q1, q2⟩ := s.obj _ _ _ hS i
        split at e
        · rename_i k hk
          split at e
          · rename_i hz
            cases e
            have ev := key_ok r2 hk
            subst ev
            have hl : kv.length = kvs.length := by
              have := congrArg List.length q1
              simpa using this
            refine .inr ⟨_, _, rfl, .k g (by rw [hl]; exact Nat.lt_of_le_of_lt hz (by rw [sizeLine_eq]; decide)), h _ (s.write i g (fun _ z => by cases z) (fun _ _ z => by cases z) ?_)⟩
            have t := sqT_upd (K := G.K) (ho := .dK (putK kv k v3)) (noTup_of g (fun _ z => by cases z) (fun _ _ z => by cases z))
            obtain ⟨p1, p2⟩ := kvs_put (k := k) r3 q1 q2
            exact ⟨_, upd_same, p1, p2.mono (fun _ _ e => e) t⟩
          · cases e
        · cases e
      · cases e
  · cases e
theorem dg_sub {o i : Expr} {dO dI : Den} (hu : X.A.units + 64 < cLine) (ho : DE X G W o dO) (hi : DE X G W i dI)
    (ha : ∀ v, assign (.Subscript o i pos) X.env v = (do
      let ov ← holding [v] (eval o X.env)
      let iv ← holding [v, ov] (eval i X.env)
      standAt pos
      holding [v, ov, iv] (setItem ov iv v)
      release [v, ov, iv] []) := by intro _; rfl) : DG X G (.Subscript o i pos) [] (gS dO dI) := by
  refine ⟨PG.imp (pg_sub ho.run hi.run (PSet.or set_list (set_dic (by omega))) ha) fun v σ H Q h => ?_⟩
  obtain ⟨ι, S, ρ, w, s, re, r, h⟩ := h
  refine ⟨ι, S, ρ, s, re, ?_⟩
  unfold gS at h
  cases e1 : dO ρ S with
  | ok ov S1 =>
    rw [e1] at h
    dsimp only at h
    refine fun ι1 H1 p1 v1 r1 => ⟨ι1, S1, ρ, p1.sim, p1.re re, ?_⟩
    cases e2 : dI ρ S1 with
    | ok iv S2 =>
      rw [e2] at h
      dsimp only at h
      refine fun ι2 H2 p2 v2 r2 => ?_
      cases e3 : fSet ov iv w S2 with
      | some S3 =>
        rw [e3] at h
        refine set_w p2.sim (p2.rw r1) r2 (p2.rw (p1.rw r)) e3 fun H' p3 => ?_
        have pp := (p1.trans p2).trans p3
        exact h ι2 H' pp σ (pp.re re) (fun _ _ => rfl) rfl
      | none => rw [e3] at h; exact h.elim
    | err c fs S2 => rw [e2] at h; exact h.elim
    | stuck => rw [e2] at h; exact h.elim
  | err c fs S1 => rw [e1] at h; exact h.elim
  | stuck => rw [e1] at h; exact h.elim
def sAsg (d : Den) (g : DenG) : DenS := fun ρ S => (d ρ S).bindS ρ fun w S1 => match g w ρ S1 with
  | .ok ρ1 S2 => .ok (.next ρ1) S2
  | _ => .stuck
theorem asg_imp {tg : Expr} {vs : List Nat} {g : DenG} {D : Ends} {σ : L2.St} {H : Hp} (h : tS G W (sAsg da g) D σ H) : tAsg (tD G W da) (tG G vs g) D σ H := by
  obtain ⟨ι, S, ρ, s, re, h⟩ := h
  refine ⟨ι, S, ρ, s, re, (fin.bindS re h).mono fun w ι1 H1 S1 p _ h1 v r => ?_⟩
  obtain ⟨S1, s1, re1, _, h1⟩ := h1
  refine ⟨ι1, S1, ρ, w, s1, re1, r, ?_⟩
  cases e : g w ρ S1 with
  | ok ρ1 S2 =>
    rw [e] at h1
    exact fun ι2 H2 p2 σ2 re2 _ _ => h1 ι2 H2 p2 σ2 re2
  | err c fs S2 => rw [e] at h1; exact h1.elim
  | stuck => rw [e] at h1; exact h1.elim
theorem ds_asg {tg : Expr} {vs : List Nat} {g : DenG} (ha : DE X G W a da) (hg : DG X G tg vs g) (hs : swapsWithSole [tg] a pos.line X.env = pure false := by rfl) (hw : swappedStores [tg] a X.env = pure none := by rfl)
    (h1 : (assignEach [tg] X.env).map (·.2) = [assign tg X.env] := by rfl) : DS X G W (.Assign [tg] a pos) (sAsg da g) := ⟨PS.imp (ps_asg ha.run hg.run hs hw h1) fun D σ H h => asg_imp (tg := tg) h⟩
theorem ds_set (i : Nat) {x : Str} {pos' : Pos} (hN : X.N.Nodup) (ha : DE X G W a da) (hi : X.N[i]? = some x := by rfl) (hx : Loc X.env.scope x := by first | exact Or.inl rfl | exact Or.inr rfl) (hs : swapsWith a (some (.Name x pos')) pos.line X.env = pure false := by rfl)
    (hf : X.fn x = true ∨ X.env.scope.names.lookup x = some .local := by first | exact .inl rfl | exact .inr rfl) : DS X G W (.Assign [.Name x pos'] a pos) (sAsg da (gN i)) := ⟨PS.imp (ps_set (i := i) hN hi hx ha.run hs hf) fun D σ H h => by
  obtain ⟨ι, S, ρ, s, re, h⟩ := h
  refine ⟨ι, S, ρ, s, re, (fin.bindS re h).mono fun w ι1 H1 S1 p _ h1 v r => ?_⟩
  obtain ⟨S1, s1, re1, _, h1⟩ := h1
  exact h1 ι1 H1 (.refl s1) _ (re1.set r i)⟩
def sPar (i j : Nat) (da : DenL) : DenS := fun ρ S => (da ρ S).bindS ρ fun ws S1 => match ws with
  | [x, y] => .ok (.next ((ρ.set i (some x)).set j (some y))) S1
  | _ => .stuck
--PAR
end
end MI
set_option Elab.async false
set_option linter.all false
set_option maxRecDepth 100000
namespace MI
open PySem PySem.Spec PyProof.Rows L2
section
variable {X : Cx} {G : Gx} {W : WX} {e a b c : Expr} {pos : Pos} {d da db : Den} {dr : DenL}
theorem ds_par {i j : Nat} {x y : Str} {px py pt : Pos} {kt k2 pt2} (hc : X.calm = true) (hN : X.N.Nodup) (hi : X.N[i]? = some x) (hj : X.N[j]? = some y) (hij : i ≠ j) (hx : X.env.scope.names.lookup x = some .local) (hy : X.env.scope.names.lookup y = some .local)
    (ha : DA X G W [a, b] dr) (hw : swappedStores [.Tuple [.Name x px, .Name y py] kt pt] (.Tuple [a, b] k2 pt2) X.env = pure (some [x, y]))
    (hs : swapsWithSole [.Tuple [.Name x px, .Name y py] kt pt] (.Tuple [a, b] k2 pt2) pos.line X.env = pure false := by rfl) : DS X G W (.Assign [.Tuple [.Name x px, .Name y py] kt pt] (.Tuple [a, b] k2 pt2) pos) (sPar i j dr) := ⟨PS.imp (ps_par hc hN hi hj hij hx hy ha.run hw hs) fun D σ H h => by
  obtain ⟨ι, S, ρ, s, re, h⟩ := h
  refine ⟨ι, S, ρ, s, re, (fin.bindS re h).mono fun ws ι1 H1 S1 p _ h1 vs r => ?_⟩
  obtain ⟨S1, s1, re1, _, h1⟩ := h1
  split at h1
  · obtain ⟨v1, v2, rfl, r1, r2⟩ := rws2 r
    exact ⟨v1, v2, rfl, h1 ι1 H1 (.refl s1) _ ((re1.set r1 i).set r2 j)⟩
  · exact h1.elim⟩
def sPar3 (i j l : Nat) (da : DenL) : DenS := fun ρ S => (da ρ S).bindS ρ fun ws S1 => match ws with
  | [x, y, z] => .ok (.next (((ρ.set i (some x)).set j (some y)).set l (some z))) S1
  | _ => .stuck
/-! ### what a loop walks -/
inductive Nx where
  | yield (w : MV) | stop | stuck
abbrev Src := Nat → Store → Nx
def ItOk (G : Gx) (ι : List Addr) (H : Hp) (J : It) (nx : Src) : Prop := ∀ (i : Nat) (ι1 : List Addr) (H1 : Hp) (S1 : Store), Post G ι H ι1 H1 S1 → match nx i S1 with
  | .yield w => J.go i H1 ∧ ∀ x H', J.yld i H1 x H' → Post G ι1 H1 ι1 H' S1 ∧ RW G ι1 H' w x
  | .stop => J.stop i H1
  | .stuck => True
theorem ItOk.later {ι ι1 : List Addr} {H H1 : Hp} {S1 : Store} {J : It} {nx : Src} (k : ItOk G ι H J nx) (p : Post G ι H ι1 H1 S1) : ItOk G ι1 H1 J nx := fun i ι2 H2 S2 p2 => k i ι2 H2 S2 (p.trans p2)
abbrev DenI := Env' → Store → Res Src
def tI (G : Gx) (W : WX) (d : DenI) : TI := fun σ H R => ∃ ι S ρ, Sim G ι H S ∧ RE G ι H ρ σ ∧ fin G ι H (fun c x H' => W c x σ H') (fun nx ι' H' => ∀ J, ItOk G ι' H' J nx → R J H') (d ρ S)
structure DI (X : Cx) (G : Gx) (W : WX) (tg : Expr) (e : Expr) (d : DenI) : Prop where
  run : PI X tg e (tI G W d)
theorem PI.imp {X : Cx} {tg e : Expr} {t t' : TI} (h : PI X tg e t) (k : ∀ σ H Q, t' σ H Q → t σ H Q) : PI X tg e t' := ⟨fun pins s σ H Q I q => h.run pins s σ H Q I (k σ H Q q)⟩
def srcL (l : List MV) : Src := fun i _ => match l[i]? with
  | some w => .yield w
  | none => .stop
def srcRef (n : Nat) : Src := fun i S => match S[n]? with
  | some (.lst l) => (match l[i]? with
    | some w => .yield w
    | none => .stop)
  | some (.rol l) => (match l[i]? with
    | some w => .yield w
    | none => .stop)
  | _ => .stuck
def srcStr (z : Str) : Src := fun i _ => match z.cps[i]? with
  | some c => .yield (.str ⟨#[c]⟩)
  | none => .stop
def srcRng (lo hi : Int) : Src := fun i _ => if i < (hi - lo).toNat then .yield (.int (lo + i)) else .stop
def iAny (K : PySem.W.Frag) (tl : TE) : TI := fun σ H R => tl σ H fun x H1 => (∃ a xs, x = .ref a ∧ SqL K H1 a xs ∧ R (Itl K a) H1) ∨ (∃ a xs, x = .ref a ∧ SqT K H1 a xs ∧ R (Itt K a) H1) ∨ ∃ z, x = .str z ∧ R (Its z) H1
theorem pi_any {tg l : Expr} {tl : TE} (hl : PE X l tl) : PI X tg l (iAny X.K tl) := by
  constructor
  intro pins s σ H R I h
  refine thn (hl.run pins s σ H _ I h) fun v s1 q1 => ?_
  obtain ⟨x, H1, I1, r1, q1⟩ := q1
  rcases q1 with ⟨a, xs, rfl, hq, q⟩ | ⟨a, xs, rfl, hq, q⟩ | ⟨z, rfl, q⟩
  · cases r1
    obtain ⟨its, _, pl, _⟩ := I1.list hq
    refine wpAny_pyIter_list pl.isList ?_
    refine ⟨_, [s1.heap.objs.size], _, _, H1, rfl, I1.kept (t' := s1.toks) (fun b o e => Heap.get?_push_of_some _ e), turn_list a _, ⟨_, Heap.get?_push_size _ rfl, rfl, rfl⟩, ?_, q⟩
    intro b hb
    rw [List.mem_singleton] at hb
    rw [hb]
    exact I1.fpOk (Nat.le_refl _) (I1.hok.fresh (Nat.le_refl _))
  · cases r1
    obtain ⟨its, _, pl, _⟩ := I1.tuple hq
    refine wpAny_pyIter_tuple (show s1.heap.IsTuple a its.toArray from pl) ?_
    refine ⟨_, [s1.heap.objs.size], _, _, H1, rfl, I1.kept (t' := s1.toks) (fun b o e => Heap.get?_push_of_some _ e), turn_tuple a _, ⟨_, Heap.get?_push_size _ rfl, rfl, rfl⟩, ?_, q⟩
    intro b hb
    rw [List.mem_singleton] at hb
    rw [hb]
    exact I1.fpOk (Nat.le_refl _) (I1.hok.fresh (Nat.le_refl _))
  · obtain ⟨t, rfl⟩ := r1
    by_cases ha : z.cps.all (· < 128) = true
    · exact wpAny_pyIter_ascii ha (pi_one (tk := s1.toks) I1 _ (turn_str _ z t "str_ascii_iterator" (.inl rfl)) ⟨_, Heap.get?_push_size _ rfl, rfl, rfl⟩ q)
    · have ha' : z.cps.all (· < 128) = false := by simpa using ha
      exact wpAny_pyIter_wide ha' (pi_one (tk := s1.toks) I1 _ (turn_str _ z t "str_iterator" (.inr rfl)) ⟨_, Heap.get?_push_size _ rfl, rfl, rfl⟩ q)
def srcOf (w : MV) (S : Store) : Res Src := match w with
  | .tup l => .ok (srcL l) S
  | .str z => .ok (srcStr z) S
  | .ref n => match S[n]? with
    | some (.lst _) => .ok (srcRef n) S
    | some (.rol _) => .ok (srcRef n) S
    | _ => .stuck
  | _ => .stuck
def iAnyD (d : Den) : DenI := fun ρ S => (d ρ S).bind srcOf
theorem it_tup {K : PySem.W.Frag} (hK : K = G.K) {ι : List Addr} {H : Hp} {a : Addr} {vs : List V} {l : List MV} (t : SqT K H a vs) (q : RWs G ι H l vs) : ItOk G ι H (Itt K a) (srcL l) := fun i ι1 H1 S1 p => by
  subst hK
  have t1 := p.tup _ _ t
  have q1 := p.rws q
  unfold srcL
  cases e : l[i]? with
  | some w =>
    obtain ⟨v, e2, r⟩ := q1.get e
    refine ⟨⟨vs, v, t1, e2⟩, fun x H' y => ?_⟩
    obtain ⟨rfl, y⟩ := y
    have := y vs t1
    rw [e2] at this
    cases this
    exact ⟨.refl p.sim, r⟩
  | none =>
    refine ⟨vs, t1, ?_⟩
    rw [← q1.length]
    exact List.getElem?_eq_none_iff.mp e
theorem it_lst {K : PySem.W.Frag} (hK : K = G.K) {ι : List Addr} {H : Hp} {a : Addr} {n : Nat} (t : ι[n]? = some a) : ItOk G ι H (Itl K a) (srcRef n) := fun i ι1 H1 S1 p => by
  subst hK
  have t1 := p.ext _ _ t
  have main : ∀ (l : List MV) (vs : List V), SqL G.K H1 a vs → RWs G ι1 H1 l vs → (match (match l[i]? with
    | some w => Nx.yield w
    | none => .stop) with
    | .yield w => (Itl G.K a).go i H1 ∧ ∀ x H', (Itl G.K a).yld i H1 x H' → Post G ι1 H1 ι1 H' S1 ∧ RW G ι1 H' w x
    | .stop => (Itl G.K a).stop i H1
    | .stuck => True) := fun l vs hs q1 => by
    cases e : l[i]? with
    | some w =>
      obtain ⟨v, e2, r⟩ := q1.get e
      refine ⟨⟨vs, v, hs, e2⟩, fun x H' y => ?_⟩
      obtain ⟨rfl, y⟩ := y
      have := y vs hs
      rw [e2] at this
      cases this
      exact ⟨.refl p.sim, r⟩
    | none =>
      refine ⟨vs, hs, ?_⟩
      rw [← q1.length]
      exact List.getElem?_eq_none_iff.mp e
  unfold srcRef
  cases hS : S1[n]? with
  | none => trivial
  | some o =>
    cases o with
    | lst l =>
      obtain ⟨vs, g, q1⟩ := p.sim.obj _ _ _ hS t1
      exact main l vs (.of g) q1
    | rol l =>
      obtain ⟨o, vs, g, q1, _⟩ := p.sim.obj _ _ _ hS t1
      exact main l vs (.inl (.inr ⟨o, g⟩)) q1
    | dic kvs => trivial
    | ins c fs => trivial
    | tpo l => trivial
    | tpp l => trivial
    | dct kvs => trivial
    | fdt kvs => trivial
    | set zs => trivial
theorem di_any {tg : Expr} (hK : X.K = G.K) (ha : DE X G W a da) : DI X G W tg a (iAnyD da) := ⟨PI.imp (pi_any ha.run) fun σ H R h => by
  obtain ⟨ι, S, ρ, s, re, h⟩ := h
  refine ⟨ι, S, ρ, s, re, (fin.bind h).mono fun w ι1 H1 S1 p _ h1 v r => ?_⟩
  obtain ⟨S1, s1, _, _, _, h1⟩ := h1
  unfold srcOf at h1
  split at h1
  · cases r with
    | tup t q => exact .inr (.inl ⟨_, _, rfl, by rw [hK]; exact t, h1 ι1 H1 (.refl s1) _ (it_tup hK (by rw [hK]; exact t) q)⟩)
  · cases r
    refine .inr (.inr ⟨_, rfl, h1 ι1 H1 (.refl s1) _ fun i ι2 H2 S2 p2 => ?_⟩)
    rename_i z _ _
    unfold srcStr
    cases e : z.cps[i]? with
    | some c =>
      refine ⟨(Array.getElem?_eq_some_iff.mp e).1, fun x H' y => ?_⟩
      obtain ⟨rfl, c', e', rfl⟩ := y
      rw [e] at e'
      cases e'
      exact ⟨.refl p2.sim, .str _⟩
    | none => exact Array.getElem?_eq_none_iff.mp e
  · cases r with
    | ref i =>
      split at h1
      · rename_i l hS
        obtain ⟨vs, g, q⟩ := s1.obj _ _ _ hS i
        exact .inl ⟨_, vs, rfl, .of g, h1 ι1 H1 (.refl s1) _ (it_lst hK i)⟩
      · rename_i l hS
        obtain ⟨o, vs, g, q, _⟩ := s1.obj _ _ _ hS i
        exact .inl ⟨_, vs, rfl, .inl (.inr ⟨o, g⟩), h1 ι1 H1 (.refl s1) _ (it_lst hK i)⟩
      · exact h1.elim
  · exact h1.elim⟩
def rng1 (ws : List MV) (S : Store) : Res Src := match ws with
  | [.int j] => if decide (-100000 ≤ j) && decide (j ≤ 100000) then .ok (srcRng 0 j) S else .stuck
  | _ => .stuck
def rng2 (ws : List MV) (S : Store) : Res Src := match ws with
  | [.int i, .int j] => if (decide (-100000 ≤ i) && decide (i ≤ 100000)) && (decide (-100000 ≤ j) && decide (j ≤ 100000)) then .ok (srcRng i j) S else .stuck
  | _ => .stuck
def iRng (f : List MV → Store → Res Src) (d : DenL) : DenI := fun ρ S => (d ρ S).bind f
theorem it_rng {ι : List Addr} {H : Hp} (lo hi : Int) : ItOk G ι H (Itr lo (hi - lo).toNat) (srcRng lo hi) := fun i ι1 H1 S1 p => by
  unfold srcRng
  by_cases hl : i < (hi - lo).toNat
  · rw [if_pos hl]
    refine ⟨hl, fun x H' y => ?_⟩
    obtain ⟨rfl, rfl⟩ := y
    exact ⟨.refl p.sim, .int _⟩
  · rw [if_neg hl]
    exact Nat.le_of_not_lt hl
theorem di_rng1 {tg : Expr} {p : Pos} (hg : Gl X "range") (hm : X.mg "range" = none) (ha : DA X G W [a] dr) (hs : starEach [a] X.env = [(false, eval a X.env)] := by rfl) : DI X G W tg (.Call (.Name "range" p) [a] [] pos) (iRng rng1 dr) := ⟨PI.imp (pi_range1 hg hm ha.run hs) fun σ H R h => by
  obtain ⟨ι, S, ρ, s, re, h⟩ := h
  refine ⟨ι, S, ρ, s, re, (fin.bind h).mono fun ws ι1 H1 S1 p _ h1 vs r => ?_⟩
  obtain ⟨S1, s1, _, _, _, h1⟩ := h1
  unfold rng1 at h1
  split at h1
  · split at h1
    · rename_i j _ _ hz
      rw [Bool.and_eq_true] at hz
      have z1 := of_decide_eq_true hz.1
      have z2 := of_decide_eq_true hz.2
      obtain ⟨v, rfl, r1⟩ := rws1 r
      cases r1
      refine ⟨j, rfl, by omega, by omega, h1 ι1 H1 (.refl s1) _ ?_⟩
      have := it_rng (G := G) (ι := ι1) (H := H1) 0 j
      rw [Int.sub_zero] at this
      exact this
    · exact h1.elim
  · exact h1.elim⟩
/-! ### for -/
def forM (nx : Src) (g : DenG) (body : DenS) : Nat → Nat → DenS
  | 0, _ => fun _ _ => .stuck
  | f + 1, i => fun ρ S => match nx i S with
    | .stop => .ok (.next ρ) S
    | .stuck => .stuck
    | .yield w => match g w ρ S with
      | .ok ρ1 S1 => match body ρ1 S1 with
        | .ok (.next ρ2) S2 => forM nx g body f (i + 1) ρ2 S2
        | .ok (.cont ρ2) S2 => forM nx g body f (i + 1) ρ2 S2
        | .ok (.brk ρ2) S2 => .ok (.next ρ2) S2
        | r => r
      | _ => .stuck
def sFor (f : Nat) (it : DenI) (g : DenG) (body : DenS) : DenS := fun ρ S => (it ρ S).bindS ρ fun nx S1 => forM nx g body f 0 ρ S1
theorem ds_for {f : Nat} {tg iter : Expr} {body : List Stmt} {it : DenI} {vs : List Nat} {g : DenG} {sb : DenS} (hp : PassesOwn (model X.prog X.w) X.A X.env X.xe) (hc : X.calm = true) (hi : DI X G W tg iter it) (hg : DG X G tg vs g) (hb : DSs X G W body sb)
    (hs : ∀ x, foldedSetIterable iter X.env x = pure x := by intro _; rfl) : DS X G W (.For tg iter body [] pos) (sFor f it g sb) := ⟨PS.imp (ps_for hp hc hi.run hg.run hb.run hs) fun D σ H h => by
  obtain ⟨ι, S, ρ, s, re, h⟩ := h
  refine ⟨ι, S, ρ, s, re, (fin.bindS re h).mono fun nx ι1 H1 S1 p _ h1 J hJ => ?_⟩
  obtain ⟨S1, s1, re1, _, h1⟩ := h1
  refine ⟨fun i m σ2 H2 => ∃ ι2 S2 ρ2, Post G ι1 H1 ι2 H2 S2 ∧ RE G ι2 H2 ρ2 σ2 ∧ fin G ι2 H2 NoE (want G W D) (forM nx g sb m i ρ2 S2), ⟨f, ι1, S1, ρ, .refl s1, re1, h1⟩, ?_⟩
  rintro i m σ2 H2 ⟨ι2, S2, ρ2, p2, re2, h2⟩
  have kJ := hJ i ι2 H2 S2 p2
  cases m with
  | zero => exact h2.elim
  | succ m =>
    unfold forM at h2
    cases e : nx i S2 with
    | stop =>
      rw [e] at h2 kJ
      exact .inl ⟨kJ, h2 ι2 H2 (.refl p2.sim) σ2 re2⟩
    | stuck => rw [e] at h2; exact h2.elim
    | yield w =>
      rw [e] at h2 kJ
      dsimp only at h2 kJ
      refine .inr ⟨kJ.1, fun σ3 H3 => ∃ ι3 S3 ρ3, Post G ι1 H1 ι3 H3 S3 ∧ RE G ι3 H3 ρ3 σ3 ∧ fin G ι3 H3 NoE (want G W D) (forM nx g sb m (i + 1) ρ3 S3), fun σ3 H3 n => ⟨m, Nat.lt_succ_self _, n⟩, fun x H3 y => ?_⟩
      obtain ⟨p3, r3⟩ := kJ.2 x H3 y
      refine ⟨ι2, S2, ρ2, w, p3.sim, p3.re re2, r3, ?_⟩
      have p23 := p2.trans p3
      cases e1 : g w ρ2 S2 with
      | err c fs S' => rw [e1] at h2; exact h2.elim
      | stuck => rw [e1] at h2; exact h2.elim
      | ok ρ4 S4 =>
        rw [e1] at h2
        dsimp only at h2
        refine fun ι4 H4 p4 σ4 re4 _ _ => ⟨ι4, S4, ρ4, p4.sim, re4, ?_⟩
        have p34 := p3.trans p4
        cases e2 : sb ρ4 S4 with
        | err c fs S' => rw [e2] at h2; exact fin.later p34 h2
        | stuck => rw [e2] at h2; exact h2.elim
        | ok fl S5 =>
          rw [e2] at h2
          cases fl with
          | next ρ5 => exact fun ι5 H5 p5 σ5 re5 => ⟨ι5, S5, ρ5, (p23.trans p4).trans p5, re5, fin.later (p34.trans p5) h2⟩
          | cont ρ5 => exact fun ι5 H5 p5 σ5 re5 => ⟨ι5, S5, ρ5, (p23.trans p4).trans p5, re5, fin.later (p34.trans p5) h2⟩
          | brk ρ5 => exact fun ι5 H5 p5 σ5 re5 => h2 ι5 H5 (p34.trans p5) σ5 re5
          | ret w' => exact fun ι5 H5 p5 => h2 ι5 H5 (p34.trans p5)
          | exc c fs ρ5 => exact fun ι5 H5 p5 => h2 ι5 H5 (p34.trans p5)⟩
end
end MI
set_option Elab.async false
set_option linter.all false
set_option maxRecDepth 100000
namespace MI
open PySem PySem.Spec PyProof.Rows L2
/-! ### comprehensions -/
abbrev WF : WX := fun _ _ _ _ => False
def wipeM (ρ : Env') : List Nat → Env'
  | [] => ρ
  | v :: vs => (wipeM ρ vs).set v none
theorem wipe_get (σ : L2.St) (j : Nat) : ∀ vs : List Nat, (L2.wipe σ vs)[j]? = if j ∈ vs then (σ[j]?).map (fun _ => none) else σ[j]?
  | [] => by simp [L2.wipe]
  | v :: vs => by
    have ih := wipe_get σ j vs
    unfold L2.wipe
    rw [List.getElem?_set]
    by_cases h : v = j
    · subst h
      rw [if_pos rfl]
      by_cases hl : v < (L2.wipe σ vs).length
      · rw [if_pos hl, if_pos (by simp)]
        rw [L2.wipe_length] at hl
        simp [hl]
      · rw [if_neg hl, if_pos (by simp)]
        rw [L2.wipe_length] at hl
        simp [List.getElem?_eq_none_iff.mpr (Nat.le_of_not_lt hl)]
    · rw [if_neg h, ih]
      have h' : ¬ j = v := fun z => h z.symm
      simp [h']
theorem wipeM_get (σ : Env') (j : Nat) : ∀ vs : List Nat, (wipeM σ vs)[j]? = if j ∈ vs then (σ[j]?).map (fun _ => none) else σ[j]?
  | [] => by simp [wipeM]
  | v :: vs => by
    have ih := wipeM_get σ j vs
    have hlen : ∀ us : List Nat, (wipeM σ us).length = σ.length := fun us => by
      induction us with
      | nil => rfl
      | cons u us ih => unfold wipeM; rw [List.length_set, ih]
    unfold wipeM
    rw [List.getElem?_set]
    by_cases h : v = j
    · subst h
      rw [if_pos rfl]
      by_cases hl : v < (wipeM σ vs).length
      · rw [if_pos hl, if_pos (by simp)]
        rw [hlen] at hl
        simp [hl]
      · rw [if_neg hl, if_pos (by simp)]
        rw [hlen] at hl
        simp [List.getElem?_eq_none_iff.mpr (Nat.le_of_not_lt hl)]
    · rw [if_neg h, ih]
      have h' : ¬ j = v := fun z => h z.symm
      simp [h']
theorem wipeM_length (σ : Env') : ∀ us : List Nat, (wipeM σ us).length = σ.length
  | [] => rfl
  | u :: us => by unfold wipeM; rw [List.length_set, wipeM_length σ us]
theorem RE.wipe {G : Gx} {ι : List Addr} {H : Hp} {ρ : Env'} {σ : L2.St} (r : RE G ι H ρ σ) (vs : List Nat) : RE G ι H (wipeM ρ vs) (L2.wipe σ vs) := by
  refine ⟨by rw [wipeM_length, L2.wipe_length, r.len], fun i w e => ?_⟩
  rw [wipeM_get] at e
  by_cases h : i ∈ vs
  · rw [if_pos h] at e
    cases e2 : ρ[i]? with
    | none => rw [e2] at e; cases e
    | some x => rw [e2] at e; cases e
  · rw [if_neg h] at e
    obtain ⟨v, h1, h2⟩ := r.get i w e
    exact ⟨v, by rw [wipe_get, if_neg h]; exact h1, h2⟩
theorem wipe_agree {σ σ2 : L2.St} {own vs : List Nat} (hv : ∀ j ∈ vs, j ∈ own) (h : ∀ j, j ∉ vs → σ2[j]? = (L2.wipe σ own)[j]?) (hl : σ2.length = (L2.wipe σ own).length) : L2.wipe σ2 own = L2.wipe σ own := by
  apply List.ext_getElem?
  intro j
  rw [wipe_get, wipe_get]
  by_cases hj : j ∈ own
  · rw [if_pos hj, if_pos hj]
    rw [L2.wipe_length] at hl
    by_cases hb : j < σ.length
    · have hb2 : j < σ2.length := by omega
      simp [hb, hb2]
    · have hb2 : ¬ j < σ2.length := by omega
      rw [List.getElem?_eq_none_iff.mpr (Nat.le_of_not_lt hb), List.getElem?_eq_none_iff.mpr (Nat.le_of_not_lt hb2)]
  · rw [if_neg hj, if_neg hj, h j fun z => hj (hv j z), wipe_get, if_neg hj]
def lcM (nx : Src) (g : DenG) (t : DenB) (d : Den) (ρ0 : Env') (m : Nat) : Nat → Nat → Store → Option Store
  | 0, _ => fun _ => none
  | f + 1, i => fun S => match nx i S with
    | .stop => some S
    | .stuck => none
    | .yield w => match g w ρ0 S with
      | .ok ρ1 S1 => match t ρ1 S1 with
        | .ok true S2 => match d ρ1 S2 with
          | .ok w' S3 => match S3[m]? with
            | some (.lst acc) => if acc.length < 100000 then lcM nx g t d ρ0 m f (i + 1) (S3.set m (.lst (acc ++ [w']))) else none
            | _ => none
          | _ => none
        | .ok false S2 => lcM nx g t d ρ0 m f (i + 1) S2
        | _ => none
      | _ => none
def dLc (f : Nat) (it : DenI) (g : DenG) (t : DenB) (d : Den) (own : List Nat) : Den := fun ρ S => (it ρ S).bind fun nx S1 => match lcM nx g t d (wipeM ρ own) S1.length f 0 (S1 ++ [.lst []]) with
  | some S2 => .ok (.ref S1.length) S2
  | none => .stuck
section
variable {X : Cx} {G : Gx} {W : WX} {e a b c : Expr} {pos : Pos} {d da db : Den} {dr : DenL}
structure DTs (X : Cx) (G : Gx) (W : WX) (es : List Expr) (d : DenB) : Prop where
  run : PTs X es (tT G W d)
theorem PTs.imp {X : Cx} {e : List Expr} {t t' : TT} (h : PTs X e t) (k : ∀ σ H Q, t' σ H Q → t σ H Q) : PTs X e t' := ⟨fun pins s σ H Q I q => h.run pins s σ H Q I (k σ H Q q)⟩
def bYes : DenB := fun _ S => .ok true S
theorem dts_nil : DTs X G W [] bYes := ⟨PTs.imp pts_nil fun σ H Q h => by
  obtain ⟨ι, S, ρ, s, re, h⟩ := h
  exact h ι H (.refl s)⟩
theorem dts_one {dt : DenB} (h : DT X G W c dt) : DTs X G W [c] dt := ⟨pts_one h.run⟩
theorem lc_imp {f : Nat} {it : DenI} {vs own : List Nat} {g : DenG} {t : DenB} (hv : ∀ j ∈ vs, j ∈ own) {σ : L2.St} {H : Hp} {Q : VK} (h : tD G W (dLc f it g t d own) σ H Q) : tLc (tI G W it) (tG G vs g) (tT G WF t) (tD G WF d) own σ H Q := by
  obtain ⟨ι, S, ρ, s, re, h⟩ := h
  refine ⟨ι, S, ρ, s, re, (fin.bind h).mono fun nx ι1 H1 S1 p _ h1 J hJ D hD => ?_⟩
  obtain ⟨S1, s1, _, re1, _, h1⟩ := h1
  have re1 := re1 _ _ re
  have ext0 : ∀ (n : Nat) (a : Addr), ι1[n]? = some a → (ι1 ++ [D])[n]? = some a := fun n a e => by
    rw [List.getElem?_append_left (List.getElem?_eq_some_iff.mp e).1]; exact e
  have p0 := s1.new hD (ho := .lst []) (mo := .lst []) ⟨[], upd_same, .nil⟩
  refine ⟨fun i m H2 => ∃ ι2 S2, Post G ι1 H1 ι2 H2 S2 ∧ ι2[S1.length]? = some D ∧ ∃ S', lcM nx g t d (wipeM ρ own) S1.length m i S2 = some S' ∧ fin G ι2 H2 (fun c x H' => W c x σ H') (PV G Q) (.ok (.ref S1.length) S'), ⟨f, ι1 ++ [D], S1 ++ [.lst []], p0, by rw [← s1.len]; simp, ?_⟩, ?_⟩
  · cases e : lcM nx g t d (wipeM ρ own) S1.length f 0 (S1 ++ [.lst []]) with
    | none => rw [e] at h1; exact h1.elim
    | some S' => rw [e] at h1; exact ⟨S', rfl, fin.later p0 h1⟩
  · rintro i m H2 ⟨ι2, S2, p2, hD2, S', e2, h2⟩
    have kJ := hJ i ι2 H2 S2 p2
    cases m with
    | zero => cases e2
    | succ m =>
      unfold lcM at e2
      cases e : nx i S2 with
      | stop =>
        rw [e] at e2 kJ
        cases e2
        exact .inl ⟨kJ, h2 ι2 H2 (.refl p2.sim) (.ref D) (.ref hD2)⟩
      | stuck => rw [e] at e2; cases e2
      | yield w =>
        rw [e] at e2 kJ
        dsimp only at e2 kJ
        refine .inr ⟨kJ.1, fun H3 => ∃ ι3 S3, Post G ι1 H1 ι3 H3 S3 ∧ ι3[S1.length]? = some D ∧ ∃ S', lcM nx g t d (wipeM ρ own) S1.length m (i + 1) S3 = some S' ∧ fin G ι3 H3 (fun c x H' => W c x σ H') (PV G Q) (.ok (.ref S1.length) S'), fun H3 n => ⟨m, Nat.lt_succ_self _, n⟩, fun x H3 y => ?_⟩
        obtain ⟨p3, r3⟩ := kJ.2 x H3 y
        have re3 : RE G ι2 H3 (wipeM ρ own) (L2.wipe σ own) := (p2.trans p3).re (re1.wipe own)
        refine ⟨ι2, S2, wipeM ρ own, w, p3.sim, re3, r3, ?_⟩
        cases e4 : g w (wipeM ρ own) S2 with
        | err c fs S' => rw [e4] at e2; cases e2
        | stuck => rw [e4] at e2; cases e2
        | ok ρ4 S4 =>
          rw [e4] at e2
          dsimp only at e2
          refine fun ι4 H4 p4 σ4 re4 hv4 hl4 => ⟨wipe_agree hv hv4 hl4, ι4, S4, ρ4, p4.sim, re4, ?_⟩
          have p24 := p3.trans p4
          cases e5 : t ρ4 S4 with
          | err c fs S' => rw [e5] at e2; cases e2
          | stuck => rw [e5] at e2; cases e2
          | ok k S5 =>
            rw [e5] at e2
            cases k with
            | false =>
              dsimp only at e2
              refine fun ι5 H5 p5 => ?_
              dsimp only
              rw [if_neg Bool.false_ne_true]
              exact ⟨ι5, S5, p2.trans (p24.trans p5), (p24.trans p5).ext _ _ hD2, S', e2, fin.later (p24.trans p5) h2⟩
            | true =>
              dsimp only at e2
              refine fun ι5 H5 p5 => ?_
              dsimp only
              rw [if_pos rfl]
              refine ⟨ι5, S5, ρ4, p5.sim, p5.re re4, ?_⟩
              cases e6 : d ρ4 S5 with
              | err c fs S' => rw [e6] at e2; cases e2
              | stuck => rw [e6] at e2; cases e2
              | ok w' S6 =>
                rw [e6] at e2
                dsimp only at e2
                refine fun ι6 H6 p6 v6 r6 => ?_
                cases e7 : S6[S1.length]? with
                | none => rw [e7] at e2; cases e2
                | some o =>
                  rw [e7] at e2
                  cases o with
                  | lst acc =>
                    dsimp only at e2
                    split at e2
                    · rename_i hz
                      have pp := p24.trans (p5.trans p6)
                      have hD6 := pp.ext _ _ hD2
                      obtain ⟨vs', g', q'⟩ := p6.sim.obj _ _ _ e7 hD6
                      have t6 := sqT_upd (K := G.K) (ho := .lst (vs' ++ [v6])) (noTup_of g' (fun _ z => by cases z) (fun _ _ z => by cases z))
                      have p7 := p6.sim.write hD6 g' (fun _ z => by cases z) (fun _ _ z => by cases z) (ho' := .lst (vs' ++ [v6])) (mo := .lst (acc ++ [w'])) ⟨_, upd_same, (q'.append (.cons r6 .nil)).mono (fun _ _ e => e) t6⟩
                      exact ⟨vs', g', by rw [← q'.length]; exact Nat.lt_of_lt_of_le hz (by rw [sizeLine_eq]; decide), ι6, _, p2.trans (pp.trans p7), hD6, S', e2, fin.later (pp.trans p7) h2⟩
                    · cases e2
                  | rol acc => cases e2
                  | dic kvs => cases e2
                  | ins c fs => cases e2
                  | tpo l => cases e2
                  | tpp l => cases e2
                  | dct kvs => cases e2
                  | fdt kvs => cases e2
                  | set zs => cases e2
theorem de_lc {f : Nat} {elt tg iter : Expr} {ifs : List Expr} {scope : Scope} {own : List (Str × Nat)} {it : DenI} {vs : List Nat} {g : DenG} {t : DenB} (hc : X.calm = true) (hN : X.N.Nodup) (hi : DI X G W tg iter it) (ok : BlkOk X.N X.env.scope scope own)
    (hg : ∀ (s : Shared) (H : Hp) (C : Addr) (cl : List (Str × Addr)) (fp : List Addr), DG (X.blk s H scope (compEnvC scope cl C X.env) fp) G tg vs g) (ht : ∀ (s : Shared) (H : Hp) (C : Addr) (cl : List (Str × Addr)) (fp : List Addr), DTs (X.blk s H scope (compEnvC scope cl C X.env) fp) G WF ifs t)
    (he : ∀ (s : Shared) (H : Hp) (C : Addr) (cl : List (Str × Addr)) (fp : List Addr), DE (X.blk s H scope (compEnvC scope cl C X.env) fp) G WF elt d) (hv : ∀ j ∈ vs, j ∈ own.map (·.2) := by decide) (hs : ∀ x, foldedSetIterable iter X.env x = pure x := by intro _; rfl) :
    DE X G W (.ListComp elt [⟨tg, iter, ifs, 0⟩] scope pos) (dLc f it g t d (own.map (·.2))) :=
  ⟨PE.imp (pe_lc hc hN hi.run ok (fun s H C cl fp => (hg s H C cl fp).run) (fun s H C cl fp => (ht s H C cl fp).run) (fun s H C cl fp => (he s H C cl fp).run) hs) fun _ _ _ h => lc_imp hv h⟩
end
end MI
set_option Elab.async false
set_option linter.all false
set_option maxRecDepth 100000
namespace MI
open PySem PySem.Spec PyProof.Rows L2
/-! ### what a def leaves behind: what nobody can reach is forgotten -/
mutual
def below (n : Nat) : MV → Bool
  | .tup l => belows n l
  | .ref k => decide (k < n)
  | .non => true
  | .bl _ => true
  | .int _ => true
  | .str _ => true
  | .out k => decide (k < 1000)
def belows (n : Nat) : List MV → Bool
  | [] => true
  | w :: ws => below n w && belows n ws
end
def belowO (n : Nat) : MO → Bool
  | .lst l => belows n l
  | .rol _ => true
  | .dic kvs => belows n (kvs.map (·.2))
  | .ins _ fs => belows n (fs.map (·.2))
  | .tpo l => belows n l
  | .tpp l => belows n l
  | .dct kvs => belows n (kvs.map (·.2))
  | .fdt kvs => belows n (kvs.map (·.2))
  | .set _ => true
section
variable {G : Gx} {ι ι' : List Addr} {H : Hp} {n : Nat}
mutual
theorem RW.lower (k : ∀ (m : Nat) (a : Addr), m < n → ι'[m]? = some a → ι[m]? = some a) : ∀ (w : MV) (v : V), RW G ι' H w v → below n w = true → RW G ι H w v
  | .non, _, r, _ => by cases r; exact .non
  | .bl b, _, r, _ => by cases r; exact .bl b
  | .int b, _, r, _ => by cases r; exact .int b
  | .str b, _, r, _ => by cases r; exact .str b
  | .tup l, _, r, h => by
    cases r with
    | tup t q => exact .tup t (RWs.lower k l _ q (by unfold below at h; exact h))
  | .ref m, _, r, h => by
    cases r with
    | ref i => exact .ref (k _ _ (by unfold below at h; exact of_decide_eq_true h) i)
  | .out m, _, r, _ => by
    cases r with
    | out e => exact .out e
theorem RWs.lower (k : ∀ (m : Nat) (a : Addr), m < n → ι'[m]? = some a → ι[m]? = some a) : ∀ (w : List MV) (v : List V), RWs G ι' H w v → belows n w = true → RWs G ι H w v
  | [], _, r, _ => by cases r; exact .nil
  | w :: ws, _, r, h => by
    cases r with
    | cons r1 r2 =>
      unfold belows at h
      rw [Bool.and_eq_true] at h
      exact .cons (RW.lower k w _ r1 h.1) (RWs.lower k ws _ r2 h.2)
end
theorem ints_low (n : Nat) : ∀ l : List MV, (∀ w ∈ l, ∃ i, w = MV.int i) → belows n l = true
  | [], _ => rfl
  | w :: l, h => by
    obtain ⟨i, rfl⟩ := h _ List.mem_cons_self
    unfold belows
    rw [ints_low n l fun w hw => h w (List.mem_cons_of_mem _ hw)]
    rfl
theorem RO.lower (k : ∀ (m : Nat) (a : Addr), m < n → ι'[m]? = some a → ι[m]? = some a) {a : Addr} {o : MO} (r : RO G ι' H a o) (h : belowO n o = true) : RO G ι H a o := by
  cases o with
  | lst l => obtain ⟨vs, g, q⟩ := r; exact ⟨vs, g, q.lower k _ _ h⟩
  | rol l => obtain ⟨o, vs, g, q, ii⟩ := r; exact ⟨o, vs, g, q.lower k _ _ (ints_low n l ii), ii⟩
  | dic kvs => obtain ⟨kv', g, z, q⟩ := r; exact ⟨kv', g, z, q.lower k _ _ h⟩
  | ins c fs => obtain ⟨C, dx, fs', hc, g, z, q⟩ := r; exact ⟨C, dx, fs', hc, g, z, q.lower k _ _ h⟩
  | tpo l => obtain ⟨o, vs, g, c, d, q⟩ := r; exact ⟨o, vs, g, c, d, q.lower k _ _ h⟩
  | tpp l => obtain ⟨vs, g, q⟩ := r; exact ⟨vs, g, q.lower k _ _ h⟩
  | dct kvs => obtain ⟨kv', g, z, q⟩ := r; exact ⟨kv', g, z, q.lower k _ _ h⟩
  | fdt kvs => obtain ⟨o, kv', g, z, q⟩ := r; exact ⟨o, kv', g, z, q.lower k _ _ h⟩
  | set zs => obtain ⟨w, c, g, l, e⟩ := r; exact ⟨w, c, g, l, e⟩
end
def gc (n : Nat) (w : MV) (S : Store) : Res MV :=
  if S.length = n then .ok w S
  else if (S.take n).all (belowO n) then
    if below n w then .ok w (S.take n)
    else match w with
      | .ref m => match S[m]? with
        | some o => if belowO n o then .ok (.ref n) (S.take n ++ [o]) else .ok w S
        | none => .ok w S
      | _ => .ok w S
  else .ok w S
theorem gc_ok {G : Gx} {ι ι' : List Addr} {H H' : Hp} {S S' : Store} {w : MV} {v : V} {E : Value → Option Addr → Hp → Prop} {Q : VK} (s : Sim G ι H S) (p : Post G ι H ι' H' S') (r : RW G ι' H' w v) (h : fin G ι H E (PV G Q) (gc S.length w S')) : Q v H' := by
  have low : ∀ (m : Nat) (a : Addr), m < S.length → ι'[m]? = some a → ι[m]? = some a := fun m a hm e => by
    have hm' : m < ι.length := by rw [s.len]; exact hm
    have e2 := p.ext m ι[m] (by simp [hm'])
    rw [e] at e2
    cases e2
    simp [hm']
  unfold gc at h
  split at h
  · exact h ι' H' p v r
  · split at h
    · rename_i hne hcl
      have hlen : S.length ≤ S'.length := by
        rw [← s.len, ← p.sim.len]
        by_cases hz : ι.length = 0
        · omega
        · have := p.ext (ι.length - 1) ι[ι.length - 1] (List.getElem?_eq_getElem (by omega))
          have := (List.getElem?_eq_some_iff.mp this).1
          omega
      have cl : ∀ k o, S'[k]? = some o → k < S.length → belowO S.length o = true := fun k o e hk => by
        rw [List.all_eq_true] at hcl
        refine hcl o ?_
        have : (S'.take S.length)[k]? = some o := by rw [List.getElem?_take_of_lt hk]; exact e
        exact List.mem_of_getElem? this
      split at h
      · rename_i hb
        refine h ι H' ⟨fun _ _ e => e, p.tup, p.frz, ?_, s.nd, fun k o a hk ha => ?_⟩ v (r.lower low _ _ hb)
        · rw [s.len, List.length_take]; omega
        · have hkl : k < S.length := by
            have := (List.getElem?_eq_some_iff.mp hk).1
            rw [List.length_take] at this
            omega
          rw [List.getElem?_take_of_lt hkl] at hk
          exact (p.sim.obj k o a hk (p.ext _ _ ha)).lower low (cl k o hk hkl)
      · rename_i hb
        split at h
        · rename_i m
          split at h
          · rename_i o ho
            split at h
            · rename_i hbo
              cases r with
              | ref hi =>
                rename_i D
                have hm : S.length ≤ m := by
                  unfold below at hb
                  simp only [decide_eq_true_eq] at hb
                  omega
                have low' : ∀ (k : Nat) (a : Addr), k < S.length → ι'[k]? = some a → (ι ++ [D])[k]? = some a := fun k a hk e => by
                  rw [List.getElem?_append_left (by rw [s.len]; exact hk)]
                  exact low k a hk e
                refine h (ι ++ [D]) H' ⟨fun k a e => by rw [List.getElem?_append_left (List.getElem?_eq_some_iff.mp e).1]; exact e, p.tup, p.frz, ?_, ?_, fun k o' a hk ha => ?_⟩ (.ref D) (.ref (by rw [← s.len]; simp))
                · rw [List.length_append, List.length_append, List.length_take, s.len]
                  simp
                  omega
                · refine List.nodup_append.mpr ⟨s.nd, by simp, fun a ha b hb' e => ?_⟩
                  have hb2 : b = D := by simpa using hb'
                  subst hb2
                  subst e
                  obtain ⟨k, hk⟩ := List.getElem?_of_mem ha
                  have hk' := p.ext _ _ hk
                  obtain ⟨h1, e1⟩ := List.getElem?_eq_some_iff.mp hk'
                  obtain ⟨h2, e2⟩ := List.getElem?_eq_some_iff.mp hi
                  have : k = m := (List.getElem_inj p.sim.nd).mp (e1.trans e2.symm)
                  have hkl := (List.getElem?_eq_some_iff.mp hk).1
                  rw [s.len] at hkl
                  omega
                · by_cases hkl : k < S.length
                  · rw [List.getElem?_append_left (by rw [List.length_take]; omega), List.getElem?_take_of_lt hkl] at hk
                    rw [List.getElem?_append_left (by rw [s.len]; exact hkl)] at ha
                    exact (p.sim.obj k o' a hk (p.ext _ _ ha)).lower low' (cl k o' hk hkl)
                  · have hkn : k = S.length := by
                      have := (List.getElem?_eq_some_iff.mp hk).1
                      rw [List.length_append, List.length_take] at this
                      simp at this
                      omega
                    subst hkn
                    rw [List.getElem?_append_right (by rw [List.length_take]; omega)] at hk
                    rw [List.getElem?_append_right (by rw [s.len]; exact Nat.le_refl _)] at ha
                    have e0 : S.length - (S'.take S.length).length = 0 := by rw [List.length_take]; omega
                    rw [e0] at hk
                    rw [s.len] at ha
                    simp at hk ha
                    subst hk
                    subst ha
                    exact (p.sim.obj m o D ho hi).lower low' hbo
            · exact h ι' H' p v r
          · exact h ι' H' p v r
        · exact h ι' H' p v r
    · exact h ι' H' p v r
/-! ### defs -/
def mkFn (n N : Nat) (body : DenS) : FnM := fun ws S => if ws.length = n then
    match body (ws.map some ++ List.replicate (N - ws.length) none) S with
    | .ok (.ret w) S' => gc S.length w S'
    | .ok (.next _) S' => gc S.length .non S'
    | .ok (.exc c fs _) S' => .err c fs S'
    | _ => .stuck
  else .stuck
def spF (G : Gx) (g : FnM) : Sp := fun vs H Q E => ∃ ι S ws, Sim G ι H S ∧ RWs G ι H ws vs ∧ fin G ι H E (PV G Q) (g ws S)
theorem re_start {G : Gx} {ι : List Addr} {H : Hp} {ws : List MV} {vs : List V} {N : List Str} (r : RWs G ι H ws vs) : RE G ι H (ws.map some ++ List.replicate (N.length - ws.length) none) (L2.start N vs) := by
  unfold L2.start
  rw [← r.length]
  refine ⟨by simp [r.length], fun i w e => ?_⟩
  by_cases h : i < ws.length
  · rw [List.getElem?_append_left (by simpa using h)] at e
    rw [List.getElem?_map] at e
    have e2 : ws[i]? = some w := by
      cases e3 : ws[i]? with
      | none => rw [e3] at e; cases e
      | some x => rw [e3] at e; cases e; rfl
    obtain ⟨v, e4, q⟩ := r.get e2
    refine ⟨v, ?_, q⟩
    rw [List.getElem?_append_left (by rw [List.length_map, ← r.length]; exact h), List.getElem?_map, e4]
    rfl
  · rw [List.getElem?_append_right (by simpa using Nat.le_of_not_lt h)] at e
    rw [List.getElem?_replicate] at e
    split at e <;> cases e
section
variable {P : Program} {w : World} {K : PySem.W.Frag} {mg : Str → Option Value} {base : Heap} {G : Gx}
theorem fn_ok {x qual : Str} {st : Stmt} {f : Addr} {fd : FuncData} {N ps : List Str} {k : Nat} {body : DenS} (F : Fun K x qual st f fd) (S : FnScope N ps (defScope st))
    (hb : ∀ (cdv : Value) (A : Around) (outer : List Env) (s : Shared) (H : Hp) (E : XK), Room k (A.deeper (envOfC qual (defScope st) s.heap.objs.size f cdv)) → DSs (cxOf (L2.CX P w) P w K mg base N qual (defScope st) f cdv A outer s H E) G (fun cls d _ H => E cls d H) (defBody st) body) :
    FnOk P w K mg base (L2.CX P w) (k + 1) f fd ps (spF G (mkFn ps.length N.length body)) := by
  refine F.okX S (fun vs H Q E h => ?_) (fun cdv A outer s H vs Q E hr h => ⟨_, (hb cdv A outer s H E hr).run, ?_⟩)
  · obtain ⟨ι, S, ws, s, r, h⟩ := h
    rw [← r.length]
    unfold mkFn at h
    split at h
    · rename_i e; exact e
    · exact h.elim
  · obtain ⟨ι, S, ws, s, r, h⟩ := h
    refine ⟨ι, S, _, s, re_start r, ?_⟩
    unfold mkFn at h
    split at h
    · cases e : body (ws.map some ++ List.replicate (N.length - ws.length) none) S with
      | err c fs S' => rw [e] at h; exact h.elim
      | stuck => rw [e] at h; exact h.elim
      | ok fl S' =>
        rw [e] at h
        cases fl with
        | next ρ => exact fun ι' H' p σ' _ => gc_ok s p .non h
        | ret w' => exact fun ι' H' p v r' => gc_ok s p r' h
        | brk ρ => exact h.elim
        | cont ρ => exact h.elim
        | exc c fs ρ => exact fun ι' H' p σ' cls d _ q => h ι' H' cls d p q
    · exact h.elim
end
section
variable {X : Cx} {G : Gx} {W : WX} {e a b c : Expr} {es : List Expr} {pos : Pos} {d da db : Den} {dr : DenL}
theorem de_call {k : Nat} {f : Addr} {fd : FuncData} {ps : List Str} {g : FnM} {x : Str} {p : Pos} (tk : Takes X W) (F : FnOk X.prog X.w X.K X.mg X.base (L2.CX X.prog X.w) k f fd ps (spF G g)) (hr : Room k X.A) (hg : Gl X x) (hm : X.mg x = some (.ref f)) (hk : PySem.W.keepIn X.K (.ref f) = true) (hb : Binds X.K fd ps [])
    (ha : DA X G W (a :: es) dr) (hdb : (x == ("__debug__" : Str)) = false := by decide) (he : starEach (a :: es) X.env = (false, eval a X.env) :: starEach es X.env := by rfl) (hpl : (backTo pos (starEach es X.env)).any (·.1) = false := by rfl) :
    DE X G W (.Call (.Name x p) (a :: es) [] pos) (dCall g dr) := ⟨PE.imp (pe_callS F hr hg hm hk hb (fun σ => passAt tk σ) ha.run hdb he hpl) fun σ H Q h => by
  obtain ⟨ι, S, ρ, s, re, h⟩ := h
  refine ⟨ι, S, ρ, s, re, (fin.bind h).mono fun ws ι1 H1 S1 p _ h1 vs r => ?_⟩
  obtain ⟨S1, s1, _, _, _, h1⟩ := h1
  exact ⟨ι1, S1, ws, s1, r, h1⟩⟩
/-! ### methods of lists -/
def dMet (chk : MV → Store → Bool) (f : MV → List MV → Store → Res MV) (o : Den) (r : DenL) : Den := fun ρ S => (o ρ S).bind fun ow S1 => if chk ow S1 then (r ρ S1).bind fun ws S2 => f ow ws S2 else .stuck
def isLst (w : MV) (S : Store) : Bool := match w with
  | .ref n => match S[n]? with
    | some (.lst _) => true
    | _ => false
  | _ => false
def MtW (G : Gx) (f : MV → List MV → Store → Res MV) (r : V → List V → Hp → VK → Prop) : Prop := ∀ (ι : List Addr) (H : Hp) (S : Store) (E : Value → Option Addr → Hp → Prop) (Q : VK) (w : MV) (v : V) (ws : List MV) (vs : List V), Sim G ι H S → RW G ι H w v → RWs G ι H ws vs → fin G ι H E (PV G Q) (f w ws S) → r v vs H Q
theorem met_imp {f : MV → List MV → Store → Res MV} {r : V → List V → Hp → VK → Prop} (hw : MtW G f r) {σ : L2.St} {H : Hp} {Q : VK} (h : tD G W (dMet isLst f da dr) σ H Q) : tBM G.K "list" r (tD G W da) (tDs G W dr) σ H Q := by
  obtain ⟨ι, S, ρ, s, re, h⟩ := h
  refine ⟨ι, S, ρ, s, re, (fin.bind h).mono fun w ι1 H1 S1 p _ h1 v r1 => ?_⟩
  obtain ⟨S1, s1, _, re1, _, h1⟩ := h1
  split at h1
  · rename_i hc
    refine ⟨?_, ι1, S1, ρ, s1, re1 _ _ re, (fin.bind h1).mono fun ws ι2 H2 S2 p2 _ h2 vs r2 => ?_⟩
    · unfold isLst at hc
      split at hc
      · cases r1 with
        | ref i =>
          split at hc
          · rename_i hS
            obtain ⟨vs, g, q⟩ := s1.obj _ _ _ hS i
            exact .inl ⟨rfl, vs, .of g⟩
          · cases hc
      · cases hc
    · obtain ⟨S2, s2, m2, _, _, h2⟩ := h2
      exact hw ι2 H2 S2 _ Q w v ws vs s2 (m2 _ _ r1) r2 h2
  · exact h1.elim
def fAppend (o : MV) (ws : List MV) (S : Store) : Res MV := match o, ws with
  | .ref n, [w] => match S[n]? with
    | some (.lst l) => if l.length < 100000 then .ok .non (S.set n (.lst (l ++ [w]))) else .stuck
    | _ => .stuck
  | _, _ => .stuck
theorem lst_write {ι : List Addr} {H : Hp} {S : Store} {n : Nat} {p : Addr} {vs vs' : List V} {l' : List MV} {Q : VK} {E : Value → Option Addr → Hp → Prop} (s : Sim G ι H S) (hi : ι[n]? = some p) (g : H p = some (.lst vs)) (q : RWs G ι H l' vs') (h : fin G ι H E (PV G Q) (.ok .non (S.set n (.lst l')))) : Q .non (upd H p (.lst vs')) := by
  have t := sqT_upd (K := G.K) (ho := .lst vs') (noTup_of g (fun _ z => by cases z) (fun _ _ z => by cases z))
  exact h ι _ (s.write hi g (fun _ z => by cases z) (fun _ _ z => by cases z) ⟨_, upd_same, q.mono (fun _ _ e => e) t⟩) _ .non
theorem w_append : MtW G fAppend rAppend := fun ι H S E Q w v ws vs s r1 r2 h => by
  unfold fAppend at h
  split at h
  · cases r1 with
    | ref i =>
      split at h
      · rename_i l hS
        obtain ⟨xs, g, q⟩ := s.obj _ _ _ hS i
        split at h
        · rename_i hz
          obtain ⟨y, rfl, r3⟩ := rws1 r2
          exact ⟨_, xs, y, rfl, rfl, g, by rw [← q.length]; exact Nat.lt_of_lt_of_le hz (by rw [sizeLine_eq]; decide), lst_write s i g (q.append (.cons r3 .nil)) h⟩
        · exact h.elim
      · exact h.elim
  · exact h.elim
theorem de_append {apos : Pos} (hK : X.K = G.K) (ho : DE X G W a da) (ha : DA X G W (b :: es) dr) (hbase : attributeBase a "append" X.env (eval a X.env) = eval a X.env := by rfl)
    (hfew : ((backTo pos (starEach (b :: es) X.env)).all (fun x => !x.1) && (backToKw pos (keywordEach [] X.env)).all (fun x => x.1.isSome)
      && decide ((b :: es).length + ([] : List Keyword).length + (if ([] : List Keyword).isEmpty then 0 else 1) < 30)) = true := by rfl)
    (hline : (apos.endLine == pos.line) = true := by rfl) (hs : starEach (b :: es) X.env = (false, eval b X.env) :: starEach es X.env := by rfl) (hplain : (backTo pos (starEach es X.env)).any (·.1) = false := by rfl) :
    DE X G W (.Call (.Attribute a "append" apos) (b :: es) [] pos) (dMet isLst fAppend da dr) :=
  ⟨PE.imp (pe_bm PySem.F.plainAttrs_list PySem.F.slot_list_append PySem.F.type_list_append mt_append ho.run ha.run hbase hfew hline hs hplain) fun σ H Q h => by rw [hK]; exact met_imp w_append h⟩
/-! ### isinstance of the built-in classes -/
def tyM (w : MV) (S : Store) : Option String := match w with
  | .non => some "NoneType"
  | .bl _ => some "bool"
  | .int _ => some "int"
  | .str _ => some "str"
  | .tup _ => some "tuple"
  | .ref n => match S[n]? with
    | some (.lst _) => some "list"
    | some (.rol _) => some "list"
    | some (.dic _) => some "dict"
    | _ => none
  | .out _ => none
theorem tyM_ok {ι : List Addr} {H : Hp} {S : Store} {w : MV} {v : V} {t : String} (s : Sim G ι H S) (r : RW G ι H w v) (e : tyM w S = some t) : TyX G.K H v (.type t) := by
  unfold tyM at e
  split at e
  · cases r; cases e; exact .base .non
  · cases r; cases e; exact .base (.bl _)
  · cases r; cases e; exact .base (.int _)
  · cases r; cases e; exact .base (.str _)
  · cases r with
    | tup t q =>
      cases e
      rcases t with (t | ⟨o, t⟩) | ⟨o, its, n, t, hc, _⟩
      · exact .base (.tup t)
      · exact .fTuple t
      · exact .kTuple t hc
  · cases r with
    | ref i =>
      split at e
      · rename_i hS
        obtain ⟨vs, g, q⟩ := s.obj _ _ _ hS i
        cases e
        exact .base (.lst g)
      · rename_i hS
        obtain ⟨o, vs, g, q, _⟩ := s.obj _ _ _ hS i
        cases e
        exact .base (.frz g)
      · rename_i hS
        obtain ⟨kv, g, q⟩ := s.obj _ _ _ hS i
        cases e
        exact .base (.dK g)
      · cases e
  · cases e
def isTy (t T : String) : Bool := t == T || (t == "bool" && T == "int")
def fIsT (T : String) (w : MV) (S : Store) : Res MV := match tyM w S with
  | some t => .ok (.bl (isTy t T)) S
  | none => .stuck
theorem tyM_in {w : MV} {S : Store} {t : String} (e : tyM w S = some t) : t ∈ ["NoneType", "bool", "int", "str", "tuple", "list", "dict"] := by
  unfold tyM at e
  split at e <;> first | (cases e; decide) | (cases e; done) | skip
  split at e <;> first | (cases e; decide) | cases e
theorem de_isT {T : String} {x : Str} {p p2 : Pos} (hK : X.K = G.K) (hg : Gl X "isinstance") (hm : X.mg "isinstance" = none) (hg2 : Gl X x) (hm2 : X.mg x = none) (hv2 : bootBuiltins x = some (.type T)) (hk : ∀ t ∈ ["NoneType", "bool", "int", "str", "tuple", "list", "dict"], kitB t T = some (isTy t T))
    (hn2 : x ≠ "__name__") (hd2 : (x == ("__debug__" : Str)) = false) (ha : DE X G W a da) (hs : starEach [a, .Name x p2] X.env = (false, eval a X.env) :: starEach [.Name x p2] X.env := by rfl) (hpl : (backTo pos (starEach [.Name x p2] X.env)).any (·.1) = false := by rfl) :
    DE X G W (.Call (.Name "isinstance" p) [a, .Name x p2] [] pos) (dUn (fIsT T) da) := by
  refine ⟨PE.imp (pe_callB call_isi hg hm (by decide +kernel) (pa_cons ha.run (pa_cons (pe_bltn (v := .ty T) hg2 hm2 hv2 rfl hn2 hd2) pa_nil) hs) (by decide) (by decide) hs hpl) fun σ H Q h => ?_⟩
  obtain ⟨ι, S, ρ, s, re, h⟩ := h
  refine ⟨ι, S, ρ, s, re, (fin.bind h).mono fun w ι1 H1 S1 p _ h1 v r => ?_⟩
  obtain ⟨S1, s1, _, re1, _, h1⟩ := h1
  unfold fIsT at h1
  split at h1
  · rename_i t e
    exact ⟨v, .ty T, .type t, .type T, isTy t T, rfl, .ty T, by rw [hK]; exact tyM_ok s1 r e, kit_ty (hk t (tyM_in e)), h1 ι1 H1 (.refl s1) _ (.bl _)⟩
  · exact h1.elim
def fIsT2 (T U : String) (w : MV) (S : Store) : Res MV := match tyM w S with
  | some t => .ok (.bl (isTy t T || isTy t U)) S
  | none => .stuck
theorem de_isT2 {T U : String} {x y : Str} {p p2 p3 p4 : Pos} {k : Nat} (hK : X.K = G.K) (hg : Gl X "isinstance") (hm : X.mg "isinstance" = none) (hg2 : Gl X x) (hm2 : X.mg x = none) (hv2 : bootBuiltins x = some (.type T)) (hk : ∀ t ∈ ["NoneType", "bool", "int", "str", "tuple", "list", "dict"], kitB t T = some (isTy t T))
    (hn2 : x ≠ "__name__") (hd2 : (x == ("__debug__" : Str)) = false) (hg3 : Gl X y) (hm3 : X.mg y = none) (hv3 : bootBuiltins y = some (.type U)) (hk3 : ∀ t ∈ ["NoneType", "bool", "int", "str", "tuple", "list", "dict"], kitB t U = some (isTy t U))
    (hn3 : y ≠ "__name__") (hd3 : (y == ("__debug__" : Str)) = false) (ha : DE X G W a da) (hs : starEach [a, .Tuple [.Name x p2, .Name y p3] k p4] X.env = (false, eval a X.env) :: starEach [.Tuple [.Name x p2, .Name y p3] k p4] X.env := by rfl) (hpl : (backTo pos (starEach [.Tuple [.Name x p2, .Name y p3] k p4] X.env)).any (·.1) = false := by rfl) :
    DE X G W (.Call (.Name "isinstance" p) [a, .Tuple [.Name x p2, .Name y p3] k p4] [] pos) (dUn (fIsT2 T U) da) := by
  refine ⟨PE.imp (pe_callB call_isiT hg hm (by decide +kernel) (pa_cons ha.run (pa_cons (pe_tup (pa_cons (pe_bltn (v := .ty T) hg2 hm2 hv2 rfl hn2 hd2) (pa_cons (pe_bltn (v := .ty U) hg3 hm3 hv3 rfl hn3 hd3) pa_nil))) pa_nil) hs) (by decide) (by decide) hs hpl) fun σ H Q h => ?_⟩
  obtain ⟨ι, S, ρ, s, re, h⟩ := h
  refine ⟨ι, S, ρ, s, re, (fin.bind h).mono fun w ι1 H1 S1 p _ h1 v r => ?_⟩
  obtain ⟨S1, s1, _, re1, _, h1⟩ := h1
  refine ⟨(show 2 ≤ sizeLine by rw [sizeLine_eq]; decide), fun tp hp => ?_⟩
  unfold fIsT2 at h1
  have q := s1.lay hp (.tup [.ty T, .ty U])
  split at h1
  · rename_i t e
    refine ⟨v, tp, [.ty T, .ty U], .type t, [.type T, .type U], isTy t T || isTy t U, rfl, upd_same, .cons (.ty T) (.cons (.ty U) .nil), by rw [hK]; exact tyM_ok q.sim (q.rw r) e, ?_, h1 ι1 _ q _ (.bl _)⟩
    refine kitAny_cons (b := isTy t T) (kit_ty (hk t (tyM_in e))) (fun e1 => ?_) (fun e1 => by rw [e1]; rfl)
    refine kitAny_cons (b := isTy t U) (kit_ty (hk3 t (tyM_in e))) (fun e2 => ?_) (fun e2 => by rw [e1, e2]; rfl)
    rw [e1, e2]
    exact kitAny_nil
  · exact h1.elim
end
end MI
set_option Elab.async false
set_option linter.all false
set_option maxRecDepth 100000
set_option maxHeartbeats 1000000
/-! ### enumerate of one argument, whatever begins an iterator -/
namespace PySem
namespace EnumOne
theorem made {v : Value} {o : Obj} {H : Heap → Prop} (B : Begins v o H) :
    Meets (Builtin.«enumerate.__new__» ⟨[.type "enumerate", v], []⟩) (fun _ R s => H s.heap ∧ R (.ok (.ret (.ref (s.heap.push o).objs.size))) { s with heap := (s.heap.push o).push { cls := .type "enumerate", data := .fields #[.none, .bool false, .ref s.heap.objs.size, rawInt 0, .none, .none] } }) := by
  refine .of_wp fun prog w A R s h => ?_
  obtain ⟨hp, g, d, tk, os⟩ := s
  have hsub := sub_enumerate
  have begin_ : ∀ {A' : Around} {E : Value → Shared → Prop} {Q : Value → Shared → Prop}, Q (.ref hp.objs.size) ⟨hp.push o, g, d, tk, os⟩ → wpAny (model prog w) A' (pyIter v) Q E ⟨hp, g, d, tk, os⟩ := fun q => B.iter prog w _ _ ⟨hp, g, d, tk, os⟩ _ h.1 q
  wp_walk using begin_
  refine wpAny_stack_any fun st => wpAny_pure ?_
  split
  · rename_i c _ _ _ _ _
    by_cases z : (c == Value.type "enumerate") = true <;> simp only [z, Bool.not_eq_true] at * <;> (wp_walk using begin_; exact ⟨_, rfl, h.2⟩)
  · wp_walk using begin_; exact ⟨_, rfl, h.2⟩
section
variable {prog : Program} {w : World} {A : Around} {E : Value → Shared → Prop} {s : Shared}
theorem call {v : Value} {o : Obj} {H : Heap → Prop} {Q : Value → Shared → Prop} (B : Begins v o H) (h1 : H s.heap)
    (h : ∀ h', IsEnum h' (s.heap.objs.size + 1) s.heap.objs.size 0 .none → h'.get? s.heap.objs.size = some o → (∀ b o, s.heap.get? b = some o → h'.get? b = some o) → Q (.ref (s.heap.objs.size + 1)) { s with heap := h' }) : wpAny (model prog w) A (PySem.call (.type "enumerate") [v]) Q E s := by
  refine callType_new F.called_enumerate (by decide) (F.typeCall_enumerate_1 _) (F.newCall_enumerate_1 _) (fun obj => F.args_object_init_2 obj _) F.entry_enumerate_new (made B) ⟨h1, ?_⟩
  have sz : (s.heap.push o).objs.size = s.heap.objs.size + 1 := Heap.size_push ..
  have en : IsEnum ((s.heap.push o).push { cls := .type "enumerate", data := .fields #[.none, .bool false, .ref s.heap.objs.size, rawInt 0, .none, .none] }) (s.heap.objs.size + 1) s.heap.objs.size 0 .none := by
    have t := Heap.get?_push_size (s.heap.push o) (o := { cls := .type "enumerate", data := .fields #[.none, .bool false, .ref s.heap.objs.size, rawInt 0, .none, .none] }) rfl
    rw [sz] at t
    exact t
  show _ ∧ _
  rw [sz]
  exact ⟨⟨_, en, rfl⟩, h _ en (Heap.get?_push_of_some _ (Heap.get?_push_size _ B.free)) fun b o' x => Heap.get?_push_of_some _ (Heap.get?_push_of_some _ x)⟩
end
end EnumOne
end PySem
namespace MI
open PySem PySem.Spec PyProof.Rows L2
def IteT (K : PySem.W.Frag) (a : Addr) (k : Int) : It :=
  ⟨fun i H => ∃ (xs : List V) (x : V), SqT K H a xs ∧ xs[i]? = some x, fun i H v H' => ∃ T x, v = .ref T ∧ H T = none ∧ H' = upd H T (.tup [.int (k + (i : Nat)), x]) ∧ ∀ xs, SqT K H a xs → xs[i]? = some x, fun i H => ∃ xs : List V, SqT K H a xs ∧ xs.length ≤ i⟩
theorem turn_enumT {P : Program} {w : World} {K : PySem.W.Frag} {elts : List Expr} {kk : Nat} {tpos : Pos} (a e it : Addr) (k : Int) (hae : a ≠ it) (hea : a ≠ e) :
    Turn P w K (.Tuple elts kk tpos) (IteT K a k) [e, it] e (fun i h => (∃ old, IsEnum h e it (k + ((i : Nat) : Int)) old) ∧ h.IsTupleIter it a i ∧ e ≠ it) where
  mem := List.mem_cons_self
  obj := fun i h st b hb => by
    obtain ⟨⟨old, he⟩, ⟨o, ho, hc, hd⟩, _⟩ := st
    rw [List.mem_cons, List.mem_singleton] at hb
    rcases hb with rfl | rfl
    · exact ⟨_, he, fun v q => nomatch q⟩
    · exact ⟨o, ho, fun v q => by rw [hd] at q; cases q⟩
  keep := fun i h h' st k => ⟨⟨st.1.choose, k e (by simp) _ st.1.choose_spec⟩, st.2.1.at fun o q => k it (by simp) o q, st.2.2⟩
  item := by
    intro X hP hw hK hc i pins s σ H E I hf st hg
    subst hP hw hK
    obtain ⟨⟨old, he⟩, hit, hne⟩ := st
    obtain ⟨xs, x, hq, hx⟩ := hg
    obtain ⟨its, rv, p, _⟩ := I.tuple hq
    obtain ⟨u, hu, ru⟩ := rv.get hx
    have hil : i < its.toArray.size := by
      rw [List.size_toArray]
      exact (List.getElem?_eq_some_iff.mp hu).1
    have lte := Heap.lt_size he
    have lti : it < s.heap.objs.size := by obtain ⟨_, q, _⟩ := hit; exact Heap.lt_size q
    have DT := Draws.tuple (prog := X.prog) (w := X.w) (A := X.A.in1) (I.ok.hd hc) it a hae its.toArray
    refine wpAny_pyNext_enum_itemC DT he ⟨hit, p⟩ hil hne (by simp only [List.mem_cons, List.not_mem_nil, or_false, not_or]; exact ⟨hne, Ne.symm hea⟩) fun x' h' tk hP ho hst' hT hsz hk => ?_
    have hxu : x' = u := by
      have z : its.toArray[i]? = some x' := hP
      rw [List.getElem?_toArray, hu] at z
      exact (Option.some.inj z).symm
    subst hxu
    refine ⟨_, rfl, wpAny_letOwnedTupleGo_enum (s := { s with heap := h', toks := tk + 1 }) ho fun h'' he' sb => ?_⟩
    have hT2 := (sb.2 _ (Nat.ne_of_gt lte)).trans hT
    have new : ObjOk X.prog X.w (upd H s.heap.objs.size (.tup [.int (k + (i : Nat)), x])) h'' s.heap.objs.size (.tup [.int (k + (i : Nat)), x]) := ⟨(show 2 ≤ sizeLine by decide), [.int (k + (i : Nat)) tk, x'], .cons ⟨_, rfl⟩ (.cons ru .nil), ⟨_, hT2, rfl, _, rfl⟩⟩
    have I1 : Inv X pins σ (upd H s.heap.objs.size (.tup [.int (k + (i : Nat)), x])) { s with heap := h'', toks := tk + 1 } :=
      I.turnedNew (t' := tk + 1) (ch := [e, it]) (fun b ob hb q => by
        rw [List.mem_cons, List.mem_singleton, not_or] at hb
        exact (sb.2 b hb.1).trans (hk b ob hb.1 hb.2 q)) hf (Nat.le_refl _) new
    refine ⟨.ref s.heap.objs.size, _, I1, rfl, ⟨_, x, rfl, I.hok.fresh (Nat.le_refl _), rfl, fun ys hy => by rw [I.tuple_inj hy hq]; exact hx⟩, ⟨⟨x', ?_⟩, hst'.1.at fun o q => (sb.2 it (Ne.symm hne)).trans q, hne⟩, fun b hb => ?_⟩
    · have e1 : k + ((i + 1 : Nat) : Int) = k + (i : Int) + 1 := by omega
      rw [e1]
      exact he'
    · have hb' : b < s.heap.objs.size := by
        rw [List.mem_cons, List.mem_singleton] at hb
        rcases hb with rfl | rfl
        · exact lte
        · exact lti
      rw [upd_ne (Nat.ne_of_lt hb')]
      exact (hf b hb).1
  done := by
    intro X hP hw hK hc i pins s σ H E I hf st hg
    subst hP hw hK
    obtain ⟨⟨old, he⟩, hit, hne⟩ := st
    obtain ⟨xs, hq, hx⟩ := hg
    obtain ⟨its, rv, p, _⟩ := I.tuple hq
    obtain ⟨f0, f1, f2, f3, f4, f5⟩ := hf it (by simp)
    have hl := rv.length
    have hend : its.toArray[i]? = none := by simp; omega
    unfold pyNext
    have hT : s.TypeIs (.ref e) "enumerate" := ⟨_, he, rfl⟩
    refine wpAny_bind (wpAny_attempt (wpAny_callSpecial?_slot (name := Str.ofString "__next__") hT F.slot_enumerate_next (wpAny_call_entry F.slot_enumerate_next hT F.entry_enumerate_next ?_ (F.args_enumerate_next_1 _))))
    show wpAny _ _ (field (.ref e) 2 >>= _) _ _ _
    refine wpAny_bind (wpAny_field he rfl (x := .ref it) rfl (wpAny_bind (wpAny_nextOf_tuple_end (I.ok.hd hc) hit p hend fun h' x he' hx' => ?_)))
    obtain ⟨o, ho, hc'⟩ := hx'
    exact wpAny_bind (wpAny_isInstance (T := "StopIteration") (b := true) ⟨o, ho, hc'⟩ isSubtype_stop (wpAny_pure ⟨rfl, I.turned (t' := s.toks) (fun b o hb q => he' b o hb q) f0 f1 f3 f4 f5⟩))
  self := fun A i s Q E st h => wpAny_pyIter_enum st.1.choose_spec h
def iEnumA (K : PySem.W.Frag) (ta : TA) : TI := fun σ H R => ta σ H fun vs H1 => (∃ a xs, vs = [.ref a] ∧ SqL K H1 a xs ∧ R (Ite K a) H1) ∨ ∃ a xs, vs = [.ref a] ∧ SqT K H1 a xs ∧ R (IteT K a 0) H1
theorem pi_enumA {X : Cx} {e : Expr} {ta : TA} {p pos tpos : Pos} {elts : List Expr} {kk : Nat} (hg : Gl X "enumerate") (hm : X.mg "enumerate" = none) (ha : PA X [e] ta) (hs : starEach [e] X.env = [(false, eval e X.env)] := by rfl) :
    PI X (.Tuple elts kk tpos) (.Call (.Name "enumerate" p) [e] [] pos) (iEnumA X.K ta) := by
  constructor
  intro pins s σ H R I h
  refine Call_ (ld_blt I hg hm boot_enumerate (PyProof.Rows.callWith_type1 (thn (ha.run pos pins s σ H _ I h) fun us s1 hh => ?_) hs rfl))
  obtain ⟨vs, H1, I1, r1, q1⟩ := hh
  have near : ∀ b, b ∈ [s1.heap.objs.size + 1, s1.heap.objs.size] → s1.heap.objs.size ≤ b := fun b hb => by
    rw [List.mem_cons, List.mem_singleton] at hb
    omega
  rcases q1 with ⟨a, xs, rfl, hq, q⟩ | ⟨a, xs, rfl, hq, q⟩
  · obtain ⟨u, rfl, ru⟩ := vals1 r1
    cases ru
    obtain ⟨its, rv, p', _⟩ := I1.list hq
    refine call_enumerate_list p'.isList fun h' he hit _ hk => wpAny_pyIter_enum he ?_
    exact ⟨_, [s1.heap.objs.size + 1, s1.heap.objs.size], _, _, H1, rfl, I1.kept (t' := s1.toks) hk, turn_enum a _ s1.heap.objs.size, ⟨⟨.none, he⟩, hit, Nat.succ_ne_self _⟩, fun b hb => I1.fpOk (near b hb) (I1.hok.fresh (near b hb)), q⟩
  · obtain ⟨u, rfl, ru⟩ := vals1 r1
    cases ru
    obtain ⟨its, rv, p', _⟩ := I1.tuple hq
    have hlt : a < s1.heap.objs.size := p'.lt
    refine PySem.EnumOne.call (begins_tuple a its.toArray) p' fun h' he ho hk => wpAny_pyIter_enum he ?_
    refine ⟨_, [s1.heap.objs.size + 1, s1.heap.objs.size], _, _, H1, rfl, I1.kept (t' := s1.toks) hk, turn_enumT a _ s1.heap.objs.size 0 (Nat.ne_of_lt hlt) (Nat.ne_of_lt (Nat.lt_succ_of_lt hlt)), ⟨⟨.none, ?_⟩, ⟨_, ho, rfl, rfl⟩, Nat.succ_ne_self _⟩, fun b hb => I1.fpOk (near b hb) (I1.hok.fresh (near b hb)), q⟩
    simpa using he
end MI
set_option Elab.async false
set_option linter.all false
set_option maxRecDepth 100000
set_option maxHeartbeats 1000000
/-! ### t[::-1] of a tuple -/
namespace PySem
namespace TupBack
open PySem.W PySem.Calls PyProof.Rows HT
theorem adjust (n : Nat) : Builtin.Slice.sliceAdjust none none (-1) (n : Int) = ((n : Int) - 1, -1) := by
  unfold Builtin.Slice.sliceAdjust
  simp
theorem places (n : Nat) : Builtin.Slice.slicePlaces ((n : Int) - 1) (-1) (-1) = n := by
  unfold Builtin.Slice.slicePlaces
  simp
  omega
theorem fm_map {α β : Type} {f : α → Option β} {g : α → β} : ∀ l : List α, (∀ m ∈ l, f m = some (g m)) → l.filterMap f = l.map g
  | [], _ => rfl
  | a :: l, h => by
    rw [List.filterMap_cons, h a List.mem_cons_self, List.map_cons, fm_map l fun m hm => h m (List.mem_cons_of_mem _ hm)]
theorem pick (xs : Array Value) : ((List.range xs.size).filterMap fun (m : Nat) => xs[(((xs.size : Int) - 1) + (m : Int) * (-1)).toNat]?) = xs.toList.reverse := by
  have e : ∀ m ∈ List.range xs.size, xs[(((xs.size : Int) - 1) + (m : Int) * (-1)).toNat]? = some (xs.toList.reverse[m]?.getD .none) := fun m hm => by
    rw [List.mem_range] at hm
    have h1 : (((xs.size : Int) - 1) + (m : Int) * (-1)).toNat = xs.size - 1 - m := by omega
    have h2 : m < xs.toList.reverse.length := by simpa using hm
    rw [h1, List.getElem?_eq_getElem h2, Option.getD_some, List.getElem_reverse]
    have h3 : xs.size - 1 - m < xs.size := by omega
    rw [Array.getElem?_eq_getElem h3]
    simp
  rw [fm_map _ e]
  apply List.ext_getElem?
  intro i
  rw [List.getElem?_map]
  by_cases h : i < xs.size
  · have h2 : i < xs.toList.reverse.length := by simpa using h
    rw [List.getElem?_range h, Option.map_some, List.getElem?_eq_getElem h2, Option.getD_some]
  · rw [List.getElem?_eq_none_iff.mpr (by simpa using Nat.le_of_not_lt h), List.getElem?_eq_none_iff.mpr (by simpa using Nat.le_of_not_lt h)]
    rfl
section
variable {prog : Program} {w : World} {A : Around} {E : Value → Shared → Prop} {s : Shared}
theorem applied {sl : Addr} {vl vu vs : Value} {n : Nat} {Q : Int × Int × Nat → Shared → Prop} (hs : s.heap.IsSliceOf sl vl vu vs) (pl : IsPart vl none) (pu : IsPart vu none) (ps : IsPart vs (some (-1))) (h : Q ((n : Int) - 1, -1, n) s) :
    wpAny (model prog w) A (Builtin.Slice.sliceApplied (.ref sl) (pure (n : Int))) Q E s := by
  obtain ⟨os, h1, h2, h3⟩ := hs
  unfold Builtin.Slice.sliceApplied Builtin.Slice.sliceFields
  refine wpAny_bind (wpAny_bind (wpAny_field h1 h3 (x := vl) rfl (wpAny_bind (wpAny_field h1 h3 (x := vu) rfl (wpAny_bind (wpAny_field h1 h3 (x := vs) rfl (wpAny_pure ?_)))))))
  refine wpAny_bind (slicePart_ ps ?_)
  show wpAny _ _ (if ((-1 : Int) == 0) = true then _ else _) _ _ s
  rw [if_neg (by decide : ¬ ((-1 : Int) == 0) = true)]
  refine wpAny_bind (slicePart_ pl (wpAny_bind (slicePart_ pu (wpAny_bind (wpAny_pure ?_)))))
  show wpAny _ _ (match Builtin.Slice.sliceAdjust none none (-1) (n : Int) with | (lo, hi) => pure (lo, (-1 : Int), Builtin.Slice.slicePlaces lo hi (-1))) _ _ s
  rw [adjust n]
  show wpAny _ _ (pure ((n : Int) - 1, (-1 : Int), Builtin.Slice.slicePlaces ((n : Int) - 1) (-1) (-1))) _ _ s
  rw [places]
  exact wpAny_pure h
theorem item {t sl : Addr} {items : Array Value} {vl vu vs : Value} {Q : Value → Shared → Prop} (ht : IsTup s.heap t items) (hs : s.heap.IsSliceOf sl vl vu vs) (pl : IsPart vl none) (pu : IsPart vu none) (ps : IsPart vs (some (-1))) (hz : items.size ≤ sizeLine)
    (h : Q (.ref s.heap.objs.size) { s with heap := s.heap.push { cls := .type "tuple", data := .seq items.toList.reverse.toArray } }) : wpAny (model prog w) A (getItem (.ref t) (.ref sl)) Q E s := by
  have hT : s.TypeIs (.ref sl) "slice" := ⟨hs.choose, hs.choose_spec.1, hs.choose_spec.2.1⟩
  have fits : sizeOk (.seq items.toList.reverse.toArray) := (show items.toList.reverse.toArray.size ≤ sizeLine by rw [List.size_toArray, List.length_reverse, Array.length_toList]; exact hz)
  unfold getItem
  first | with_reducible refine wpAny_holding ?_ | skip
  first | skip | refine wpAny_bind (wpAny_pure ?_)
  refine wpAny_bind (wpAny_sequenceKey ht.typeIs (by decide) (wpAny_bind (wpAny_callSpecial?_slot (name := Str.ofString "__getitem__") ht.typeIs PyProof.Rows.slot_tuple_getitem (wpAny_call_entry PyProof.Rows.slot_tuple_getitem ht.typeIs entry_tuple_getitem ?_ (args_tuple_getitem _ _)))))
  show wpAny _ _ (Builtin.Tuple.tupleItemsOf (.ref t) >>= _) _ _ s
  refine wpAny_bind (tupleItemsOf_ ht (wpAny_bind (wpAny_typeOf hT ?_)))
  rw [if_pos (by decide : (Value.type "slice" == Value.type "slice") = true)]
  refine wpAny_bind (applied hs pl pu ps ?_)
  have no : ¬ ((((items.size : Int) - 1) == 0 && (-1 : Int) == 1 && items.size == items.size) = true) := by simp
  show wpAny _ _ (if (((items.size : Int) - 1) == 0 && (-1 : Int) == 1 && items.size == items.size) = true then _ else _) _ _ s
  rw [if_neg no, pick]
  first
    | exact wpAny_bind (m := Builtin.Tuple.tupleExact _) (wpAny_newObj_type (wpAny_bind (wpAny_pure (wpAny_pure ⟨_, rfl, wpAny_pure h⟩))) fits)
    | exact wpAny_bind (m := Builtin.Tuple.tupleExact _) (wpAny_newObj_type (wpAny_pure ⟨_, rfl, wpAny_pure h⟩) fits)
    | exact wpAny_bind (wpAny_bind (m := Builtin.Tuple.tupleExact _) (wpAny_newObj_type (wpAny_pure (wpAny_pure ⟨_, rfl, wpAny_pure h⟩)) fits))
end
end TupBack
end PySem
set_option Elab.async false
set_option linter.all false
set_option maxRecDepth 100000
set_option maxHeartbeats 1000000
namespace PySem
namespace ExtTup
open AutoSeq1
end ExtTup
end PySem
namespace MI
open PySem PySem.Spec PyProof.Rows L2
section
variable {X : Cx} {G : Gx} {W : WX} {e a b c : Expr} {es : List Expr} {pos : Pos} {d da db dc : Den} {dr : DenL}
def fBack (w : MV) (S : Store) : Res MV := match w with
  | .tup l => .ok (.tup l.reverse) S
  | w => fRev w S
/-! ### enumerate, zip -/
def srcEnumL (k : Int) (l : List MV) : Src := fun i _ => match l[i]? with
  | some w => .yield (.tup [.int (k + i), w])
  | none => .stop
def srcEnumR (n : Nat) : Src := fun i S => match S[n]? with
  | some (.lst l) => (match l[i]? with
    | some w => .yield (.tup [.int i, w])
    | none => .stop)
  | some (.rol l) => (match l[i]? with
    | some w => .yield (.tup [.int i, w])
    | none => .stop)
  | _ => .stuck
def enumOf (ws : List MV) (S : Store) : Res Src := match ws with
  | [.tup l] => .ok (srcEnumL 0 l) S
  | [.ref n] => match S[n]? with
    | some (.lst _) => .ok (srcEnumR n) S
    | some (.rol _) => .ok (srcEnumR n) S
    | _ => .stuck
  | _ => .stuck
theorem pair_ok {ι : List Addr} {H : Hp} {S : Store} {T : Addr} {w1 w2 : MV} {v1 v2 : V} (s : Sim G ι H S) (hT : H T = none) (r1 : RW G ι H w1 v1) (r2 : RW G ι H w2 v2) : Post G ι H ι (upd H T (.tup [v1, v2])) S ∧ RW G ι (upd H T (.tup [v1, v2])) (.tup [w1, w2]) (.ref T) := by
  have q := s.lay hT (.tup [v1, v2])
  exact ⟨q, .tup (.of upd_same) (.cons (q.rw r1) (.cons (q.rw r2) .nil))⟩
theorem it_enumT {K : PySem.W.Frag} (hK : K = G.K) {ι : List Addr} {H : Hp} {a : Addr} {vs : List V} {l : List MV} {k : Int} (t : SqT K H a vs) (q : RWs G ι H l vs) : ItOk G ι H (IteT K a k) (srcEnumL k l) := fun i ι1 H1 S1 p => by
  subst hK
  have t1 := p.tup _ _ t
  have q1 := p.rws q
  unfold srcEnumL
  cases e : l[i]? with
  | some w =>
    obtain ⟨v, e2, r⟩ := q1.get e
    refine ⟨⟨vs, v, t1, e2⟩, fun x H' y => ?_⟩
    obtain ⟨T, x', rfl, hT, rfl, y⟩ := y
    have z := y vs t1
    rw [e2] at z
    cases z
    exact pair_ok p.sim hT (.int _) r
  | none =>
    refine ⟨vs, t1, ?_⟩
    rw [← q1.length]
    exact List.getElem?_eq_none_iff.mp e
theorem it_enumR {K : PySem.W.Frag} (hK : K = G.K) {ι : List Addr} {H : Hp} {a : Addr} {n : Nat} (t : ι[n]? = some a) : ItOk G ι H (Ite K a) (srcEnumR n) := fun i ι1 H1 S1 p => by
  subst hK
  have t1 := p.ext _ _ t
  have main : ∀ (l : List MV) (vs : List V), SqL G.K H1 a vs → RWs G ι1 H1 l vs → (match (match l[i]? with
    | some w => Nx.yield (.tup [.int i, w])
    | none => .stop) with
    | .yield w => (Ite G.K a).go i H1 ∧ ∀ x H', (Ite G.K a).yld i H1 x H' → Post G ι1 H1 ι1 H' S1 ∧ RW G ι1 H' w x
    | .stop => (Ite G.K a).stop i H1
    | .stuck => True) := fun l vs hs q1 => by
    cases e : l[i]? with
    | some w =>
      obtain ⟨v, e2, r⟩ := q1.get e
      refine ⟨⟨vs, v, hs, e2⟩, fun x H' y => ?_⟩
      obtain ⟨T, x', rfl, hT, rfl, y⟩ := y
      have z := y vs hs
      rw [e2] at z
      cases z
      exact pair_ok p.sim hT (.int _) r
    | none =>
      refine ⟨vs, hs, ?_⟩
      rw [← q1.length]
      exact List.getElem?_eq_none_iff.mp e
  unfold srcEnumR
  cases hS : S1[n]? with
  | none => trivial
  | some o =>
    cases o with
    | lst l =>
      obtain ⟨vs, g, q1⟩ := p.sim.obj _ _ _ hS t1
      exact main l vs (.of g) q1
    | rol l =>
      obtain ⟨o, vs, g, q1, _⟩ := p.sim.obj _ _ _ hS t1
      exact main l vs (.inl (.inr ⟨o, g⟩)) q1
    | dic kvs => trivial
    | ins c fs => trivial
    | tpo l => trivial
    | tpp l => trivial
    | dct kvs => trivial
    | fdt kvs => trivial
    | set zs => trivial
theorem di_enum {p tpos : Pos} {elts : List Expr} {kk : Nat} (hK : X.K = G.K) (hg : Gl X "enumerate") (hm : X.mg "enumerate" = none) (ha : DA X G W [a] dr) (hs : starEach [a] X.env = [(false, eval a X.env)] := by rfl) :
    DI X G W (.Tuple elts kk tpos) (.Call (.Name "enumerate" p) [a] [] pos) (iRng enumOf dr) := ⟨PI.imp (pi_enumA hg hm ha.run hs) fun σ H R h => by
  obtain ⟨ι, S, ρ, s, re, h⟩ := h
  refine ⟨ι, S, ρ, s, re, (fin.bind h).mono fun ws ι1 H1 S1 p _ h1 vs r => ?_⟩
  obtain ⟨S1, s1, _, _, _, h1⟩ := h1
  unfold enumOf at h1
  split at h1
  · obtain ⟨v, rfl, r1⟩ := rws1 r
    cases r1 with
    | tup t q => exact .inr ⟨_, _, rfl, by rw [hK]; exact t, h1 ι1 H1 (.refl s1) _ (it_enumT hK (by rw [hK]; exact t) q)⟩
  · obtain ⟨v, rfl, r1⟩ := rws1 r
    cases r1 with
    | ref i =>
      split at h1
      · rename_i hS
        obtain ⟨vs, g, q⟩ := s1.obj _ _ _ hS i
        exact .inl ⟨_, vs, rfl, .of g, h1 ι1 H1 (.refl s1) _ (it_enumR hK i)⟩
      · rename_i hS
        obtain ⟨o, vs, g, q, _⟩ := s1.obj _ _ _ hS i
        exact .inl ⟨_, vs, rfl, .inl (.inr ⟨o, g⟩), h1 ι1 H1 (.refl s1) _ (it_enumR hK i)⟩
      · exact h1.elim
  · exact h1.elim⟩
def srcZipT (l m : List MV) : Src := fun i _ => match l[i]?, m[i]? with
  | some w, some u => .yield (.tup [w, u])
  | _, _ => .stop
def zipOf (ws : List MV) (S : Store) : Res Src := match ws with
  | [.tup l, .tup m] => .ok (srcZipT l m) S
  | _ => .stuck
/-! ### *e among items -/
def aStar (d : Den) (r : DenL) : DenL := fun ρ S => (d ρ S).bind fun w S1 => match itemsOf w S1 with
  | some l => (r ρ S1).bind fun ws S2 => .ok (l ++ ws) S2
  | none => .stuck
theorem da_star {p : Pos} (hK : X.K = G.K) (ha : DE X G W a da) (hr : DA X G W es dr) (hs : starEach (.Starred a p :: es) X.env = (true, eval a X.env) :: starEach es X.env := by rfl) : DA X G W (.Starred a p :: es) (aStar da dr) := ⟨PA.imp (StX.pa_star ha.run hr.run hs) fun σ H Q h => by
  obtain ⟨ι, S, ρ, s, re, h⟩ := h
  refine ⟨ι, S, ρ, s, re, (fin.bind h).mono fun w ι1 H1 S1 p _ h1 v r => ?_⟩
  obtain ⟨S1, s1, m1, re1, _, h1⟩ := h1
  split at h1
  · rename_i l e
    obtain ⟨x, us, rfl, t, q⟩ := items_ok s1 r e
    refine ⟨x, us, rfl, by rw [hK]; exact t.symm, ι1, S1, ρ, s1, re1 _ _ re, (fin.bind h1).mono fun ws ι2 H2 S2 p2 _ h2 vs rs => ?_⟩
    obtain ⟨S2, s2, m2, _, _, h2⟩ := h2
    exact h2 ι2 H2 (.refl s2) _ ((q.mono (fun n a e => by
      have := m2 (.ref n) (.ref a) (.ref e)
      cases this with
      | ref z => exact z) (fun a xs t => p2.tup a xs t)).append rs)
  · exact h1.elim⟩
/-! ### all, any over a list of True and False -/
def bools : List MV → Option (List Bool)
  | [] => some []
  | .bl k :: l => (bools l).map (k :: ·)
  | _ :: _ => none
theorem bools_ok {ι : List Addr} {H : Hp} : ∀ {l : List MV} {vs : List V} {bs : List Bool}, RWs G ι H l vs → bools l = some bs → vs = bs.map V.bl
  | [], _, bs, r, e => by cases r; cases e; rfl
  | w :: l, _, bs, r, e => by
    cases r with
    | cons r1 r2 =>
      cases w with
      | bl k =>
        cases r1
        unfold bools at e
        cases e2 : bools l with
        | none => rw [e2] at e; cases e
        | some bs2 =>
          rw [e2] at e
          cases e
          rw [bools_ok r2 e2]
          rfl
      | non => cases e
      | int i => cases e
      | str s => cases e
      | tup l => cases e
      | ref n => cases e
      | out k => cases e
def fAllAny (f : List Bool → Bool) : FnM := fun ws S => match ws with
  | [.ref n] => match S[n]? with
    | some (.lst l) => match bools l with
      | some bs => .ok (.bl (f bs)) S
      | none => .stuck
    | _ => .stuck
  | _ => .stuck
theorem w_allAny (f : List Bool → Bool) : ClW G (fAllAny f) (fun vs H Q => ∃ (a : Addr) (bs : List Bool), vs = [V.ref a] ∧ SqL G.K H a (bs.map V.bl) ∧ Q (.bl (f bs)) H) := fun ι H S E Q ws vs s r h => by
  unfold fAllAny at h
  split at h
  · obtain ⟨v, rfl, r1⟩ := rws1 r
    cases r1 with
    | ref i =>
      split at h
      · rename_i hS
        obtain ⟨us, g, q⟩ := s.obj _ _ _ hS i
        split at h
        · rename_i bs e
          have z := bools_ok q e
          subst z
          exact ⟨_, bs, rfl, .of g, h ι H (.refl s) _ (.bl _)⟩
        · exact h.elim
      · exact h.elim
  · exact h.elim
theorem de_all {p : Pos} (hK : X.K = G.K) (hc : X.calm = true) (hg : Gl X "all") (hm : X.mg "all" = none) (ha : DA X G W (a :: es) dr)
    (he : starEach (a :: es) X.env = (false, eval a X.env) :: starEach es X.env := by rfl) (hpl : (backTo pos (starEach es X.env)).any (·.1) = false := by rfl) : DE X G W (.Call (.Name "all" p) (a :: es) [] pos) (dCall (fAllAny fun bs => bs.all id) dr) :=
  de_callB (cr_all hc) (by rw [hK]; exact w_allAny _) hg hm (by decide +kernel) ha (by decide) (by decide) he hpl
end
end MI
set_option Elab.async false
set_option linter.all false
set_option maxRecDepth 100000
set_option maxHeartbeats 1000000
namespace MI
open PySem PySem.Spec PyProof.Rows L2
section
variable {X : Cx} {G : Gx} {W : WX} {e a b c : Expr} {es : List Expr} {pos : Pos} {d da db dc : Den} {dr : DenL}
/-! ### a op b op c -/
theorem chain_imp {f g : MV → MV → Store → Res MV} {r r' : R2} (h1 : OpW G f r) (h2 : OpW G g r') {σ : L2.St} {H : Hp} {Q : VK} (h : tD G W (dChain f g da db dc) σ H Q) : tChain r r' (tD G W da) (tD G W db) (tD G W dc) σ H Q := by
  obtain ⟨ι, S, ρ, s, re, h⟩ := h
  refine ⟨ι, S, ρ, s, re, (fin.bind h).mono fun w1 ι1 H1 S1 p _ k1 v1 r1 => ?_⟩
  obtain ⟨S1, s1, m1, n1, _, k1⟩ := k1
  have re1 := n1 _ _ re
  refine ⟨ι1, S1, ρ, s1, re1, (fin.bind k1).mono fun w2 ι2 H2 S2 p2 _ k2 v2 r2 => ?_⟩
  obtain ⟨S2, s2, m2, n2, _, k2⟩ := k2
  have re2 := n2 _ _ re1
  refine h1 ι2 H2 S2 (fun c x H' => W c x σ H') _ w1 w2 v1 v2 s2 (m2 _ _ r1) r2 ((fin.bind k2).mono fun w3 ι3 H3 S3 p3 _ k3 v3 r3 => ?_)
  obtain ⟨S3, s3, m3, n3, _, k3⟩ := k3
  split at k3
  · cases r3
    refine ⟨true, rfl, ?_⟩
    rw [if_pos rfl]
    refine ⟨ι3, S3, ρ, s3, n3 _ _ re2, (fin.bind k3).mono fun w4 ι4 H4 S4 p4 _ k4 v4 r4 => ?_⟩
    obtain ⟨S4, s4, m4, _, _, k4⟩ := k4
    exact h2 ι4 H4 S4 _ Q w2 w4 v2 v4 s4 (m4 _ _ (m3 _ _ r2)) r4 k4
  · cases r3
    refine ⟨false, rfl, ?_⟩
    rw [if_neg Bool.false_ne_true]
    exact k3 ι3 H3 (.refl s3) _ (.bl _)
  · exact k3.elim
theorem de_chain {op op' : CmpOp} {f g : MV → MV → Store → Res MV} (k : CmpOk X G op f) (k' : CmpOk X G op' g) (ha : DE X G W a da) (hb : DE X G W b db) (hc : DE X G W c dc) (hm : lastMarks [op, op'] [b, c] = false := by with_unfolding_all rfl) :
    DE X G W (.Compare a [op, op'] [b, c] pos) (dChain f g da db dc) := by
  obtain ⟨r, h1, h2⟩ := k.ex
  obtain ⟨r', h1', h2'⟩ := k'.ex
  exact ⟨PE.imp (pe_chain h1 h1' ha.run hb.run hc.run hm) fun _ _ _ h => chain_imp h2 h2' h⟩
theorem dt_chain {op op' : CmpOp} {f g : MV → MV → Store → Res MV} (k : CmpOk X G op f) (k' : CmpOk X G op' g) (ha : DE X G W a da) (hb : DE X G W b db) (hc : DE X G W c dc) (hm : lastMarks [op, op'] [b, c] = false := by with_unfolding_all rfl) :
    DT X G W (.Compare a [op, op'] [b, c] pos) (fun ρ S => (dChain f g da db dc ρ S).bind boolOf) := by
  obtain ⟨r, h1, h2⟩ := k.ex
  obtain ⟨r', h1', h2'⟩ := k'.ex
  exact ⟨PT.imp (pt_chain h1 h1' ha.run hb.run hc.run hm) fun _ _ _ h => chain_imp h2 h2' (test_imp h)⟩
/-! ### a dict that the top has written -/
structure WTab (G : Gx) (w : World) (d : Addr) (tbl : List (Str × MV)) : Prop where
  kd : ∃ es n, KDict G.K w d es n
  yes : ∀ z w', tbl.lookup z = some w' → ∃ u v, PySem.W.nsIn G.K d z = some (some u) ∧ RelV v u ∧ KC G w' v
  no : ∀ z, tbl.lookup z = none → PySem.W.nsIn G.K d z = some none
def fInK (tbl : List (Str × MV)) (w : MV) (S : Store) : Res MV := match w with
  | .str z => .ok (.bl (tbl.lookup z).isSome) S
  | _ => .stuck
def fIxK (tbl : List (Str × MV)) (w : MV) (S : Store) : Res MV := match w with
  | .str z => match tbl.lookup z with
    | some w' => .ok w' S
    | none => .stuck
  | _ => .stuck
theorem WTab.some_ {w : World} {d : Addr} {tbl : List (Str × MV)} (T : WTab G w d tbl) (z : Str) : ∃ r, PySem.W.nsIn G.K d z = some r ∧ r.isSome = (tbl.lookup z).isSome := by
  cases e : tbl.lookup z with
  | none => exact ⟨none, T.no z e, rfl⟩
  | some w' =>
    obtain ⟨u, v, h, _⟩ := T.yes z w' e
    exact ⟨some u, h, rfl⟩
theorem inK_imp {d : Addr} {tbl : List (Str × MV)} (T : WTab G X.w d tbl) {σ : L2.St} {H : Hp} {Q : VK} (h : tD G W (dUn (fInK tbl) da) σ H Q) :
    tOp (fun x y H Q => ∃ (z : Str) (r : Option Value), x = .str z ∧ y = .ref d ∧ PySem.W.nsIn G.K d z = some r ∧ Q (.bl r.isSome) H) (tD G W da) (tC (.ref d)) σ H Q := by
  obtain ⟨ι, S, ρ, s, re, h⟩ := h
  refine ⟨ι, S, ρ, s, re, (fin.bind h).mono fun w1 ι1 H1 S1 p _ k1 v1 r1 => ?_⟩
  obtain ⟨S1, s1, m1, n1, _, k1⟩ := k1
  unfold fInK at k1
  split at k1
  · cases r1
    obtain ⟨r, e1, e2⟩ := T.some_ _
    exact ⟨_, r, rfl, rfl, e1, by rw [e2]; exact k1 ι1 H1 (.refl s1) _ (.bl _)⟩
  · exact k1.elim
variable {x : Str} {p : Pos} {dd : Addr} {tbl : List (Str × MV)}
theorem de_inK (hK : X.K = G.K) (T : WTab G X.w dd tbl) (hg : Gl X x) (hm : X.mg x = some (.ref dd)) (ha : DE X G W a da) (hd : (x == ("__debug__" : Str)) = false := by decide) (hb : behindInMarks .In (.Name x p) = false := by rfl) : DE X G W (.Compare a [.In] [.Name x p] pos) (dUn (fInK tbl) da) := by
  obtain ⟨es, n, D⟩ := T.kd
  exact ⟨PE.imp (pe_cmpR (op_in_kd (hK ▸ D)) ha.run (pe_glob (v := .ref dd) hg hm rfl hd) hb) fun _ _ _ h => by rw [hK]; exact inK_imp T h⟩
theorem de_ixK (hK : X.K = G.K) (T : WTab G X.w dd tbl) (hg : Gl X x) (hm : X.mg x = some (.ref dd)) (ha : DE X G W a da) (hs : PlainIx a := by exact fun _ _ => rfl) (hd : (x == ("__debug__" : Str)) = false := by decide) : DE X G W (.Subscript (.Name x p) a pos) (dUn (fIxK tbl) da) := by
  obtain ⟨es, n, D⟩ := T.kd
  refine ⟨PE.imp (pe_ix ix_kdict (pe_glob (v := .ref dd) hg hm rfl hd) ha.run hs) fun σ H Q h => ?_⟩
  obtain ⟨ι, S, ρ, s, re, h⟩ := h
  refine ⟨ι, S, ρ, s, re, (fin.bind h).mono fun w1 ι1 H1 S1 p _ k1 v1 r1 => ?_⟩
  obtain ⟨S1, s1, m1, n1, _, k1⟩ := k1
  unfold fIxK at k1
  split at k1
  · cases r1
    split at k1
    · rename_i w' e
      obtain ⟨u, v, h1, h2, h3⟩ := T.yes _ _ e
      exact ⟨dd, _, v, rfl, rfl, ⟨es, n, u, by rw [hK]; exact D.at_, D.lit, by rw [hK]; exact h1, h2⟩, k1 ι1 H1 (.refl s1) v (h3 ι1 H1)⟩
    · exact k1.elim
  · exact k1.elim
/-! ### isinstance of an own class -/
structure OwnCls (K : PySem.W.Frag) (C : Addr) : Prop where
  cl : Cls K C
  ha : PySem.W.findIn K (.ref C) "__class__" = some (some (.builtin "object.__class__"))
  hn : PySem.W.specialIn K (.builtin "object.__class__") "__get__" = some (some (.builtin "getset_descriptor.__get__"))
  ht : PySem.W.takesIn K (.builtin "object.__class__") = some true
  hm : PySem.W.mroIn K C (.type "object") = some true
  me : PySem.W.kitOne K (.ref C) (.ref C) = some true
  no : ∀ t ∈ ["NoneType", "bool", "int", "str", "tuple", "list", "dict"], PySem.W.kitOne K (.type t) (.ref C) = some false
/-! ### tuples that the top has written -/
theorem kc_tup {ad : Addr} {dct : Option Addr} {its : List Value} {n : Nat} {sl : Array (Option Value)} {l : List MV} {vs : List V} (hk : G.K.lookup ad = some ⟨.type "tuple", dct, .seq its.toArray n, sl⟩) (hz : its.length ≤ 100000) (hv : Vals vs its) (hl : ∀ ι H, RWs G ι H l vs) : KC G (.tup l) (.ref ad) := fun ι H => by
  refine .tup (.inr ⟨_, its.toArray, n, hk, rfl, rfl, ?_, by simpa using hv⟩) (hl ι H)
  rw [List.size_toArray]
  exact big_ok hz
end
end MI
set_option Elab.async false
set_option linter.all false
set_option maxRecDepth 100000
set_option maxHeartbeats 1000000
namespace MI
open PySem PySem.Spec PyProof.Rows L2
theorem kit_str : ∀ t ∈ ["NoneType", "bool", "int", "str", "tuple", "list", "dict"], kitB t "str" = some (isTy t "str") := by decide +kernel
theorem kit_int : ∀ t ∈ ["NoneType", "bool", "int", "str", "tuple", "list", "dict"], kitB t "int" = some (isTy t "int") := by decide +kernel
theorem kit_bool : ∀ t ∈ ["NoneType", "bool", "int", "str", "tuple", "list", "dict"], kitB t "bool" = some (isTy t "bool") := by decide +kernel
theorem kit_tuple : ∀ t ∈ ["NoneType", "bool", "int", "str", "tuple", "list", "dict"], kitB t "tuple" = some (isTy t "tuple") := by decide +kernel
theorem kit_list : ∀ t ∈ ["NoneType", "bool", "int", "str", "tuple", "list", "dict"], kitB t "list" = some (isTy t "list") := by decide +kernel
section
variable {X : Cx} {G : Gx} {W : WX} {a b : Expr} {pos : Pos} {da db : Den}
/-! ### -a, a * b -/
def fNeg (w : MV) (S : Store) : Res MV := match w with
  | .int i => .ok (.int (-i)) S
  | _ => .stuck
theorem de_neg (ha : DE X G W a da) : DE X G W (.UnaryOp .USub a pos) (dUn fNeg da) := de_un un_neg (fun ι H S E Q w1 v1 s r h => by
  unfold fNeg at h
  split at h
  · cases r
    exact ⟨_, rfl, h ι H (.refl s) _ (.int _)⟩
  · exact h.elim) ha
theorem rws_rep {ι : List Addr} {H : Hp} {l : List MV} {vs : List V} (r : RWs G ι H l vs) : ∀ n : Nat, RWs G ι H (List.replicate n l).flatten (List.replicate n vs).flatten
  | 0 => .nil
  | n + 1 => by
    rw [List.replicate_succ, List.replicate_succ, List.flatten_cons, List.flatten_cons]
    exact r.append (rws_rep r n)
theorem de_mul (hK : X.K = G.K) (ha : DE X G W a da) (hb : DE X G W b db) : DE X G W (.BinOp a .Mult b pos) (dBin fMul da db) := by
  refine de_op (OpR.or op_mul (OpR.or op_repT op_rep)) ?_ ha hb
  rw [hK]
  intro ι H S E Q w1 w2 v1 v2 s r1 r2 h
  unfold fMul at h
  split at h
  · cases r1
    cases r2
    split at h
    · rename_i i j hz
      refine .inl ⟨_, _, rfl, rfl, ?_, h ι H (.refl s) _ (.int _)⟩
      simp only [Bool.or_eq_true, Bool.and_eq_true, decide_eq_true_eq] at hz
      exact hz
    · exact h.elim
  · cases r1 with
    | tup t q =>
      cases r2
      split at h
      · rename_i l k hz
        simp only [Bool.and_eq_true, decide_eq_true_eq] at hz
        obtain ⟨z1, z2, z3, z4⟩ := hz
        refine .inr (.inl ⟨_, _, _, rfl, rfl, t, fun e => z1 ?_, z2, z3, by rw [← q.length]; exact z4, new_tup s (rws_rep q _) h⟩)
        subst e
        cases q
        rfl
      · exact h.elim
  · cases r1 with
    | ref i =>
      cases r2
      split at h
      · rename_i l hS
        obtain ⟨vs, g, q⟩ := s.obj _ _ _ hS i
        split at h
        · rename_i k _ _ hz
          simp only [Bool.and_eq_true, decide_eq_true_eq] at hz
          obtain ⟨z1, z2, z3⟩ := hz
          refine .inr (.inr ⟨_, _, vs, rfl, rfl, g, by omega, by omega, ?_, new_lst s (rws_rep q _) h⟩)
          rw [← q.length]
          have hk : k.toNat ≤ 100 := by omega
          exact Nat.le_trans (Nat.mul_le_mul z3 hk) (by rw [sizeLine_eq]; decide)
        · exact h.elim
      · exact h.elim
  · exact h.elim
end
theorem fn_stuck {P : Program} {w : World} {K : PySem.W.Frag} {mg : Str → Option Value} {base : Heap} {G : Gx} {CX : CXT} {k : Nat} {f : Addr} {fd : FuncData} {ps : List Str} : FnOk P w K mg base CX k f fd ps (spF G fun _ _ => .stuck) where
  len := fun vs H Q E h => by
    obtain ⟨ι, S, ws, s, r, h⟩ := h
    exact h.elim
  run := fun A outer s H args us vs Q E hr e0 hb r h => by
    obtain ⟨ι, S, ws, s, r, h⟩ := h
    exact h.elim
end MI
set_option Elab.async false
set_option linter.all false
set_option maxRecDepth 100000
/-! What the top has written, seen by one kernel run; the end of a law whose def has a denotation. -/
namespace MI
open PySem PySem.Spec PyProof.Rows L2
abbrev Fr := PySem.W.Frag
/-! ### values -/
def kcBs (f : MV → Value → Bool) : List MV → List Value → Bool
  | [], [] => true
  | w :: ws, u :: us => f w u && kcBs f ws us
  | _, _ => false
def kcB (K : Fr) : Nat → MV → Value → Bool
  | 0, _, _ => false
  | n + 1, w, u => match w, u with
    | .non, .none => true
    | .bl b, .bool c => decide (b = c)
    | .int i, .int j _ => decide (i = j)
    | .str x, .str y _ => decide (x = y)
    | .tup l, .ref a => (match K.lookup a with
      | some ⟨.type c, _, .seq its _, _⟩ => decide (c = "tuple") && (decide (its.toList.length ≤ 100000) && kcBs (kcB K n) l its.toList)
      | _ => false)
    | _, _ => false
def RelK (K : Fr) (w : MV) (u : Value) : Prop := ∃ v, RelV v u ∧ ∀ ct os ow, KC ⟨K, ct, os, ow⟩ w v
theorem kcBs_ok {K : Fr} {f : MV → Value → Bool} (hf : ∀ w u, f w u = true → RelK K w u) : ∀ {ws : List MV} {us : List Value}, kcBs f ws us = true → ∃ vs, Vals vs us ∧ ∀ ct os ow ι H, RWs ⟨K, ct, os, ow⟩ ι H ws vs
  | [], [], _ => ⟨[], .nil, fun _ _ _ _ _ => .nil⟩
  | [], _ :: _, h => by cases h
  | _ :: _, [], h => by cases h
  | w :: ws, u :: us, h => by
    unfold kcBs at h
    obtain ⟨h1, h2⟩ := Bool.and_eq_true_iff.mp h
    obtain ⟨v, r, k⟩ := hf w u h1
    obtain ⟨vs, rs, ks⟩ := kcBs_ok hf h2
    exact ⟨v :: vs, .cons r rs, fun ct os ow ι H => .cons (k ct os ow ι H) (ks ct os ow ι H)⟩
theorem kcB_ok {K : Fr} : ∀ {n : Nat} {w : MV} {u : Value}, kcB K n w u = true → RelK K w u
  | 0, _, _, h => by cases h
  | n + 1, w, u, h => by
    unfold kcB at h
    split at h
    · exact ⟨.non, rfl, fun _ _ _ _ _ => .non⟩
    · have e := of_decide_eq_true h
      subst e
      exact ⟨.bl _, rfl, fun _ _ _ _ _ => .bl _⟩
    · have e := of_decide_eq_true h
      subst e
      exact ⟨.int _, ⟨_, rfl⟩, fun _ _ _ _ _ => .int _⟩
    · have e := of_decide_eq_true h
      subst e
      exact ⟨.str _, ⟨_, rfl⟩, fun _ _ _ _ _ => .str _⟩
    · split at h
      · rename_i l a _ c dct its m sl q
        obtain ⟨h1, h2⟩ := Bool.and_eq_true_iff.mp h
        obtain ⟨h3, h4⟩ := Bool.and_eq_true_iff.mp h2
        obtain ⟨vs, rs, ks⟩ := kcBs_ok (fun w u => kcB_ok (n := n)) h4
        have e1 : c = "tuple" := of_decide_eq_true h1
        subst e1
        exact ⟨.ref a, rfl, fun ct os ow => kc_tup (G := ⟨K, ct, os, ow⟩) (its := its.toList) (by rw [Array.toArray_toList]; exact q) (of_decide_eq_true h3) rs (ks ct os ow)⟩
      · cases h
    · cases h
def conK (K : Fr) (x : Str) (w : MV) : Bool := match PySem.W.nsIn K mainGlobals x with
  | some (some u) => kcB K 9 w u
  | _ => false
theorem conK_ok {K : Fr} {h : Heap} {mg : Str → Option Value} {x : Str} {w : MV} (X : K.In h) (G : h.Ns mainGlobals mg) (c : conK K x w = true) : ∃ u v, mg x = some u ∧ RelV v u ∧ ∀ ct os ow, KC ⟨K, ct, os, ow⟩ w v := by
  unfold conK at c
  split at c
  · rename_i u e
    obtain ⟨v, r, k⟩ := kcB_ok c
    exact ⟨u, v, PySem.W.mg_of X G e, r, k⟩
  · cases c
/-! ### a written dict -/
def tabK (K : Fr) (d : Addr) (tbl : List (Str × MV)) : Bool := (tbl.all fun q => match PySem.W.nsIn K d q.1 with
    | some (some u) => kcB K 9 q.2 u
    | _ => false) && (match K.lookup d with
  | some ⟨_, _, .dict es _, _⟩ => es.toList.all fun e => (match e.key with
    | .str x _ => (tbl.lookup x).isSome
    | _ => false)
  | _ => false)
theorem lookup_in {α β : Type} [BEq α] [LawfulBEq α] : ∀ {l : List (α × β)} {a : α} {b : β}, l.lookup a = some b → (a, b) ∈ l
  | (c, d) :: r, a, b, h => by
    rw [List.lookup_cons] at h
    split at h
    · rename_i e
      cases h
      rw [beq_iff_eq.mp e]
      exact List.mem_cons_self
    · exact List.mem_cons_of_mem _ (lookup_in h)
theorem tabK_ok {K : Fr} {w : World} {d : Addr} {tbl : List (Str × MV)} (kd : ∃ es n, KDict K w d es n) (c : tabK K d tbl = true) (ct : Str → Option Addr) (os : List Addr) (ow : Option World) : WTab ⟨K, ct, os, ow⟩ w d tbl := by
  unfold tabK at c
  obtain ⟨c1, c2⟩ := Bool.and_eq_true_iff.mp c
  refine ⟨kd, fun z w' e => ?_, fun z e => ?_⟩
  · have h := List.all_eq_true.mp c1 _ (lookup_in e)
    split at h
    · rename_i u q
      obtain ⟨v, r, k⟩ := kcB_ok h
      exact ⟨u, v, q, r, k ct os ow⟩
    · cases h
  · show PySem.W.nsIn K d z = some none
    unfold PySem.W.nsIn
    split at c2
    · rename_i o1 o2 es m o3 q
      rw [q]
      have ha := List.all_eq_true.mp c2
      have hk : ∀ e ∈ es.toList, ∃ x t, e.key = .str x t ∧ x ≠ z := fun e he => by
        have h := ha e he
        split at h
        · rename_i x t q2
          refine ⟨x, t, q2, fun y => ?_⟩
          subst y
          rw [‹tbl.lookup _ = none›] at h
          cases h
        · cases h
      have hf : es.toList.find? (fun e => e.key.isStr z) = none := by
        rw [List.find?_eq_none]
        intro e he
        obtain ⟨x, t, q2, ne⟩ := hk e he
        rw [q2]
        simpa [Value.isStr] using ne
      have hr : es.toList.any (fun e => e.refKey) = false := by
        rw [List.any_eq_false]
        intro e he
        obtain ⟨x, t, q2, ne⟩ := hk e he
        simp [DictEntry.refKey, q2]
      show (match es.toList.find? (fun e => e.key.isStr z) with
        | some e => some (some e.val)
        | none => if es.toList.any (fun e => e.refKey) then none else some none) = some none
      rw [hf, hr]
      rfl
    · cases c2
/-! ### defs -/
structure Df where
  at_ : Fr → Addr
  x : Str
  qual : Str
  st : Stmt
abbrev DfV : Type := Option (Str × Str × Arguments × FuncBody × Scope × Addr × List (Str × Addr) × Value × Addr)
def Df.seen (K : Fr) (d : Df) : DfV := match K.lookup (d.at_ K) with
  | some ⟨_, _, .func g, _⟩ => some (g.name, g.qualname, g.params, g.body, g.scope, g.globals, g.closure, g.defaults, g.builtins)
  | _ => none
def Df.due (d : Df) : DfV := some (d.x, d.qual, defArgs d.st, .stmts (defBody d.st), defScope d.st, mainGlobals, [], .none, builtinsNs)
def Df.held (K : Fr) (d : Df) : Bool := PySem.W.keepIn K (.ref (d.at_ K)) && (match K.lookup (d.at_ K) with
  | some ⟨_, _, .func g, _⟩ => PySem.W.codeIn K g.code d.qual
  | _ => false)
theorem Df.fun_ {K : Fr} {d : Df} (e : d.seen K = d.due) (c : d.held K = true) : ∃ fd, Fun K d.x d.qual d.st (d.at_ K) fd := by
  unfold Df.held at c
  obtain ⟨kp, c2⟩ := Bool.and_eq_true_iff.mp c
  unfold Df.seen Df.due at e
  split at c2
  · rename_i oc od g sl q
    rw [q] at e
    obtain ⟨n1, n2, n3, n4, n5, n6, n7, n8, n9, n10, n11, n12, n13, n14, n15⟩ := g
    simp only [Option.some.injEq, Prod.mk.injEq] at e
    obtain ⟨h1, h2, h3, h4, h5, h6, h7, h8, h9⟩ := e
    subst h1 h2 h3 h4 h5 h6 h7 h8 h9
    exact ⟨_, fun_mk q c2 kp⟩
  · cases c2
/-! ### the look -/
def noLst (K : Fr) : Bool := K.all fun q => match q.2.cls with
  | .type c => !decide (c = "list")
  | _ => true
theorem noLst_ok {K : Fr} (h : noLst K = true) {a : Addr} {o : Obj} (e : K.lookup a = some o) : o.cls ≠ .type "list" := fun z => by
  have h2 := List.all_eq_true.mp h _ (lookup_in e)
  rw [z] at h2
  simp at h2
abbrev Seen : Type := He.AlT × Bool × List DfV
def lookM (fa : List He.Fa) (ts : List He.Tab) (ex : Fr → Bool) (fs : List Df) (K : Fr) : Seen := (He.obsT fa [] ts K, ex K && (noLst K && fs.all fun d => d.held K), fs.map fun d => d.seen K)
def dueM (ts : List He.Tab) (fs : List Df) (w : World) : Seen := (He.valT [] ts w, true, fs.map Df.due)
structure Told (fa : List He.Fa) (ts : List He.Tab) (ex : Fr → Bool) (fs : List Df) (w : World) (K : Fr) : Prop where
  t : He.SaysT fa [] ts w K
  ex : ex K = true
  no : noLst K = true
  hd : ∀ d ∈ fs, d.held K = true
  sn : ∀ (i : Nat) (d : Df), fs[i]? = some d → Df.seen K d = d.due
theorem told_of {fa : List He.Fa} {ts : List He.Tab} {ex : Fr → Bool} {fs : List Df} {w : World} {K : Fr} (e : lookM fa ts ex fs K = dueM ts fs w) : Told fa ts ex fs w K := by
  have e1 : He.obsT fa [] ts K = He.valT [] ts w := congrArg (fun z : Seen => z.1) e
  have e2 : (ex K && (noLst K && fs.all fun d => d.held K)) = true := congrArg (fun z : Seen => z.2.1) e
  have e3 : fs.map (fun d => d.seen K) = fs.map Df.due := congrArg (fun z : Seen => z.2.2) e
  obtain ⟨h1, h2⟩ := Bool.and_eq_true_iff.mp e2
  obtain ⟨h3, h4⟩ := Bool.and_eq_true_iff.mp h2
  refine ⟨e1, h1, h3, fun d hd => List.all_eq_true.mp h4 d hd, fun i d hi => ?_⟩
  have e4 : (fs.map (fun d => d.seen K))[i]? = (fs.map Df.due)[i]? := by rw [e3]
  rw [List.getElem?_map, List.getElem?_map, hi] at e4
  exact Option.some.inj e4
theorem Told.df {fa : List He.Fa} {ts : List He.Tab} {ex : Fr → Bool} {fs : List Df} {w : World} {K : Fr} (c : Told fa ts ex fs w K) (i : Nat) {d : Df} (h : fs[i]? = some d := by rfl) : ∃ fd, Fun K d.x d.qual d.st (d.at_ K) fd :=
  Df.fun_ (c.sn i d h) (c.hd d (List.mem_of_getElem? h))
/-! ### the end -/
theorem cx_never {P : Program} {w : World} {H : Hp} {s : Shared} {e : Value} {s' : Shared} (h : L2.CX P w [] H s (fun _ _ _ => False) e s') : False := by
  obtain ⟨_, _, _, _, _, _, _, _, _, _, _, _, z⟩ := h
  exact z
theorem rws_ints {G : Gx} {ι : List Addr} {H : Hp} : ∀ ns : List Int, RWs G ι H (ns.map MV.int) (ns.map V.int)
  | [] => .nil
  | i :: r => .cons (.int i) (rws_ints r)
theorem fun_bindsA {K : Fr} {x qual : Str} {st : Stmt} {f : Addr} {fd : FuncData} {ps : List Str} (F : Fun K x qual st f fd)
    (h : ∀ (kV doc pm : Value) (an : Option Addr) (cdv ct : Value) (us : List Value), us.length = ps.length → bindArgs (PySem.W.fnOf x qual (defArgs st) (defBody st) (defScope st) .none kV doc pm an cdv ct) ⟨us, []⟩ = pure (ps.zip us)) (s : Shared) (us : List Value) (hl : us.length = ps.length) : BindsTo s fd ⟨us, []⟩ (ps.zip us) := by
  obtain ⟨_, _, kV, doc, pm, an, cdv, ct, _, rfl, _⟩ := F.ex
  exact .of_eq (h kV doc pm an cdv ct us hl)
theorem end_ok {K : Fr} {ct : Str → Option Addr} {os : List Addr} {ow : Option World} (no : noLst K = true) {H : Hp} {a : Addr} {ns : List Int} {g : FnM} {S' : Store} (hO : Only H) (hS : SqL K H a (ns.map V.int)) (hg : g [.ref 0] [.rol (ns.map MV.int)] = .ok (.bl true) S') :
    spF ⟨K, ct, os, ow⟩ g [.ref a] H (fun v _ => v = .bl true) fun _ _ _ => False := by
  have hz : ∃ o, H a = some (.frz o (.lst (ns.map V.int))) := by
    rcases hS with (h | h) | ⟨o, its, n, e, q, _⟩
    · rcases hO a with z | ⟨o, xs, z⟩ <;> (rw [h] at z; cases z)
    · exact h
    · exact absurd q (noLst_ok no e)
  obtain ⟨o, hz⟩ := hz
  refine ⟨[a], [.rol (ns.map MV.int)], [.ref 0], ⟨rfl, by simp, fun n mo b h1 h2 => ?_⟩, .cons (.ref rfl) .nil, ?_⟩
  · match n, h1, h2 with
    | 0, h1, h2 =>
      cases h1
      cases h2
      exact ⟨o, _, hz, rws_ints ns, fun w hw => by obtain ⟨i, _, rfl⟩ := List.mem_map.mp hw; exact ⟨i, rfl⟩⟩
  · rw [hg]
    intro ι' H' p v r
    cases r
    rfl
theorem walkM {l : PySem.W.OpenLaw} {n k : Nat} {q : Program} {loose : List Str} {XP : (Str → Option Value) → Heap → Prop} {YP : World → Heap → Prop} {d : DefRec} {x : Str} (hn : l.most = some n) (h2 : n ≤ sizeLine) (h3 : d.params.defaults = []) (h4 : Room k callerA) (g : FnM)
    (hg : ∀ ns : List Int, ns.length ≤ n → ∃ S', g [.ref 0] [.rol (ns.map MV.int)] = .ok (.bl true) S')
    (F : ∀ (w : World) (mg : Str → Option Value) (f : Addr) (h : Heap), YP w h → h.Ns mainGlobals mg → mg d.name = some (.ref f) →
      ∃ (K : Fr) (ct : Str → Option Addr) (os : List Addr) (ow : Option World) (fd : FuncData), K.In h ∧ noLst K = true ∧ (∀ (s : Shared) (us : List Value), us.length = 1 → BindsTo s fd ⟨us, []⟩ ([x].zip us)) ∧ ∀ base : Heap, FnOk l.prog w K mg base (L2.CX l.prog w) k f fd [x] (spF ⟨K, ct, os, ow⟩ g)) :
    PySem.W.WalkO q loose XP YP l.row.toRowW d [] (fun f vs => PySem.call f vs) :=
  Att.attach_call hn h3 fun w _ s mg _ f _ _ _ _ a _ ns gr y _ _ _ hm ha hi hl hs => by
    obtain ⟨K, ct, os, ow, fd, X, no, b, ok⟩ := F w mg f _ y gr.T.g hm
    exact law_call X gr.T.g gr.T.b gr.T.builtins gr.T.nolimit hs ha hi (Nat.le_trans hl h2) h4 (fun base _ _ => ok base) (fun s u => b s [u] rfl) (fun H hO hS => end_ok no hO hS (hg ns hl).choose_spec) fun _ _ _ z => cx_never z
/-! ### == of two things of a class with its own __eq__ -/
structure OwnEq (K : PySem.W.Frag) (C f : Addr) : Prop where
  here : PySem.W.findIn K (.ref C) "__eq__" = some (some (.ref f))
  fn : PySem.W.isFn K (.ref f) = true
  no : PySem.W.notFirst K C (.ref C) = true
end MI
set_option Elab.async false
set_option linter.all false
set_option maxRecDepth 100000
/-! Reading denotations: what must hold of an end (E: of what is raised, Q: of what comes). -/
namespace MI
open PySem PySem.Spec PyProof.Rows L2
abbrev EX := Str → List (Str × MV) → Store → Prop
def wp {α : Type} (r : Res α) (E : EX) (Q : α → Store → Prop) : Prop := match r with
  | .ok a S => Q a S
  | .err c fs S => E c fs S
  | .stuck => False
section
variable {α β : Type} {E E' : EX} {S : Store} {ρ : Env'}
theorem wp.mono {r : Res α} {Q Q' : α → Store → Prop} (h : wp r E Q) (k : ∀ a S', Q a S' → Q' a S') : wp r E Q' := by
  cases r with
  | ok a S' => exact k a S' h
  | err c fs S' => exact h
  | stuck => exact h
theorem wp.ex {r : Res α} {Q : α → Store → Prop} (h : wp r (fun _ _ _ => False) Q) : ∃ a S', r = .ok a S' ∧ Q a S' := by
  cases r with
  | ok a S' => exact ⟨a, S', rfl, h⟩
  | err c fs S' => exact h.elim
  | stuck => exact h.elim
theorem wp_ok {a : α} {Q : α → Store → Prop} : wp (.ok a S) E Q = Q a S := rfl
theorem wp_bind {r : Res α} {f : α → Store → Res β} {Q : β → Store → Prop} : wp (r.bind f) E Q = wp r E fun a S1 => wp (f a S1) E Q := by
  cases r <;> rfl
theorem wp_bindS {r : Res α} {f : α → Store → Res Fl} {Q : Fl → Store → Prop} : wp (r.bindS ρ f) E Q = wp r (fun c fs S1 => Q (.exc c fs ρ) S1) fun a S1 => wp (f a S1) E Q := by
  cases r <;> rfl
theorem wp_ite {c : Prop} [Decidable c] {x y : Res α} {Q : α → Store → Prop} : wp (if c then x else y) E Q = if c then wp x E Q else wp y E Q := by
  split <;> rfl
theorem wp_iteR {c : Prop} [Decidable c] {x : Res α} {Q : α → Store → Prop} : wp (if c then x else .stuck) E Q = (c ∧ wp x E Q) := by
  by_cases h : c
  · rw [if_pos h]; simp [h]
  · rw [if_neg h]; simp [h, wp]
/-! expressions -/
variable {Q : MV → Store → Prop} {QL : List MV → Store → Prop} {QB : Bool → Store → Prop} {QF : Fl → Store → Prop} {QI : Src → Store → Prop} {QE : Env' → Store → Prop} {QO : Option Int → Store → Prop}
theorem wp_var {i : Nat} : wp (dVar i ρ S) E Q = ∃ w, ρ[i]? = some (some w) ∧ Q w S := by
  unfold dVar
  generalize ρ[i]? = o
  apply propext
  cases o with
  | none => exact ⟨fun h => False.elim h, fun ⟨v, e, _⟩ => by cases e⟩
  | some o => cases o with
    | none => exact ⟨fun h => False.elim h, fun ⟨v, e, _⟩ => by cases e⟩
    | some w => exact ⟨fun h => ⟨w, rfl, h⟩, fun ⟨v, e, h⟩ => by cases e; exact h⟩
theorem wp_c {w : MV} : wp (dC w ρ S) E Q = Q w S := rfl
theorem wp_bin {f : MV → MV → Store → Res MV} {a b : Den} : wp (dBin f a b ρ S) E Q = wp (a ρ S) E fun x S1 => wp (b ρ S1) E fun y S2 => wp (f x y S2) E Q := by
  unfold dBin
  simp only [wp_bind]
theorem wp_un {f : MV → Store → Res MV} {a : Den} : wp (dUn f a ρ S) E Q = wp (a ρ S) E fun x S1 => wp (f x S1) E Q := wp_bind
theorem wp_call {f : FnM} {a : DenL} : wp (dCall f a ρ S) E Q = wp (a ρ S) E fun x S1 => wp (f x S1) E Q := wp_bind
theorem wp_nil : wp (aNil ρ S) E QL = QL [] S := rfl
theorem wp_cons {d : Den} {r : DenL} : wp (aCons d r ρ S) E QL = wp (d ρ S) E fun w S1 => wp (r ρ S1) E fun ws S2 => QL (w :: ws) S2 := by
  unfold aCons
  simp only [wp_bind]
  rfl
theorem wp_tup {r : DenL} : wp (dTup r ρ S) E Q = wp (r ρ S) E fun ws S1 => ws.length ≤ 100000 ∧ Q (.tup ws) S1 := by
  unfold dTup
  simp only [wp_bind, wp_iteR, wp_ok]
theorem wp_lst {r : DenL} : wp (dLst r ρ S) E Q = wp (r ρ S) E fun ws S1 => ws.length ≤ 100000 ∧ Q (.ref S1.length) (S1 ++ [.lst ws]) := by
  unfold dLst
  simp only [wp_bind, wp_iteR, wp_ok]
theorem wp_dic0 : wp (dDic0 ρ S) E Q = Q (.ref S.length) (S ++ [.dic []]) := rfl
theorem wp_int {C : Int → Int → Bool} {g : Int → Int → MV} {i j : Int} : wp (fInt C g (.int i) (.int j) S) E Q = (C i j = true ∧ Q (g i j) S) := by
  unfold fInt
  simp only [wp_iteR, wp_ok]
theorem wp_bcmp {f : MV → MV → Store → Res MV} {a b : Den} : wp (bCmp f a b ρ S) E QB = wp (a ρ S) E fun x S1 => wp (b ρ S1) E fun y S2 => wp (f x y S2) E fun w S3 => wp (boolOf w S3) E QB := by
  unfold bCmp
  simp only [wp_bind, wp_bin]
theorem wp_boolOf {b : Bool} : wp (boolOf (.bl b) S) E QB = QB b S := rfl
theorem wp_btru {d : Den} : wp (bTru d ρ S) E QB = wp (d ρ S) E fun w S1 => wp (truB w S1) E QB := wp_bind
theorem wp_truB {b : Bool} : wp (truB (.bl b) S) E QB = QB b S := rfl
theorem wp_bnot {d : DenB} : wp (bNot d ρ S) E QB = wp (d ρ S) E fun k S1 => QB (!k) S1 := wp_bind
theorem wp_band {d f : DenB} : wp (bAnd d f ρ S) E QB = wp (d ρ S) E fun k S1 => if k = true then wp (f ρ S1) E QB else QB false S1 := by
  unfold bAnd
  simp only [wp_bind, wp_ite, wp_ok]
theorem wp_bor {d f : DenB} : wp (bOr d f ρ S) E QB = wp (d ρ S) E fun k S1 => if k = true then QB true S1 else wp (f ρ S1) E QB := by
  unfold bOr
  simp only [wp_bind, wp_ite, wp_ok]
theorem wp_dif {t : DenB} {d f : Den} : wp (dIf t d f ρ S) E Q = wp (t ρ S) E fun k S1 => if k = true then wp (d ρ S1) E Q else wp (f ρ S1) E Q := by
  unfold dIf
  simp only [wp_bind, wp_ite]
theorem wp_dand {d f : Den} : wp (dAnd d f ρ S) E Q = wp (d ρ S) E fun w S1 => wp (match w with
  | .bl true => f ρ S1
  | .bl false => .ok (.bl false) S1
  | _ => .stuck) E Q := wp_bind
theorem wp_dor {d f : Den} : wp (dOr d f ρ S) E Q = wp (d ρ S) E fun w S1 => wp (match w with
  | .bl true => .ok (.bl true) S1
  | .bl false => f ρ S1
  | _ => .stuck) E Q := wp_bind
theorem wp_dnot {d : Den} : wp (dNot d ρ S) E Q = wp (d ρ S) E fun w S1 => wp (match w with
  | .bl k => .ok (.bl (!k)) S1
  | _ => .stuck) E Q := wp_bind
theorem wp_len {w : MV} : wp (fLen [w] S) E Q = ∃ n : Nat, lenM w S = some n ∧ Q (.int n) S := by
  unfold fLen
  dsimp only
  generalize lenM w S = o
  apply propext
  cases o with
  | none => exact ⟨fun h => False.elim h, fun ⟨v, e, _⟩ => by cases e⟩
  | some n => exact ⟨fun h => ⟨n, rfl, h⟩, fun ⟨v, e, h⟩ => by cases e; exact h⟩
theorem wp_intOf {i : Int} : wp (fIntOf [.int i] S) E Q = Q (.int i) S := rfl
theorem wp_ixL {n : Nat} {i : Int} {l : List MV} (h : S[n]? = some (.lst l)) : wp (fIx (.ref n) (.int i) S) E Q = ∃ w, atI l i = some w ∧ Q w S := by
  unfold fIx
  simp only [h]
  generalize atI l i = o
  apply propext
  cases o with
  | none => exact ⟨fun h => False.elim h, fun ⟨v, e, _⟩ => by cases e⟩
  | some w => exact ⟨fun h => ⟨w, rfl, h⟩, fun ⟨v, e, h⟩ => by cases e; exact h⟩
theorem wp_ixR {n : Nat} {i : Int} {l : List MV} (h : S[n]? = some (.rol l)) : wp (fIx (.ref n) (.int i) S) E Q = ∃ w, atI l i = some w ∧ Q w S := by
  unfold fIx
  simp only [h]
  generalize atI l i = o
  apply propext
  cases o with
  | none => exact ⟨fun h => False.elim h, fun ⟨v, e, _⟩ => by cases e⟩
  | some w => exact ⟨fun h => ⟨w, rfl, h⟩, fun ⟨v, e, h⟩ => by cases e; exact h⟩
theorem wp_ixT {i : Int} {l : List MV} : wp (fIx (.tup l) (.int i) S) E Q = ∃ w, atI l i = some w ∧ Q w S := by
  unfold fIx
  dsimp only
  generalize atI l i = o
  apply propext
  cases o with
  | none => exact ⟨fun h => False.elim h, fun ⟨v, e, _⟩ => by cases e⟩
  | some w => exact ⟨fun h => ⟨w, rfl, h⟩, fun ⟨v, e, h⟩ => by cases e; exact h⟩
/-! targets, statements -/
theorem wp_gN {i : Nat} {w : MV} : wp (gN i w ρ S) E QE = QE (ρ.set i (some w)) S := rfl
theorem wp_gS {o i : Den} {w : MV} : wp (gS o i w ρ S) E QE = (wp (o ρ S) (fun _ _ _ => False) fun ov S1 => wp (i ρ S1) (fun _ _ _ => False) fun iv S2 => ∃ S3, fSet ov iv w S2 = some S3 ∧ QE ρ S3) := by
  unfold gS
  cases o ρ S with
  | ok ov S1 =>
    show wp (match i ρ S1 with | .ok iv S2 => _ | _ => _) E QE = wp (i ρ S1) _ _
    cases i ρ S1 with
    | ok iv S2 =>
      show wp (match fSet ov iv w S2 with | some S3 => Res.ok ρ S3 | none => .stuck) E QE = _
      show _ = ∃ S3, fSet ov iv w S2 = some S3 ∧ QE ρ S3
      cases fSet ov iv w S2 with
      | some S3 => exact propext ⟨fun h => ⟨S3, rfl, h⟩, fun ⟨m, e2, h⟩ => by cases e2; exact h⟩
      | none => exact propext ⟨fun h => h.elim, fun ⟨m, e2, _⟩ => by cases e2⟩
    | err c fs S2 => rfl
    | stuck => rfl
  | err c fs S1 => rfl
  | stuck => rfl
theorem wp_seq {x y : DenS} : wp (sSeq x y ρ S) E QF = wp (x ρ S) E fun f S1 => match f with
    | .next ρ1 => wp (y ρ1 S1) E QF
    | f => QF f S1 := by
  unfold sSeq
  cases x ρ S with
  | ok f S1 => cases f <;> rfl
  | err c fs S1 => rfl
  | stuck => rfl
theorem wp_snil : wp (sNil ρ S) E QF = QF (.next ρ) S := rfl
theorem wp_sexpr {d : Den} : wp (sExpr d ρ S) E QF = wp (d ρ S) (fun c fs S1 => QF (.exc c fs ρ) S1) fun _ S1 => QF (.next ρ) S1 := wp_bindS
theorem wp_sret {d : Den} : wp (sRet d ρ S) E QF = wp (d ρ S) (fun c fs S1 => QF (.exc c fs ρ) S1) fun w S1 => QF (.ret w) S1 := wp_bindS
theorem wp_sif {t : DenB} {x y : DenS} : wp (sIf t x y ρ S) E QF = wp (t ρ S) (fun c fs S1 => QF (.exc c fs ρ) S1) fun k S1 => if k = true then wp (x ρ S1) E QF else wp (y ρ S1) E QF := by
  unfold sIf
  simp only [wp_bindS, wp_ite]
theorem wp_asg {d : Den} {g : DenG} : wp (sAsg d g ρ S) E QF = wp (d ρ S) (fun c fs S1 => QF (.exc c fs ρ) S1) fun w S1 => wp (g w ρ S1) (fun _ _ _ => False) fun ρ1 S2 => QF (.next ρ1) S2 := by
  unfold sAsg
  rw [wp_bindS]
  congr 1
  funext w S1
  cases g w ρ S1 <;> rfl
theorem wp_par {i j : Nat} {da : DenL} : wp (sPar i j da ρ S) E QF = wp (da ρ S) (fun c fs S1 => QF (.exc c fs ρ) S1) fun ws S1 => wp (match ws with
  | [x, y] => .ok (.next ((ρ.set i (some x)).set j (some y))) S1
  | _ => .stuck) E QF := wp_bindS
theorem wp_par3 {i j l : Nat} {da : DenL} : wp (sPar3 i j l da ρ S) E QF = wp (da ρ S) (fun c fs S1 => QF (.exc c fs ρ) S1) fun ws S1 => wp (match ws with
  | [x, y, z] => .ok (.next (((ρ.set i (some x)).set j (some y)).set l (some z))) S1
  | _ => .stuck) E QF := wp_bindS
theorem wp_for {f : Nat} {it : DenI} {g : DenG} {body : DenS} : wp (sFor f it g body ρ S) E QF = wp (it ρ S) (fun c fs S1 => QF (.exc c fs ρ) S1) fun nx S1 => wp (forM nx g body f 0 ρ S1) E QF := wp_bindS
theorem wp_iany {d : Den} : wp (iAnyD d ρ S) E QI = wp (d ρ S) E fun w S1 => wp (srcOf w S1) E QI := wp_bind
theorem wp_irng {g : List MV → Store → Res Src} {d : DenL} : wp (iRng g d ρ S) E QI = wp (d ρ S) E fun w S1 => wp (g w S1) E QI := wp_bind
theorem wp_fn {n N : Nat} {body : DenS} {ws : List MV} (h : ws.length = n) : wp (mkFn n N body ws S) E Q = wp (body (ws.map some ++ List.replicate (N - n) none) S) (fun _ _ _ => False) fun f S' => match f with
    | .ret w => wp (gc S.length w S') E Q
    | .next _ => wp (gc S.length .non S') E Q
    | .exc c fs _ => E c fs S'
    | _ => False := by
  unfold mkFn
  rw [if_pos h, h]
  cases body (ws.map some ++ List.replicate (N - n) none) S with
  | ok f S1 => cases f <;> rfl
  | err c fs S1 => rfl
  | stuck => rfl
theorem gc_same {n : Nat} {w : MV} (h : S.length = n) : gc n w S = .ok w S := by
  unfold gc
  rw [if_pos h]
theorem lcM_inv {nx : Src} {g : DenG} {t : DenB} {d : Den} {ρ0 : Env'} {m : Nat} (n : Nat) (Inv : Nat → List MV → Store → Prop) (at_ : ∀ i acc S, Inv i acc S → S[m]? = some (.lst acc))
    (stop : ∀ acc S, Inv n acc S → nx n S = .stop)
    (turn : ∀ i acc S, i < n → Inv i acc S → ∃ w, nx i S = .yield w ∧ wp (g w ρ0 S) (fun _ _ _ => False) fun ρ1 S1 => wp (t ρ1 S1) (fun _ _ _ => False) fun b S2 =>
      if b = true then wp (d ρ1 S2) (fun _ _ _ => False) fun w' S3 => S3[m]? = some (.lst acc) ∧ acc.length < 100000 ∧ Inv (i + 1) (acc ++ [w']) (S3.set m (.lst (acc ++ [w']))) else Inv (i + 1) acc S2) :
    ∀ (k f i : Nat) (acc : List MV) (S : Store), i + k = n → k < f → Inv i acc S → ∃ acc' S', lcM nx g t d ρ0 m f i S = some S' ∧ Inv n acc' S'
  | 0, f + 1, i, acc, S, hk, hf, hI => by
    have e : i = n := by omega
    subst e
    unfold lcM
    rw [stop acc S hI]
    exact ⟨acc, S, rfl, hI⟩
  | k + 1, f + 1, i, acc, S, hk, hf, hI => by
    obtain ⟨w, e, h⟩ := turn i acc S (by omega) hI
    obtain ⟨ρ1, S1, e1, h1⟩ := h.ex
    obtain ⟨b, S2, e2, h2⟩ := h1.ex
    unfold lcM
    simp only [e, e1, e2]
    cases b with
    | false => exact lcM_inv n Inv at_ stop turn k f (i + 1) acc S2 (by omega) (by omega) h2
    | true =>
      obtain ⟨w', S3, e3, e4, hl, h3⟩ := (show wp (d ρ1 S2) _ _ from h2).ex
      simp only [e3, e4, if_pos hl]
      exact lcM_inv n Inv at_ stop turn k f (i + 1) _ _ (by omega) (by omega) h3
theorem wp_lc {f : Nat} {it : DenI} {g : DenG} {t : DenB} {d : Den} {own : List Nat} : wp (dLc f it g t d own ρ S) E Q = wp (it ρ S) E fun nx S1 => wp (match lcM nx g t d (wipeM ρ own) S1.length f 0 (S1 ++ [.lst []]) with
    | some S2 => (.ok (.ref S1.length) S2 : Res MV)
    | none => .stuck) E Q := wp_bind
theorem wp_lcI {nx : Src} {g : DenG} {t : DenB} {d : Den} {ρ0 : Env'} {f : Nat} (n : Nat) (Inv : Nat → List MV → Store → Prop) (hf : n < f) (at_ : ∀ i acc S', Inv i acc S' → S'[S.length]? = some (.lst acc))
    (stop : ∀ acc S', Inv n acc S' → nx n S' = .stop) (init : Inv 0 [] (S ++ [.lst []]))
    (turn : ∀ i acc S', i < n → Inv i acc S' → ∃ w, nx i S' = .yield w ∧ wp (g w ρ0 S') (fun _ _ _ => False) fun ρ1 S1 => wp (t ρ1 S1) (fun _ _ _ => False) fun b S2 =>
      if b = true then wp (d ρ1 S2) (fun _ _ _ => False) fun w' S3 => S3[S.length]? = some (.lst acc) ∧ acc.length < 100000 ∧ Inv (i + 1) (acc ++ [w']) (S3.set S.length (.lst (acc ++ [w']))) else Inv (i + 1) acc S2)
    (done : ∀ acc S', Inv n acc S' → Q (.ref S.length) S') : wp (match lcM nx g t d ρ0 S.length f 0 (S ++ [.lst []]) with
    | some S2 => (.ok (.ref S.length) S2 : Res MV)
    | none => .stuck) E Q := by
  obtain ⟨acc, S', e, h⟩ := lcM_inv n Inv at_ stop turn n f 0 [] _ (by omega) hf init
  rw [e]
  exact done acc S' h
theorem wp_rng1 {j : Int} : wp (rng1 [.int j] S) E QI = ((-100000 ≤ j ∧ j ≤ 100000) ∧ QI (srcRng 0 j) S) := by
  unfold rng1
  dsimp only
  rw [wp_iteR, Bool.and_eq_true, decide_eq_true_eq, decide_eq_true_eq]
  rfl
theorem wp_rng2 {i j : Int} : wp (rng2 [.int i, .int j] S) E QI = (((-100000 ≤ i ∧ i ≤ 100000) ∧ (-100000 ≤ j ∧ j ≤ 100000)) ∧ QI (srcRng i j) S) := by
  unfold rng2
  dsimp only
  rw [wp_iteR]
  simp only [Bool.and_eq_true, decide_eq_true_eq]
  rfl
theorem wp_met {chk : MV → Store → Bool} {f : MV → List MV → Store → Res MV} {o : Den} {r : DenL} : wp (dMet chk f o r ρ S) E Q = wp (o ρ S) E fun ow S1 => chk ow S1 = true ∧ wp (r ρ S1) E fun ws S2 => wp (f ow ws S2) E Q := by
  unfold dMet
  simp only [wp_bind, wp_iteR]
theorem wp_append {n : Nat} {l : List MV} {w : MV} (h : S[n]? = some (.lst l)) (hl : l.length < 100000) : wp (fAppend (.ref n) [w] S) E Q = Q .non (S.set n (.lst (l ++ [w]))) := by
  unfold fAppend
  simp only [h, if_pos hl]
  rfl
theorem isLst_ref {n : Nat} {l : List MV} (h : S[n]? = some (.lst l)) : isLst (.ref n) S = true := by
  unfold isLst
  simp only [h]
theorem wp_neg {i : Int} : wp (fNeg (.int i) S) E Q = Q (.int (-i)) S := rfl
theorem wp_bYes : wp (bYes ρ S) E QB = QB true S := rfl
end
end MI
set_option Elab.async false
set_option linter.all false
set_option maxRecDepth 100000
/-! Stores that only grow, by objects that hold no others; defs whose answer holds none. -/
namespace MI
open PySem PySem.Spec PyProof.Rows L2
mutual
theorem blw_le {n m : Nat} (h : n ≤ m) : ∀ w : MV, below n w = true → below m w = true
  | .tup l, e => by
    unfold below at e ⊢
    exact blws_le h l e
  | .ref k, e => by
    unfold below at e ⊢
    exact decide_eq_true (Nat.lt_of_lt_of_le (of_decide_eq_true e) h)
  | .non, _ => rfl
  | .bl _, _ => rfl
  | .int _, _ => rfl
  | .str _, _ => rfl
  | .out _, e => e
theorem blws_le {n m : Nat} (h : n ≤ m) : ∀ l : List MV, belows n l = true → belows m l = true
  | [], _ => rfl
  | w :: ws, e => by
    unfold belows at e ⊢
    rw [Bool.and_eq_true] at e ⊢
    exact ⟨blw_le h w e.1, blws_le h ws e.2⟩
end
theorem blwO_le {n m : Nat} (h : n ≤ m) (o : MO) (e : belowO n o = true) : belowO m o = true := by
  cases o <;> first | rfl | exact blws_le h _ e
theorem blwA_le {n m : Nat} (h : n ≤ m) {r : Store} (e : r.all (belowO n) = true) : r.all (belowO m) = true := List.all_eq_true.mpr fun o ho => blwO_le h o (List.all_eq_true.mp e o ho)
theorem blws_all (n : Nat) : ∀ l : List MV, belows n l = true ↔ ∀ w ∈ l, below n w = true
  | [] => by simp [belows]
  | w :: ws => by
    unfold belows
    rw [Bool.and_eq_true, blws_all n ws]
    simp
theorem blws_map {α : Type} (n : Nat) (f : α → MV) (l : List α) (h : ∀ a ∈ l, below n (f a) = true) : belows n (l.map f) = true := (blws_all n _).mpr fun w hw => by
  obtain ⟨a, ha, rfl⟩ := List.mem_map.mp hw
  exact h a ha
theorem blws_str (n : Nat) (l : List Str) : belows n (l.map MV.str) = true := blws_map n _ l fun _ _ => rfl
def Cl (S : Store) : Prop := S.all (belowO S.length) = true
def Gr (S S' : Store) : Prop := ∃ J, S' = S ++ J ∧ J.all (belowO 0) = true
section
variable {S S' S1 S2 : Store} {o : MO} {n m : Nat}
theorem Gr.refl : Gr S S := ⟨[], by simp, rfl⟩
theorem Gr.trans (h : Gr S S1) (k : Gr S1 S2) : Gr S S2 := by
  obtain ⟨J, rfl, h⟩ := h
  obtain ⟨J', rfl, k⟩ := k
  exact ⟨J ++ J', by simp, by rw [List.all_append, h, k]; rfl⟩
theorem Gr.len (h : Gr S S') : S.length ≤ S'.length := by
  obtain ⟨J, rfl, h⟩ := h
  simp
theorem Gr.cl (h : Gr S S') (c : Cl S) : Cl S' := by
  obtain ⟨J, rfl, h⟩ := h
  unfold Cl at c ⊢
  rw [List.all_append, blwA_le (by simp) c, blwA_le (by omega) h]
  rfl
theorem Gr.at (h : Gr S S') (e : S[n]? = some o) : S'[n]? = some o := by
  obtain ⟨J, rfl, h⟩ := h
  rw [List.getElem?_append_left (List.getElem?_eq_some_iff.mp e).1]
  exact e
theorem Gr.new (h : Gr S S') (b : belowO 0 o = true) : Gr S (S' ++ [o]) := h.trans ⟨[o], rfl, by simp [b]⟩
theorem at_new : (S ++ [o])[S.length]? = some o := by simp
theorem set_new {o' : MO} : (S ++ [o]).set S.length o' = S ++ [o'] := by
  rw [List.set_append_right _ _ (Nat.le_refl _)]
  simp
theorem Gr.set (h : Gr S S') (l : S.length ≤ n) (b : belowO 0 o = true) : Gr S (S'.set n o) := by
  obtain ⟨J, rfl, h⟩ := h
  rw [List.set_append_right _ _ l]
  refine ⟨_, rfl, List.all_eq_true.mpr fun x hx => ?_⟩
  rcases List.mem_or_eq_of_mem_set hx with hx | rfl
  · exact List.all_eq_true.mp h x hx
  · exact b
theorem at_set {o' : MO} (e : S[n]? = some o) : (S.set n o')[n]? = some o' := by
  rw [List.getElem?_set_self (List.getElem?_eq_some_iff.mp e).1]
theorem Gr.take (h : Gr S S') : S'.take S.length = S := by
  obtain ⟨J, rfl, h⟩ := h
  rw [List.take_left]
theorem Gr.eq (h : Gr S S') (e : S'.length = S.length) : S' = S := by
  have := h.take
  rw [← e, List.take_length] at this
  exact this
theorem gc_pure {w : MV} (h : Gr S S') (c : Cl S) (b : below 0 w = true) : gc S.length w S' = .ok w S := by
  unfold gc
  split
  · rename_i e
    rw [h.eq e]
  · rw [h.take, if_pos (show S.all (belowO S.length) = true from c), if_pos (blw_le (by omega) w b)]
abbrev NE : EX := fun _ _ _ => False
variable {N k : Nat} {body : DenS} {ws : List MV} {v : MV}
theorem fn_val (hl : ws.length = k) (c : Cl S) (b : below 0 v = true) (h : wp (body (ws.map some ++ List.replicate (N - k) none) S) NE fun f S' => (f = .ret v ∨ (v = .non ∧ ∃ ρ, f = .next ρ)) ∧ Gr S S') : mkFn k N body ws S = .ok v S := by
  unfold mkFn
  rw [if_pos hl, hl]
  obtain ⟨f, S', e, h1, h2⟩ := h.ex
  rw [e]
  rcases h1 with rfl | ⟨rfl, ρ, rfl⟩
  · exact gc_pure h2 c b
  · exact gc_pure h2 c b
theorem fn_same (hl : ws.length = k) (h : wp (body (ws.map some ++ List.replicate (N - k) none) S) NE fun f S' => (f = .ret v ∨ (v = .non ∧ ∃ ρ, f = .next ρ)) ∧ S' = S) : mkFn k N body ws S = .ok v S := by
  unfold mkFn
  rw [if_pos hl, hl]
  obtain ⟨f, S', e, h1, rfl⟩ := h.ex
  rw [e]
  rcases h1 with rfl | ⟨rfl, ρ, rfl⟩ <;> exact gc_same rfl
end
section
variable {E : EX} {S : Store} {ρ : Env'} {Q : MV → Store → Prop} {QI : Src → Store → Prop} {QF : Fl → Store → Prop} {QB : Bool → Store → Prop} {QE : Env' → Store → Prop} {QO : Option Int → Store → Prop}
theorem wp_srcT {l : List MV} : wp (srcOf (.tup l) S) E QI = QI (srcL l) S := rfl
theorem wp_srcS {z : Str} : wp (srcOf (.str z) S) E QI = QI (srcStr z) S := rfl
theorem wp_enumT {l : List MV} : wp (enumOf [.tup l] S) E QI = QI (srcEnumL 0 l) S := rfl
theorem wp_zipT {l m : List MV} : wp (zipOf [.tup l, .tup m] S) E QI = QI (srcZipT l m) S := rfl
theorem wp_gT {r : DenGs} {l : List MV} : wp (gT r (.tup l) ρ S) E QE = wp (r l ρ S) E QE := rfl
theorem wp_gsNil : wp (gsNil [] ρ S) E QE = QE ρ S := rfl
theorem wp_gsCons {g : DenG} {r : DenGs} {w : MV} {ws : List MV} : wp (gsCons g r (w :: ws) ρ S) E QE = wp (g w ρ S) NE fun ρ1 S1 => wp (r ws ρ1 S1) E QE := by
  unfold gsCons
  dsimp only
  cases g w ρ S <;> rfl
theorem wp_lenT {l : List MV} : wp (fLen [.tup l] S) E Q = Q (.int l.length) S := rfl
theorem wp_lenS {z : Str} (h : z.length ≤ 100000) : wp (fLen [.str z] S) E Q = Q (.int z.length) S := by
  unfold fLen lenM
  dsimp only
  rw [if_pos h]
  rfl
theorem wp_isTT {l : List MV} {T : String} : wp (fIsT T (.tup l) S) E Q = Q (.bl (isTy "tuple" T)) S := rfl
theorem wp_isTS {z : Str} {T : String} : wp (fIsT T (.str z) S) E Q = Q (.bl (isTy "str" T)) S := rfl
theorem wp_isTI {i : Int} {T : String} : wp (fIsT T (.int i) S) E Q = Q (.bl (isTy "int" T)) S := rfl
theorem wp_isTN {T : String} : wp (fIsT T .non S) E Q = Q (.bl (isTy "NoneType" T)) S := rfl
theorem wp_isTB {b : Bool} {T : String} : wp (fIsT T (.bl b) S) E Q = Q (.bl (isTy "bool" T)) S := rfl
theorem mB {w : MV} {X Y : Res MV} : wp (match w with
  | .bl true => X
  | .bl false => Y
  | _ => .stuck) E Q = ∃ b, w = .bl b ∧ if b = true then wp X E Q else wp Y E Q := by
  apply propext
  cases w with
  | bl b => cases b <;> simp
  | _ => exact ⟨fun h => False.elim h, fun ⟨_, e, _⟩ => by cases e⟩
theorem wp_chain {f g : MV → MV → Store → Res MV} {a b c : Den} : wp (dChain f g a b c ρ S) E Q = wp (a ρ S) E fun x S1 => wp (b ρ S1) E fun y S2 => wp (f x y S2) E fun k S3 => ∃ b, k = .bl b ∧ if b = true then wp (c ρ S3) E fun z S4 => wp (g y z S4) E Q else Q (.bl false) S3 := by
  unfold dChain
  simp only [wp_bind]
  congr 1
  funext x S1
  congr 1
  funext y S2
  congr 1
  funext k S3
  rw [← wp_bind (f := fun z S4 => g y z S4)]
  exact mB
theorem wp_xand {d f : Den} : wp (dAnd d f ρ S) E Q = wp (d ρ S) E fun w S1 => ∃ b, w = .bl b ∧ if b = true then wp (f ρ S1) E Q else Q (.bl false) S1 := by
  rw [wp_dand]
  congr 1
  funext w S1
  exact mB
theorem wp_xor {d f : Den} : wp (dOr d f ρ S) E Q = wp (d ρ S) E fun w S1 => ∃ b, w = .bl b ∧ if b = true then Q (.bl true) S1 else wp (f ρ S1) E Q := by
  rw [wp_dor]
  congr 1
  funext w S1
  exact mB
theorem wp_xnot {d : Den} : wp (dNot d ρ S) E Q = wp (d ρ S) E fun w S1 => ∃ b, w = .bl b ∧ Q (.bl (!b)) S1 := by
  rw [wp_dnot]
  congr 1
  funext w S1
  apply propext
  cases w with
  | bl b => simp [wp_ok]
  | _ => exact ⟨fun h => False.elim h, fun ⟨_, e, _⟩ => by cases e⟩
theorem wp_eqS {x y : Str} : wp (fEq (.str x) (.str y) S) E Q = Q (.bl (decide (x = y))) S := rfl
theorem wp_neS {x y : Str} : wp (fNe (.str x) (.str y) S) E Q = Q (.bl (!decide (x = y))) S := rfl
theorem wp_neI {x y : Int} : wp (fNe (.int x) (.int y) S) E Q = Q (.bl (!decide (x = y))) S := rfl
theorem wp_eqII {x y : Int} : wp (fEq (.int x) (.int y) S) E Q = Q (.bl (decide (x = y))) S := rfl
theorem wp_isNT {l : List MV} : wp (fIs (.tup l) .non S) E Q = Q (.bl false) S := rfl
theorem wp_isNN : wp (fIs .non .non S) E Q = Q (.bl true) S := rfl
theorem wp_notNT {l : List MV} : wp (fIsNot (.tup l) .non S) E Q = Q (.bl true) S := rfl
theorem wp_notNN : wp (fIsNot .non .non S) E Q = Q (.bl false) S := rfl
theorem any_strs (x : Str) (l : List Str) : ((l.map MV.str).any fun y => eqF y (.str x)) = decide (x ∈ l) := by
  induction l with
  | nil => rfl
  | cons y l ih =>
    rw [List.map_cons, List.any_cons, ih]
    show ((y == x) || decide (x ∈ l)) = _
    by_cases h : y = x
    · subst h; simp
    · have h' : ¬ x = y := fun e => h e.symm
      simp [h, h', List.mem_cons]
theorem flat_strs (l : List Str) : (l.map MV.str).all flatM = true := by
  induction l with
  | nil => rfl
  | cons y l ih => exact ih
theorem wp_inT {x : Str} {l : List Str} : wp (fIn (.str x) (.tup (l.map .str)) S) E Q = Q (.bl (decide (x ∈ l))) S := by
  unfold fIn inM
  simp only [itemsOf, flat_strs, any_strs]
  rfl
theorem wp_inTc {x a : Str} {l : List Str} : wp (fIn (.str x) (.tup (.str a :: l.map .str)) S) E Q = Q (.bl (decide (x ∈ a :: l))) S := wp_inT (l := a :: l)
theorem wp_inT0 {x : Str} : wp (fIn (.str x) (.tup []) S) E Q = Q (.bl false) S := rfl
theorem flt_true {α : Type} (l : List α) : (l.filter fun _ => true) = l := List.filter_eq_self.mpr fun _ _ => rfl
theorem wp_inC {c : Nat} {z : Str} : wp (fIn (.str ⟨#[c]⟩) (.str z) S) E Q = Q (.bl (decide (c ∈ z.cps.toList))) S := rfl
theorem wp_notInT {x : Str} {l : List Str} : wp (fNotIn (.str x) (.tup (l.map .str)) S) E Q = Q (.bl (!decide (x ∈ l))) S := by
  unfold fNotIn inM
  simp only [itemsOf, flat_strs, any_strs]
  rfl
theorem wp_tupR {n : Nat} {l : List MV} (e : S[n]? = some (.lst l)) : wp (fTupOf (.ref n) S) E Q = Q (.tup l) S := by
  unfold fTupOf
  simp only [itemsOf, e]
  rfl
theorem wp_tupT {l : List MV} : wp (fTupOf (.tup l) S) E Q = Q (.tup l) S := rfl
theorem wp_backT {l : List MV} : wp (fBack (.tup l) S) E Q = Q (.tup l.reverse) S := rfl
theorem wp_starT {d : Den} {r : DenL} {QL : List MV → Store → Prop} : wp (aStar d r ρ S) E QL = wp (d ρ S) E fun w S1 => ∃ l, itemsOf w S1 = some l ∧ wp (r ρ S1) E fun ws S2 => QL (l ++ ws) S2 := by
  unfold aStar
  rw [wp_bind]
  congr 1
  funext w S1
  cases itemsOf w S1 with
  | none => exact propext ⟨fun h => h.elim, fun ⟨_, e, _⟩ => by cases e⟩
  | some l =>
    simp only [Option.some.injEq, exists_eq_left', wp_bind]
    rfl
theorem itemsT {l : List MV} : itemsOf (.tup l) S = some l := rfl
theorem wp_sl {d : Den} {l u : DenO} : wp (dSl d l u ρ S) E Q = wp (d ρ S) E fun w S1 => wp (l ρ S1) E fun i S2 => wp (u ρ S2) E fun j S3 => wp (fSl w i j S3) E Q := by
  unfold dSl
  simp only [wp_bind]
theorem wp_oN : wp (oNone ρ S) E QO = QO none S := rfl
theorem wp_oS {d : Den} : wp (oSome d ρ S) E QO = wp (d ρ S) E fun w S1 => wp (match w with
  | .int i => (.ok (some i) S1 : Res (Option Int))
  | _ => .stuck) E QO := wp_bind
theorem atI0 {α : Type} {a : α} {l : List α} : atI (a :: l) 0 = some a := by
  unfold atI ixN
  rw [if_pos (by omega), if_pos (by simp)]
  rfl
theorem atI1 {α : Type} {a b : α} {l : List α} : atI (a :: b :: l) 1 = some b := by
  unfold atI ixN
  rw [if_pos (by omega), if_pos (by simp; omega)]
  rfl
theorem atI2 {α : Type} {a b c : α} {l : List α} : atI (a :: b :: c :: l) 2 = some c := by
  unfold atI ixN
  rw [if_pos (by omega), if_pos (by simp; omega)]
  rfl
theorem atI3 {α : Type} {a b c d : α} {l : List α} : atI (a :: b :: c :: d :: l) 3 = some d := by
  unfold atI ixN
  rw [if_pos (by omega), if_pos (by simp; omega)]
  rfl
theorem atI4 {α : Type} {a b c d e : α} {l : List α} : atI (a :: b :: c :: d :: e :: l) 4 = some e := by
  unfold atI ixN
  rw [if_pos (by omega), if_pos (by simp; omega)]
  rfl
theorem wp_appR {n : Nat} {l : List MV} {w : MV} (h : S[n]? = some (.lst l)) (hl : l.length < 100000) : wp (fAppend (.ref n) [w] S) E Q = Q .non (S.set n (.lst (l ++ [w]))) := wp_append h hl
theorem wp_allR {n : Nat} {f : List Bool → Bool} {bs : List Bool} (h : S[n]? = some (.lst (bs.map .bl))) : wp (fAllAny f [.ref n] S) E Q = Q (.bl (f bs)) S := by
  have e : bools (bs.map MV.bl) = some bs := by
    clear h
    induction bs with
    | nil => rfl
    | cons b bs ih =>
      rw [List.map_cons]
      unfold bools
      rw [ih]
      rfl
  unfold fAllAny
  simp only [h, e]
  rfl
theorem wp_never : wp (sNever ρ S) E QF = False := rfl
def keep (I : Env' → Store → Prop) (QF : Fl → Store → Prop) (f : Fl) (S : Store) : Prop := match f with
  | .next ρ => I ρ S
  | .cont ρ => I ρ S
  | .brk ρ => QF (.next ρ) S
  | f => QF f S
theorem wp_forG {α : Type} {nx : Src} {g : DenG} {body : DenS} (enc : List α → α → MV) (xs : List α) (Inv : List α → Env' → Store → Prop) (src : ∀ pre x post ρ S, xs = pre ++ x :: post → Inv pre ρ S → nx pre.length S = .yield (enc pre x)) (stop : ∀ ρ S, Inv xs ρ S → nx xs.length S = .stop)
    (turn : ∀ pre x post ρ S, xs = pre ++ x :: post → Inv pre ρ S → wp (g (enc pre x) ρ S) NE fun ρ1 S1 => wp (body ρ1 S1) NE fun fl S2 => keep (Inv (pre ++ [x])) QF fl S2)
    (done : ∀ ρ S, Inv xs ρ S → QF (.next ρ) S) : ∀ (post pre : List α) (f : Nat) (ρ : Env') (S : Store), xs = pre ++ post → post.length < f → Inv pre ρ S → wp (forM nx g body f pre.length ρ S) E QF
  | [], pre, f + 1, ρ, S, hx, _, hI => by
    rw [List.append_nil] at hx
    subst hx
    unfold forM
    rw [stop ρ S hI]
    exact done ρ S hI
  | x :: post, pre, f + 1, ρ, S, hx, hf, hI => by
    obtain ⟨ρ1, S1, e1, h1⟩ := (turn pre x post ρ S hx hI).ex
    obtain ⟨fl, S2, e2, h2⟩ := h1.ex
    unfold forM
    simp only [src pre x post ρ S hx hI, e1, e2]
    have hx' : xs = (pre ++ [x]) ++ post := by rw [hx]; simp
    have hl : (pre ++ [x]).length = pre.length + 1 := by simp
    cases fl with
    | next ρ2 => rw [← hl]; exact wp_forG enc xs Inv src stop turn done post (pre ++ [x]) f ρ2 S2 hx' (by simp at hf; omega) h2
    | cont ρ2 => rw [← hl]; exact wp_forG enc xs Inv src stop turn done post (pre ++ [x]) f ρ2 S2 hx' (by simp at hf; omega) h2
    | brk ρ2 => exact h2
    | ret w => exact h2
    | exc c fs ρ2 => exact h2
  | post, pre, 0, ρ, S, hx, hf, hI => by omega
theorem wp_forE {α : Type} {g : DenG} {body : DenS} {f : Nat} (enc : α → MV) (xs : List α) (Inv : List α → Env' → Store → Prop) (hf : xs.length < f) (h0 : Inv [] ρ S)
    (turn : ∀ pre x post ρ S, xs = pre ++ x :: post → Inv pre ρ S → wp (g (.tup [.int pre.length, enc x]) ρ S) NE fun ρ1 S1 => wp (body ρ1 S1) NE fun fl S2 => keep (Inv (pre ++ [x])) QF fl S2)
    (done : ∀ ρ S, Inv xs ρ S → QF (.next ρ) S) : wp (forM (srcEnumL 0 (xs.map enc)) g body f 0 ρ S) E QF :=
  wp_forG (fun pre x => .tup [.int pre.length, enc x]) xs Inv (fun pre x post ρ S e _ => by unfold srcEnumL; rw [e]; simp) (fun ρ S _ => by unfold srcEnumL; simp) turn done xs [] f ρ S rfl hf h0
theorem wp_forR {α : Type} {g : DenG} {body : DenS} {f n : Nat} (enc : α → MV) (xs : List α) (Inv : List α → Env' → Store → Prop) (hf : xs.length < f) (h0 : Inv [] ρ S) (at_ : ∀ pre ρ S, Inv pre ρ S → S[n]? = some (.lst (xs.map enc)))
    (turn : ∀ pre x post ρ S, xs = pre ++ x :: post → Inv pre ρ S → wp (g (enc x) ρ S) NE fun ρ1 S1 => wp (body ρ1 S1) NE fun fl S2 => keep (Inv (pre ++ [x])) QF fl S2)
    (done : ∀ ρ S, Inv xs ρ S → QF (.next ρ) S) : wp (forM (srcRef n) g body f 0 ρ S) E QF :=
  wp_forG (fun _ => enc) xs Inv (fun pre x post ρ S e h => by unfold srcRef; rw [at_ _ _ _ h, e]; simp) (fun ρ S h => by unfold srcRef; rw [at_ _ _ _ h]; simp) turn done xs [] f ρ S rfl hf h0
theorem wp_addII {i j : Int} : wp (fAdd (.int i) (.int j) S) E Q = Q (.int (i + j)) S := rfl
theorem wp_forN {g : DenG} {body : DenS} {f : Nat} (n : Nat) (Inv : Nat → Env' → Store → Prop) (hf : n < f) (h0 : Inv 0 ρ S)
    (turn : ∀ i ρ S, i < n → Inv i ρ S → wp (g (.int i) ρ S) NE fun ρ1 S1 => wp (body ρ1 S1) NE fun fl S2 => keep (Inv (i + 1)) QF fl S2)
    (done : ∀ ρ S, Inv n ρ S → QF (.next ρ) S) : wp (forM (srcRng 0 (n : Int)) g body f 0 ρ S) E QF := by
  have key := wp_forG (E := E) (QF := QF) (nx := srcRng 0 (n : Int)) (g := g) (body := body) (fun pre _ => .int pre.length) (List.replicate n ()) (fun pre ρ S => Inv pre.length ρ S) (fun pre x post ρ S e _ => by
      have : pre.length < n := by
        have := congrArg List.length e
        simp at this
        omega
      unfold srcRng
      rw [if_pos (by omega)]
      simp) (fun ρ S _ => by unfold srcRng; rw [if_neg (by simp)]) (fun pre x post ρ S e h => by
      have : pre.length < n := by
        have := congrArg List.length e
        simp at this
        omega
      have := turn pre.length ρ S this h
      rwa [List.length_append]) (fun ρ S h => done ρ S (by simpa using h)) (List.replicate n ()) [] f ρ S (by simp) (by simpa using hf) h0
  exact key
theorem wp_lcG {α : Type} {nx : Src} {g : DenG} {t : DenB} {d : Den} {ρ0 : Env'} {f : Nat} (enc : α → MV) (xs : List α) (p : α → Bool) (fe : α → MV) (hf : xs.length < f) (h100 : xs.length < 100000) (src : ∀ i x S', xs[i]? = some x → Gr S S' → nx i S' = .yield (enc x)) (stop : ∀ S', Gr S S' → nx xs.length S' = .stop)
    (turn : ∀ x ∈ xs, ∀ S', Gr S S' → wp (g (enc x) ρ0 S') NE fun ρ1 S1 => wp (t ρ1 S1) NE fun b S2 => b = p x ∧ if b = true then wp (d ρ1 S2) NE fun w S3 => w = fe x ∧ Gr S' S3 else Gr S' S2)
    (pure : ∀ x ∈ xs, p x = true → below 0 (fe x) = true)
    (done : ∀ S', Gr S S' → S'[S.length]? = some (.lst ((xs.filter p).map fe)) → Q (.ref S.length) S') : wp (match lcM nx g t d ρ0 S.length f 0 (S ++ [.lst []]) with
    | some S2 => (.ok (.ref S.length) S2 : Res MV)
    | none => .stuck) E Q := by
  refine wp_lcI xs.length (fun i acc S' => acc = ((xs.take i).filter p).map fe ∧ Gr S S' ∧ S'[S.length]? = some (.lst acc)) hf ?_ ?_ ⟨rfl, Gr.refl.new rfl, at_new⟩ ?_ ?_
  · rintro i acc S' ⟨_, _, h⟩
    exact h
  · rintro acc S' ⟨_, h, _⟩
    exact stop S' h
  · rintro i acc S' hi ⟨ha, h, e⟩
    have hxi : xs[i]? = some xs[i] := List.getElem?_eq_getElem hi
    refine ⟨enc xs[i], src i _ S' hxi h, ?_⟩
    refine (turn xs[i] (List.getElem_mem hi) S' h).mono fun ρ1 S1 h1 => h1.mono fun b S2 h2 => ?_
    obtain ⟨hb, h2⟩ := h2
    have htk : xs.take (i + 1) = xs.take i ++ [xs[i]] := by rw [List.take_add_one, hxi]; rfl
    have hal : acc.length < 100000 := by
      rw [ha, List.length_map]
      have := List.length_filter_le p (xs.take i)
      rw [List.length_take] at this
      omega
    cases hbb : b with
    | false =>
      rw [hbb] at h2 hb
      rw [if_neg (by simp)] at h2 ⊢
      refine ⟨?_, h.trans h2, h2.at e⟩
      rw [htk, List.filter_append, ha]
      simp [← hb]
    | true =>
      rw [hbb] at h2 hb
      rw [if_pos rfl] at h2 ⊢
      refine h2.mono fun w S3 h3 => ?_
      obtain ⟨rfl, h3⟩ := h3
      have hacc : acc ++ [fe xs[i]] = ((xs.take (i + 1)).filter p).map fe := by
        rw [htk, List.filter_append, ha]
        simp [← hb]
      refine ⟨h3.at e, hal, hacc, (h.trans h3).set (Nat.le_refl _) ?_, at_set (h3.at e)⟩
      show belows 0 (acc ++ [fe xs[i]]) = true
      rw [hacc]
      refine blws_map 0 _ _ fun a hm => ?_
      rw [List.mem_filter] at hm
      exact pure a (List.mem_of_mem_take hm.1) hm.2
  · rintro acc S' ⟨ha, h, e⟩
    rw [List.take_length] at ha
    subst ha
    exact done S' h e
theorem wp_lcT {α : Type} {g : DenG} {t : DenB} {d : Den} {ρ0 : Env'} {f : Nat} (enc : α → MV) (xs : List α) (p : α → Bool) (fe : α → MV) (hf : xs.length < f) (h100 : xs.length < 100000)
    (turn : ∀ x ∈ xs, ∀ S', Gr S S' → wp (g (enc x) ρ0 S') NE fun ρ1 S1 => wp (t ρ1 S1) NE fun b S2 => b = p x ∧ if b = true then wp (d ρ1 S2) NE fun w S3 => w = fe x ∧ Gr S' S3 else Gr S' S2)
    (pure : ∀ x ∈ xs, p x = true → below 0 (fe x) = true)
    (done : ∀ S', Gr S S' → S'[S.length]? = some (.lst ((xs.filter p).map fe)) → Q (.ref S.length) S') : wp (match lcM (srcL (xs.map enc)) g t d ρ0 S.length f 0 (S ++ [.lst []]) with
    | some S2 => (.ok (.ref S.length) S2 : Res MV)
    | none => .stuck) E Q :=
  wp_lcG enc xs p fe hf h100 (fun i x S' e _ => by unfold srcL; rw [List.getElem?_map, e]; rfl) (fun S' _ => by unfold srcL; simp) turn pure done
theorem wp_lcS {g : DenG} {t : DenB} {d : Den} {ρ0 : Env'} {f : Nat} (z : Str) (p : Nat → Bool) (fe : Nat → MV) (hf : z.cps.toList.length < f) (h100 : z.cps.toList.length < 100000)
    (turn : ∀ x ∈ z.cps.toList, ∀ S', Gr S S' → wp (g (.str ⟨#[x]⟩) ρ0 S') NE fun ρ1 S1 => wp (t ρ1 S1) NE fun b S2 => b = p x ∧ if b = true then wp (d ρ1 S2) NE fun w S3 => w = fe x ∧ Gr S' S3 else Gr S' S2)
    (pure : ∀ x ∈ z.cps.toList, p x = true → below 0 (fe x) = true)
    (done : ∀ S', Gr S S' → S'[S.length]? = some (.lst ((z.cps.toList.filter p).map fe)) → Q (.ref S.length) S') : wp (match lcM (srcStr z) g t d ρ0 S.length f 0 (S ++ [.lst []]) with
    | some S2 => (.ok (.ref S.length) S2 : Res MV)
    | none => .stuck) E Q :=
  wp_lcG (fun c => .str ⟨#[c]⟩) z.cps.toList p fe hf h100 (fun i x S' e _ => by unfold srcStr; rw [← Array.getElem?_toList, e]) (fun S' _ => by unfold srcStr; simp) turn pure done
end
theorem ty_NoneType_bool : isTy "NoneType" "bool" = false := rfl
theorem ty_NoneType_int : isTy "NoneType" "int" = false := rfl
theorem ty_NoneType_str : isTy "NoneType" "str" = false := rfl
theorem ty_NoneType_tuple : isTy "NoneType" "tuple" = false := rfl
theorem ty_NoneType_list : isTy "NoneType" "list" = false := rfl
theorem ty_bool_bool : isTy "bool" "bool" = true := rfl
theorem ty_bool_int : isTy "bool" "int" = true := rfl
theorem ty_bool_str : isTy "bool" "str" = false := rfl
theorem ty_bool_tuple : isTy "bool" "tuple" = false := rfl
theorem ty_bool_list : isTy "bool" "list" = false := rfl
theorem ty_int_bool : isTy "int" "bool" = false := rfl
theorem ty_int_int : isTy "int" "int" = true := rfl
theorem ty_int_str : isTy "int" "str" = false := rfl
theorem ty_int_tuple : isTy "int" "tuple" = false := rfl
theorem ty_int_list : isTy "int" "list" = false := rfl
theorem ty_str_bool : isTy "str" "bool" = false := rfl
theorem ty_str_int : isTy "str" "int" = false := rfl
theorem ty_str_str : isTy "str" "str" = true := rfl
theorem ty_str_tuple : isTy "str" "tuple" = false := rfl
theorem ty_str_list : isTy "str" "list" = false := rfl
theorem ty_tuple_bool : isTy "tuple" "bool" = false := rfl
theorem ty_tuple_int : isTy "tuple" "int" = false := rfl
theorem ty_tuple_str : isTy "tuple" "str" = false := rfl
theorem ty_tuple_tuple : isTy "tuple" "tuple" = true := rfl
theorem ty_tuple_list : isTy "tuple" "list" = false := rfl
end MI
open PySem PySem.Spec PyProof.Rows L2 MI 
local macro_rules | `(tactic| walk_at "runp") => `(tactic| simp only [wp_bind, wp_rng1, wp_rng2, wp_met, wp_neg, wp_bYes, if_true, wp_var, wp_c, wp_bin, wp_un, wp_call, wp_nil, wp_cons, wp_tup, wp_lst, wp_dic0, wp_int, wp_bcmp, wp_boolOf, wp_btru, wp_truB, wp_bnot, wp_band, wp_bor, wp_dif, wp_xand, wp_xor, wp_xnot, MV.bl.injEq, wp_intOf, wp_ixT, wp_gN, wp_gS, wp_seq, wp_snil, wp_sexpr, wp_sret, wp_sif, wp_asg, wp_par, wp_par3, wp_for, wp_iany, wp_irng, wp_ok, wp_ite, wp_iteR, wp_lc,
  wp_srcT, wp_srcS, wp_enumT, wp_zipT, wp_gT, wp_gsNil, wp_gsCons, wp_lenT, wp_isTT, wp_isTS, wp_isTI, wp_isTN, wp_isTB, wp_chain, wp_eqS, wp_neS, wp_neI, wp_eqII, wp_isNT, wp_isNN, wp_notNT, wp_notNN, wp_inT, wp_inTc, wp_inT0, flt_true, wp_inC, wp_notInT, wp_tupT, wp_addII, wp_backT, wp_starT, itemsT, wp_sl, wp_oN, wp_oS, atI0, atI1, atI2, atI3, atI4, wp_never, wipeM,
  ty_NoneType_bool, ty_NoneType_int, ty_NoneType_str, ty_NoneType_tuple, ty_NoneType_list, ty_bool_bool, ty_bool_int, ty_bool_str, ty_bool_tuple, ty_bool_list, ty_int_bool, ty_int_int, ty_int_str, ty_int_tuple, ty_int_list, ty_str_bool, ty_str_int, ty_str_str, ty_str_tuple, ty_str_list, ty_tuple_bool, ty_tuple_int, ty_tuple_str, ty_tuple_tuple, ty_tuple_list, Bool.not_false, Bool.not_true, Bool.false_eq_true, if_false,
  true_and, true_or, and_true, decide_eq_true_eq, Bool.and_eq_true, List.getElem?_cons_zero, List.getElem?_cons_succ, Option.some.injEq, exists_eq_left', List.set_cons_zero, List.set_cons_succ, List.map_cons, List.map_nil, List.cons_append, List.nil_append, List.replicate_succ, List.replicate_zero, List.length_cons, List.length_nil])
namespace MI
open PySem PySem.Spec PyProof.Rows L2 MI
end MI
open PySem PySem.Spec PyProof.Rows L2 MI 
local macro_rules | `(tactic| walk_at "fin0") => `(tactic| first | exact Gr.refl | exact ⟨rfl, Gr.refl⟩ | exact ⟨.inl rfl, Gr.refl⟩ | exact ⟨trivial, Gr.refl⟩ | exact ⟨.inl rfl, rfl⟩ | exact rfl)
namespace MI
open PySem PySem.Spec PyProof.Rows L2 MI
end MI
set_option Elab.async false
set_option linter.all false
set_option maxRecDepth 100000
/-! Rows of classes as plain data. -/
namespace MI
open PySem PySem.Spec PyProof.Rows L2
structure Mt where
  word : Str
  ins : List Str
  out : Str
  code : List MV
  hs : List MV
structure Cs where
  name : Str
  upper : Str
  fields : List (Str × Str)
  ms : List Mt
def names (cs : List Cs) : List Str := cs.map (·.name)
def cfind (cs : List Cs) (x : Str) : Option Cs := cs.find? fun c => decide (c.name = x)
def rowOf : List Cs → Str → List Cs
  | [], _ => []
  | c :: r, x => if c.name = x then c :: rowOf r c.upper else rowOf r x
def lineOf (cs : List Cs) (x : Str) : List Str := (rowOf cs.reverse x).map (·.name) ++ ([("top" : Str)] : List Str)
structure OkN (cs : List Cs) : Prop where
  nd : (names cs).Nodup
  top : ("top" : Str) ∉ names cs
  up : ∀ pre c post, cs = pre ++ c :: post → c.upper = ("top" : Str) ∨ c.upper ∈ names pre
theorem names_app {a b : List Cs} : names (a ++ b) = names a ++ names b := List.map_append
namespace OkN
variable {cs pre post : List Cs} {c : Cs}
theorem upper (h : OkN cs) (e : cs = pre ++ c :: post) : c.upper = ("top" : Str) ∨ c.upper ∈ names cs := by
  rcases h.up pre c post e with hu | hu
  · exact .inl hu
  · refine .inr ?_
    rw [e, names_app]
    exact List.mem_append_left _ hu
end OkN
def msAt (cs : List Cs) (x : Str) : List Mt := match cfind cs x with
  | some c => c.ms
  | none => []
def idxOf (w : Str) (ms : List Mt) : Option Nat := ms.findIdx? fun m => decide (m.word = w)
def nearL (cs : List Cs) (w : Str) : List Str → Option (Str × Nat)
  | [] => none
  | u :: us => match idxOf w (msAt cs u) with
    | some i => some (u, i)
    | none => nearL cs w us
def near (cs : List Cs) (x w : Str) : Option (Str × Nat) := nearL cs w (lineOf cs x)
end MI
set_option Elab.async false
set_option linter.all false
set_option maxRecDepth 100000
/-! == of tuples. -/
namespace MI
open PySem PySem.Spec PyProof.Rows L2
section
variable {E : EX} {S : Store} {Q : MV → Store → Prop}
end
end MI
set_option Elab.async false
set_option linter.all false
set_option maxRecDepth 100000
/-! Lines upward. -/
namespace MI
open PySem PySem.Spec PyProof.Rows L2
section
variable {cs : List Cs}
end
end MI
set_option Elab.async false
set_option linter.all false
set_option maxRecDepth 100000
/-! in, not in of data of any depth. -/
namespace MI
open PySem PySem.Spec PyProof.Rows L2
section
variable {X : Cx} {G : Gx}
end
end MI
set_option Elab.async false
set_option linter.all false
set_option maxRecDepth 100000
/-! comprehensions of two fors. -/
namespace MI
open PySem PySem.Spec PyProof.Rows L2
section
variable {X : Cx} {G : Gx} {W : WX} {e a b c : Expr} {pos : Pos}
end
/-! reading them -/
section
variable {E : EX} {S : Store} {ρ : Env'} {Q : MV → Store → Prop}
end
end MI
set_option Elab.async false
set_option linter.all false
set_option maxRecDepth 100000
set_option maxHeartbeats 4000000
/-! a tuple once, a tuple no time. -/
namespace MI
open PySem PySem.Spec PyProof.Rows L2
theorem tuple_mul1 (l : Addr) (items : Array Value) (n : Nat) (dd : Option Addr) (sl : Array (Option Value)) (u : Tok) :
    Meets (Builtin.«tuple.__mul__» ⟨[.ref l, .int 1 u], []⟩) (fun _ R s => s.heap.get? l = some { cls := .type "tuple", dict := dd, data := .seq items n, slots := sl } ∧ R (.ok (.ret (Value.ref l))) s) :=
  .of_wp fun prog w A R s h => by
    obtain ⟨hp, g, d, tk, os⟩ := s
    obtain ⟨hl, h⟩ := h
    have f1 := AutoSeq1.idx_int
    wp_walk using wpAny_loadPart' hl
    exact ⟨_, rfl, h⟩
theorem tuple_mul0 (l : Addr) (items : Array Value) (n : Nat) (dd : Option Addr) (sl : Array (Option Value)) (u : Tok) (he : items.isEmpty = false) :
    Meets (Builtin.«tuple.__mul__» ⟨[.ref l, .int 0 u], []⟩) (fun _ R s => s.heap.get? l = some { cls := .type "tuple", dict := dd, data := .seq items n, slots := sl } ∧ R (.ok (.ret (Value.ref s.heap.objs.size))) { s with heap := s.heap.push { cls := Value.type "tuple", data := Data.seq #[] }, toks := s.toks }) :=
  .of_wp fun prog w A R s h => by
    obtain ⟨hp, g, d, tk, os⟩ := s
    obtain ⟨hl, h⟩ := h
    have f1 := AutoSeq1.idx_int
    wp_walk using wpAny_loadPart' hl
    exact ⟨_, rfl, h⟩
def rRepT1 (K : PySem.W.Frag) : R2 := fun x y H Q => ∃ l xs, x = .ref l ∧ y = .int 1 ∧ SqT K H l xs ∧ Q (.ref l) H
def rRepT0 (K : PySem.W.Frag) : R2 := fun x y H Q => ∃ l xs, x = .ref l ∧ y = .int 0 ∧ SqT K H l xs ∧ xs ≠ [] ∧ ∀ p, H p = none → Q (.ref p) (upd H p (.tup []))
section
variable {X : Cx} {G : Gx} {W : WX} {a b : Expr} {pos : Pos} {da db : Den}
theorem op_repT1 : OpR X (binaryOp .Mult) (rRepT1 X.K) := by
  intro pins s σ H x y v u Q I rx ry h
  obtain ⟨l, xs, rfl, rfl, hT, q⟩ := h
  cases rx
  obtain ⟨t, rfl⟩ := ry
  obtain ⟨its, r, ⟨⟨cls, dd, data, sl⟩, ho, hc, n, hd⟩, hs⟩ := I.tuple hT
  simp only at hc hd
  subst hc hd
  exact wpAny_binaryOp_repeat_ref (T := "tuple") (U := "int") (by decide) ⟨_, ho, rfl⟩ (fun s' => typeIs_int s' 1 t) noFill_tuple_mul F.fills_int_mul F.slot_int_rmul repeat_tuple F.slot_int_index.lookup
    (call_meets F.slot_int_rmul (typeIs_int s 1 t) F.entry_int_rmul (F.args_int_rmul_2 _ _) (int_rmul_tuple 1 t l its.toArray n dd sl)
      ⟨ho, rfl, ⟨_, ho, rfl⟩, call_meets F.slot_tuple_mul ⟨_, ho, rfl⟩ F.entry_tuple_mul (F.args_tuple_mul_2 _ _) (tuple_mul1 l its.toArray n dd sl t) ⟨ho, .ref l, H, I, rfl, q⟩⟩)
theorem op_repT0 : OpR X (binaryOp .Mult) (rRepT0 X.K) := by
  intro pins s σ H x y v u Q I rx ry h
  obtain ⟨l, xs, rfl, rfl, hT, hne, q⟩ := h
  cases rx
  obtain ⟨t, rfl⟩ := ry
  obtain ⟨its, r, ⟨⟨cls, dd, data, sl⟩, ho, hc, n, hd⟩, hs⟩ := I.tuple hT
  simp only at hc hd
  subst hc hd
  have hle : its.length = xs.length := r.length.symm
  have hi : its.toArray.isEmpty = false := by
    cases its with
    | nil => exact absurd (List.eq_nil_of_length_eq_zero hle.symm) hne
    | cons a b => rfl
  exact wpAny_binaryOp_repeat_ref (T := "tuple") (U := "int") (by decide) ⟨_, ho, rfl⟩ (fun s' => typeIs_int s' 0 t) noFill_tuple_mul F.fills_int_mul F.slot_int_rmul repeat_tuple F.slot_int_index.lookup
    (call_meets F.slot_int_rmul (typeIs_int s 0 t) F.entry_int_rmul (F.args_int_rmul_2 _ _) (int_rmul_tuple 0 t l its.toArray n dd sl)
      ⟨ho, rfl, ⟨_, ho, rfl⟩, call_meets F.slot_tuple_mul ⟨_, ho, rfl⟩ F.entry_tuple_mul (F.args_tuple_mul_2 _ _) (tuple_mul0 l its.toArray n dd sl t hi) ⟨ho, .ref s.heap.objs.size, _, I.laid (t' := s.toks) (o := .tup []) (fun b ob q => Heap.get?_push_of_some _ q) (Nat.le_refl _) ⟨by rw [sizeLine_eq]; decide, _, .nil, IsTup.new _ _⟩, rfl, q _ (I.hok.fresh (Nat.le_refl _))⟩⟩)
theorem w_mul {G : Gx} : OpW G fMul (fun x y H Q => (rI CMul (fun i j => .int (i * j)) x y H Q) ∨ (rRepT G.K x y H Q ∨ rRep x y H Q)) := by
  intro ι H S E Q w1 w2 v1 v2 s r1 r2 h
  unfold fMul at h
  split at h
  · cases r1
    cases r2
    split at h
    · rename_i i j hz
      refine .inl ⟨_, _, rfl, rfl, ?_, h ι H (.refl s) _ (.int _)⟩
      simp only [Bool.or_eq_true, Bool.and_eq_true, decide_eq_true_eq] at hz
      exact hz
    · exact h.elim
  · cases r1 with
    | tup t q =>
      cases r2
      split at h
      · rename_i l k hz
        simp only [Bool.and_eq_true, decide_eq_true_eq] at hz
        obtain ⟨z1, z2, z3, z4⟩ := hz
        refine .inr (.inl ⟨_, _, _, rfl, rfl, t, fun e => z1 ?_, z2, z3, by rw [← q.length]; exact z4, new_tup s (rws_rep q _) h⟩)
        subst e
        cases q
        rfl
      · exact h.elim
  · cases r1 with
    | ref i =>
      cases r2
      split at h
      · rename_i l hS
        obtain ⟨vs, g, q⟩ := s.obj _ _ _ hS i
        split at h
        · rename_i k _ _ hz
          simp only [Bool.and_eq_true, decide_eq_true_eq] at hz
          obtain ⟨z1, z2, z3⟩ := hz
          refine .inr (.inr ⟨_, _, vs, rfl, rfl, g, by omega, by omega, ?_, new_lst s (rws_rep q _) h⟩)
          rw [← q.length]
          have hk : k.toNat ≤ 100 := by omega
          exact Nat.le_trans (Nat.mul_le_mul z3 hk) (by rw [sizeLine_eq]; decide)
        · exact h.elim
      · exact h.elim
  · exact h.elim
def fMulX (w1 w2 : MV) (S : Store) : Res MV := match w1, w2 with
  | .tup x, .int k => if k = 1 then .ok (.tup x) S else if k = 0 then (if x ≠ [] then .ok (.tup []) S else .stuck) else fMul (.tup x) (.int k) S
  | w1, w2 => fMul w1 w2 S
theorem de_mulX (hK : X.K = G.K) (ha : DE X G W a da) (hb : DE X G W b db) : DE X G W (.BinOp a .Mult b pos) (dBin fMulX da db) := by
  refine de_op (OpR.or (OpR.or op_repT1 op_repT0) (OpR.or op_mul (OpR.or op_repT op_rep))) ?_ ha hb
  rw [hK]
  intro ι H S E Q w1 w2 v1 v2 s r1 r2 h
  have old : fin G ι H E (PV G Q) (fMul w1 w2 S) → _ := fun h => w_mul ι H S E Q w1 w2 v1 v2 s r1 r2 h
  unfold fMulX at h
  split at h
  · cases r1 with
    | tup t q =>
      cases r2
      split at h
      · rename_i hk
        subst hk
        exact .inl (.inl ⟨_, _, rfl, rfl, t, h ι H (.refl s) _ (.tup t q)⟩)
      · split at h
        · rename_i hk
          subst hk
          split at h
          · rename_i hx
            refine .inl (.inr ⟨_, _, rfl, rfl, t, fun e => hx ?_, new_tup s .nil h⟩)
            subst e
            cases q
            rfl
          · exact h.elim
        · exact .inr (old h)
  · exact .inr (old h)
end
end MI
set_option Elab.async false
set_option linter.all false
set_option maxRecDepth 100000
set_option maxHeartbeats 1000000
/-! reversed(range(n)), dict(list of pairs with text keys). -/
namespace MI
open PySem PySem.Spec PyProof.Rows L2
section
variable {X : Cx} {G : Gx} {W : WX} {a b : Expr} {pos : Pos} {da db : Den} {dr : DenL} {es : List Expr}
end
section
variable {S : Store} {E : EX} {QI : Src → Store → Prop} {ρ : Env'}
end
end MI
set_option Elab.async false
set_option linter.all false
set_option maxRecDepth 100000
/-! x += e for whole numbers -/
namespace MI
open PySem PySem.Spec PyProof.Rows L2
section
variable {X : Cx} {G : Gx} {W : WX} {a : Expr} {da : Den} {pos : Pos}
end
end MI
set_option Elab.async false
set_option linter.all false
set_option maxRecDepth 100000
/-! texts in order: <, sorted; the place of a text in a list -/
namespace MI
open PySem PySem.Spec PyProof.Rows L2
section
variable {X : Cx} {G : Gx} {W : WX} {a : Expr} {es : List Expr} {da : Den} {dr : DenL} {pos : Pos}
end
end MI
set_option Elab.async false
set_option linter.all false
set_option maxRecDepth 100000
/-! raise X("..."), X an own error without an __init__ of its own -/
namespace MI
open PySem PySem.Spec PyProof.Rows L2
section
variable {X : Cx} {G : Gx} {W : WX}
end
section
variable {E : EX} {S : Store} {ρ : Env'}
end
end MI
set_option Elab.async false
set_option linter.all false
set_option maxRecDepth 100000
/-! try: body, except X: suite (the exception has no name) -/
namespace MI
open PySem PySem.Spec PyProof.Rows L2
section
variable {X : Cx} {x : Str} {c : Value} {body suite : List Stmt} {b₀ : Stmt} {np pos pos' : Pos} {tb : WX → TS} {ts : Addr → Value → Option Addr → TS} {Wout : WX}
end
section
variable {X : Cx} {G : Gx} {W : WX}
end
section
variable {E : EX} {S : Store} {ρ : Env'} {QF : Fl → Store → Prop}
end
end MI
set_option Elab.async false
set_option linter.all false
set_option maxRecDepth 100000
/-! own errors over ValueError without an __init__ of their own: what the top has written of them -/
namespace MI
open PySem PySem.Spec PyProof.Rows L2
abbrev mroVE : List Value := [.type "ValueError", .type "Exception", .type "BaseException", .type "object"]
structure OwnErr (K : PySem.W.Frag) (C : Addr) : Prop where
  exc : PySem.W.excIn K C mroVE "ValueError.__new__" = true
  keep : PySem.W.keepIn K (.ref C) = true
  sub : PySem.W.subIn K (.ref C) (.type "BaseException") = some true
  ty : PySem.W.typeIn K (.ref C) = some (.type "type")
def exmB (K : PySem.W.Frag) (C D : Addr) (b : Bool) : Bool := decide (PySem.W.exmOne K (.ref C) (.ref D) = some b)
theorem exmB_ok {K : PySem.W.Frag} {C D : Addr} {b : Bool} (h : exmB K C D b = true) : PySem.W.exmOne K (.ref C) (.ref D) = some b := of_decide_eq_true h
end MI
set_option Elab.async false
set_option linter.all false
set_option maxRecDepth 100000
set_option maxHeartbeats 2000000
/-! own errors whose __init__ says super().__init__(f"..") and then self.f = f for each of its parameters -/
namespace PySem
namespace EIN
open PySem.W PySem.Calls PyProof.Rows PySem.HandSPX
/-! ### the text of __init__ -/
def tailOk : List Stmt → List Str → Bool
  | [], [] => true
  | .Assign [.Attribute (.Name s _) f _] (.Name g _) _ :: r, x :: l => decide (s = ("self" : Str)) && (decide (f = x) && (decide (g = x) && tailOk r l))
  | _, _ => false
def partsOk (fl : List Str) : List Expr → Bool
  | [] => true
  | .Constant (.str z) _ _ :: r => decide (z.length ≤ 200) && partsOk fl r
  | .FormattedValue (.Name g _) (-1) none _ :: r => decide (g ∈ fl) && partsOk fl r
  | _ :: _ => false
def Fmt (v : Value) : Prop := v = .none ∨ ∃ (i : Int) (t : Tok), v = .int i t ∧ i.natAbs.log2 < 1920
section
variable {prog : Program} {w : World} {A : Around} {E : Value → Shared → Prop} {s : Shared} {env : Env}
theorem fmt_val {v : Value} {Q : Value → Shared → Prop} (hv : Fmt v) (h : ∀ y t tk, y.length ≤ 10000 → Q (.str y t) { s with toks := tk }) : wpAny (model prog w) A (formatField v Str.empty) Q E s := by
  rcases hv with rfl | ⟨i, t, rfl, hi⟩
  · exact wpAny_formatField_none (h _ _ _ (by decide +kernel))
  · refine wpAny_formatField_int hi (h _ _ _ ?_)
    have e := int_text_length_le (a := i) (k := 1920) (by decide) hi
    rw [ofString_length]
    omega
theorem parts_run {fl : List Str} {vm : Str → Option Value} {L : Addr} (hk : env.scope.kind = .function) (hL : env.locals = L) (hfl : ∀ g ∈ fl, env.kindOf g = some .local ∧ (g == ("__debug__" : Str)) = false ∧ ∃ v, vm g = some v ∧ Fmt v) :
    ∀ (es : List Expr) (acc : Str) (s : Shared) (Q : Str → Shared → Prop), partsOk fl es = true → s.heap.Ns L vm → acc.length + 10000 * es.length ≤ 1000000 → (∀ out tk, out.length ≤ 1000000 → Q out { s with toks := tk }) → Joins (model prog w) A E (evalEach es env) acc Q s
  | [], acc, s, Q, _, _, hl, h => by
    have e0 : evalEach [] env = [] := by first | rfl | simp [evalEach]
    rw [e0]
    exact h acc s.toks (by simpa using hl)
  | e :: es, acc, s, Q, hp, hn, hl, h => by
    have e0 : evalEach (e :: es) env = eval e env :: evalEach es env := by first | rfl | simp [evalEach]
    rw [e0]
    have next : ∀ y t tk, y.length ≤ 10000 → partsOk fl es = true → ∃ y' t', (.str y t : Value) = .str y' t' ∧ (acc ++ y').length ≤ sizeLine ∧ Joins (model prog w) A E (evalEach es env) (acc ++ y') Q { s with toks := tk } := fun y t tk hy hp2 => by
      have hz : (acc ++ y).length + 10000 * es.length ≤ 1000000 := by
        rw [strLen_append]
        simp only [List.length_cons] at hl
        omega
      refine ⟨y, t, rfl, ?_, parts_run hk hL hfl es (acc ++ y) { s with toks := tk } Q hp2 hn hz fun out tk2 ho => h out tk2 ho⟩
      rw [sizeLine_eq]
      omega
    unfold partsOk at hp
    split at hp
    · rename_i heq
      cases heq
    · rename_i z k p r heq
      injection heq with h1 h2
      subst h1 h2
      rw [Bool.and_eq_true, decide_eq_true_eq] at hp
      refine wpAny_mono (?_ : wpAny (model prog w) A (eval (.Constant (.str z) k p) env) (fun v s1 => ∃ t tk, v = .str z t ∧ s1 = { s with toks := tk }) E s) (fun v s1 hv => ?_) fun _ _ x => x
      · exact wpAny_Constant_str ⟨_, _, rfl, rfl⟩
      · obtain ⟨t, tk, rfl, rfl⟩ := hv
        exact next z t tk (by omega) hp.2
    · rename_i g p q r heq
      injection heq with h1 h2
      subst h1 h2
      rw [Bool.and_eq_true, decide_eq_true_eq] at hp
      obtain ⟨k1, k2, v, k3, k4⟩ := hfl g hp.1
      subst hL
      refine wpAny_FormattedValue_plain (wpAny_Name (wpAny_loadName_local hk k1 hn k3 ?_) k2)
      exact fmt_val k4 fun y t tk hy => next y t tk hy hp.2
    · cases hp
end
theorem call_mw {prog : Program} {w : World} {A : Around} {E : Value → Shared → Prop} {h : Heap} {g : Array GenState} {d : Drawn} {t : Nat} {os : OsState} {nm q : Str} {C N : Addr} {bs bm : List Value} {hdct : Bool} {sn : List Str} {sub : List Value} {ab : Bool} {col : Option Bool} {dd : Option Addr} {k0 k1 k2 k3 k5 : Option Value}
    {u e t0 : Addr} {rest : List Value} {Q : Value → Shared → Prop} (hC : h.get? C = some (excClassObj nm q C N bs bm hdct sn sub ab col dd k0 k1 k2 k3 k5 "ValueError.__new__")) (he : h.get? e = some (excO C t0)) (hu : h.get? u = some (kxs_mw "ValueError.__init__" e)) (hrest : rest.length ≤ sizeLine)
    (hq : ∀ h' t1, (∀ b o, b ≠ e → h.get? b = some o → h'.get? b = some o) → h'.get? e = some (excO C t1) → Q .none ⟨h', g, d, t, os⟩) :
    wpAny (model prog w) A (call (.ref u) rest) Q E ⟨h, g, d, t, os⟩ := by
  refine wpAny_call (codeAny_of_tree ?_)
  show wpAny _ A.in1 (callAny (.ref u) ⟨rest, []⟩) _ _ _
  simp only [callAny]
  refine wpAny_bind (wpAny_load hu ?_)
  simp only [kxs_mw, show (Value.type "method-wrapper" == Value.type "method" || Value.type "method-wrapper" == Value.type "builtin_function_or_method" || Value.type "method-wrapper" == Value.type "method-wrapper") = true by decide, if_true]
  refine W.KFB.if_so (by decide) ?_
  refine wpAny_bind (check_bound_init F.excBase_ValueError.toExcCallFacts hC he rfl ?_)
  refine wpAny_bind (wpAny_pure (wpAny_pure ?_))
  refine ⟨plainId_quiet F.excBase_ValueError.init.plain _, codeAny_builtin F.excBase_ValueError.initEntry ?_⟩
  rw [Around.under_plainId F.excBase_ValueError.init.plain _]
  wp_walk
  refine hq _ h.objs.size (fun b o hb ho => ?_) ?_
  · rw [Heap.get?_update_other _ _ (Ne.symm hb)]
    exact Heap.get?_push_of_some _ ho
  · rw [Heap.get?_update_self _ (Heap.get?_push_of_some _ he) rfl]
    rfl
section
variable {M : Model} {A : Around} {E : Value → Shared → Prop} {s : Shared} {env : Env} {c : Code}
theorem call_pos {f : Expr} {as : List Expr} {ks : List Keyword} {p apos pos : Pos} {Q : Pos → Shared → Prop} (h : ∀ q, Q q s) : wpAny M A (methodCallPos true (.Call f as ks p) env apos pos) Q E s := by
  unfold methodCallPos
  split
  · exact wpAny_pure (h _)
  · refine wpAny_bind (wpAny_pure ?_)
    rw [if_neg (by decide)]
    exact wpAny_bind (wpAny_pure (wpAny_pure (h _)))
theorem wpAt_superCall {f : Expr} {as : List Expr} {ks : List Keyword} {p apos pos : Pos} {e : Expr} {name : Str} {Q : Value → Shared → Prop}
    (h : _root_.PySem.wpAt M A c (attributeBase (.Call f as ks p) name env (eval (.Call f as ks p) env)) (fun ov s₁ => ∀ pl, wpAny M A (getMethod ov name pl) (fun fx s₂ => ∀ q, wpAny M A (callWith q fx.1 fx.2 (backTo pos (starEach [e] env)) []) Q E s₂) E s₁) E s)
    (hs : starEach [e] env = [(false, eval e env)] := by rfl) :
    _root_.PySem.wpAt M A c (eval (.Call (.Attribute (.Call f as ks p) name apos) [e] [] pos) env) Q E s := by
  rw [arm_eval_Call]
  refine wpAt_bind (wpAt_mono h (fun ov s₁ h₁ => wpAt_of_wpAny (wpAny_bind (wpAny_standAt ?_))) fun _ _ x => x)
  unfold methodCall
  rw [hs] at h₁ ⊢
  show wpAny M A (do
    let (f', first) ← holding [ov] (calleeOf true (.Call f as ks p) env ov name)
    let callPos ← methodCallPos true (.Call f as ks p) env apos pos
    callWith callPos f' first (backTo pos [(false, eval e env)]) []) Q E s₁
  refine wpAny_bind (wpAny_holding (wpAny_mono (h₁ _) (fun fx s₂ h₂ => ?_) fun _ _ x => x))
  exact wpAny_bind (call_pos fun q => h₂ q)
end
structure SupTxt (prog : Program) (K : Frag) (C fI cc cda : Addr) (fd : FuncData) (ar : Arg) : Prop where
  T : L2.OexC K C
  fn : ∃ oc od osl, K.lookup fI = some ⟨oc, od, .func fd, osl⟩
  hp : (fd.params.posonlyargs ++ fd.params.args).head? = some ar
  code : ∃ ccl cdd vs ccs file tf, K.lookup cda = some ⟨ccl, cdd, .fields vs, ccs⟩ ∧ vs[2]? = some (.str file tf) ∧ ((prog.main.file : Str) == file) = true
  cell : ∃ cl cld csl, K.lookup cc = some ⟨cl, cld, .cell (some (.ref C)), csl⟩
  sub : mroIn K C (.ref C) = some true
  sv : subIn K (.ref C) (.type "ValueError") = some true
  up : ks_superIn K C C "__init__" = some (some (.builtin "ValueError.__init__"))
  op : nsIn K cStatics "thirdparty.any" = some none
  top : (prog.main.scope.names.lookup ("super" : Str)).isSome = false
section
variable {prog : Program} {w : World} {A : Around} {E : Value → Shared → Prop} {s : Shared} {K : Frag} {C fI cc cda x t0 L : Addr} {fd : FuncData} {ar : Arg} {vm mg mb : Str → Option Value} {qual : Str} {scope : Scope}
theorem super_ok {body : List Stmt} {fl : List Str} {parts : List Expr} {p0 p1 p2 p3 p4 p5 : Pos} {Q : Flow → Shared → Prop} (T : SupTxt prog K C fI cc cda fd ar) (X : K.In s.heap) (hx : s.heap.get? x = some (excO C t0)) (hn : s.heap.Ns L vm) (hself : vm ar.arg = some (.ref x))
    (hG : s.heap.Ns mainGlobals mg) (hgs : mg "super" = none) (hB : s.heap.Ns builtinsNs mb) (hbs : mb "super" = some (.type "super"))
    (hk : scope.kind = .function) (hks : scope.names.lookup ("super" : Str) = some .globalImplicit) (hkc : scope.names.lookup ("__class__" : Str) = some .free) (hka : scope.names.lookup ar.arg = some .local)
    (hfl : ∀ g ∈ fl, (ksEnv qual scope L fI (.ref cda) cc).kindOf g = some .local ∧ (g == ("__debug__" : Str)) = false ∧ ∃ v, vm g = some v ∧ Fmt v) (hp : partsOk fl parts = true) (hl2 : 2 ≤ parts.length) (hl : parts.length ≤ 90)
    (hq : ∀ h' tk t1, (∀ b o, b ≠ x → s.heap.get? b = some o → h'.get? b = some o) → h'.get? x = some (excO C t1) → Q .next { s with heap := h', toks := tk }) :
    _root_.PySem.wpAt (model prog w) A (.func body (ksEnv qual scope L fI (.ref cda) cc)) (exec (.Expr (.Call (.Attribute (.Call (.Name "super" p0) [] [] p1) "__init__" p2) [.JoinedStr parts p3] [] p4) p5) (ksEnv qual scope L fI (.ref cda) cc)) Q E s := by
  obtain ⟨oc, od, osl, hf⟩ := T.fn
  obtain ⟨ccl, cdd, vs, ccs, file, tf, hcode, hvs, hfile⟩ := T.code
  obtain ⟨cl, cld, csl, hcell⟩ := T.cell
  obtain ⟨nm, q, N, bs, bm, sn, sub, ab, col, dd, k0, k1, k2, k3, k5, hC, hbm⟩ := T.T.cls
  have hcl : clsIn K C = some { name := nm, bases := bs, mro := .ref C :: bm, ns := N, qualname := q, hasDict := true, slotNames := sn, subclasses := sub, abstract := ab, collection := col, hasDel := false } := by unfold clsIn; rw [hC] <;> rfl
  have I : W.InstAt s.heap x (excO C t0) C none := ⟨hx, rfl, rfl, trivial⟩
  obtain ⟨oD, hD1, hD2⟩ : ∃ oD, s.heap.get? C = some oD ∧ oD.data = .cls { name := nm, bases := bs, mro := .ref C :: bm, ns := N, qualname := q, hasDict := true, slotNames := sn, subclasses := sub, abstract := ab, collection := col, hasDel := false } := ⟨_, X _ _ hC, rfl⟩
  refine ks_wpAt_Expr_any (wpAt_superCall ?_) (by unfold interactive; rw [show (ksEnv qual scope L fI (.ref cda) cc).scope.kind = .function from hk]; rfl)
  obtain ⟨hh, g, d, t, os⟩ := s
  refine ks_wpAt_super_base (env := ksEnv qual scope L fI (.ref cda) cc) hks hkc (by decide) rfl (X _ _ hf) rfl T.hp rfl (X _ _ hcode) rfl hvs hfile T.top ?_
  refine ks_loadName_global hk hks (loadGlobal_builtin (env := ksEnv qual scope L fI (.ref cda) cc) hG hgs hB hbs ⟨rfl, ?_⟩)
  refine wpAny_loadName_free hk hkc rfl ⟨_, X _ _ hcell, rfl⟩ ?_
  refine wpAny_loadName_local hk hka hn hself ?_
  refine ks_wpAny_isType_cls hD1 hD2 ⟨rfl, ?_⟩
  refine ks_wpAny_call_super hD1 hD2 hx rfl (fun c e => ?_) (looks_mroIn X T.sub) (fun h' e k => ?_)
  · cases e
  intro pl
  have X' : K.In h' := X.keeps k
  have hxC : x ≠ C := ks_ne X I hcl
  have I' : W.InstAt h' x (excO C t0) C none := ⟨k _ _ hx, rfl, rfl, trivial⟩
  have up := T.up
  unfold ks_superIn at up
  rw [hcl] at up
  refine kxs_getMethod kxs_ValueError e (looks_opaque X' T.op) (l₀ := .ref C :: bm) ((looks_clsIn X' hcl).andThen .now) rfl X' up (I'.type.andThen (looks_subIn X' T.sv)) hxC (by decide) ?_
  intro q
  rw [show starEach [Expr.JoinedStr parts p3] (ksEnv qual scope L fI (.ref cda) cc) = [(false, eval (Expr.JoinedStr parts p3) (ksEnv qual scope L fI (.ref cda) cc))] from rfl]
  refine kxs_callWith (i := "ValueError.__init__") (x := x) rfl (evalArgs_plain ?_)
  have hne : parts ≠ [] := fun z => by rw [z] at hl2; simp at hl2
  obtain ⟨v1, v2, rest, hparts⟩ : ∃ v1 v2 rest, parts = v1 :: v2 :: rest := by
    match parts, hl2 with
    | v1 :: v2 :: rest, _ => exact ⟨v1, v2, rest, rfl⟩
    | [_], h => simp at h
    | [], h => simp at h
  have hL : L ≠ h'.objs.size := by
    obtain ⟨oL, _, _, hoL, _⟩ := hn
    exact Nat.ne_of_lt (Heap.lt_size (k _ _ hoL))
  have kk : ∀ b o, hh.get? b = some o → (h'.push (kxs_mw "ValueError.__init__" x)).get? b = some o := fun b o e => Heap.get?_push_of_some _ (k b o e)
  have hu : (h'.push (kxs_mw "ValueError.__init__" x)).get? h'.objs.size = some (kxs_mw "ValueError.__init__" x) := Heap.get?_push_at rfl rfl
  have key : wpAny (model prog w) A (eval (Expr.JoinedStr parts p3) (ksEnv qual scope L fI (.ref cda) cc)) (fun v s1 => ∃ out tk2 tk3, v = .str out tk2 ∧ out.length ≤ sizeLine ∧ s1 = ⟨h'.push (kxs_mw "ValueError.__init__" x), g, d, tk3, os⟩) E ⟨h'.push (kxs_mw "ValueError.__init__" x), g, d, t + 1, os⟩ := by
    subst hparts
    refine wpAny_JoinedStr (parts_run (env := ksEnv qual scope L fI (.ref cda) cc) (fl := fl) hk rfl hfl _ _ _ _ hp (hn.keeps kk) (by show 0 + _ ≤ _; omega) fun out tk ho => ⟨by rw [sizeLine_eq]; omega, out, _, _, rfl, by rw [sizeLine_eq]; omega, rfl⟩)
  show wpAny (model prog w) A (spliced [(false, eval (Expr.JoinedStr parts p3) (ksEnv qual scope L fI (.ref cda) cc))]) _ _ _
  refine spliced_cons (wpAny_mono key (fun v s1 hv => ?_) fun _ _ x => x)
  obtain ⟨out, tk2, tk3, rfl, ho, rfl⟩ := hv
  refine spliced_nil ⟨hu, ?_⟩
  have one : ([Value.str out tk2] : List Value).length ≤ sizeLine := by
    rw [sizeLine_eq]
    exact (by decide : 1 ≤ 16777216)
  exact call_mw ((X.keeps kk) _ _ hC) (kk _ _ hx) hu one fun h2 t1 k2 e2 => hq h2 tk3 t1 (fun b o hb ho2 => k2 b o hb (kk b o ho2)) e2
end
def mOf (vm : Str → Option Value) (D : List Str) : Str → Option Value := fun y => if y ∈ D then vm y else none
theorem mOf_snoc {vm : Str → Option Value} {D : List Str} {f : Str} {v : Value} (h : vm f = some v) : (fun y => if y = f then some v else mOf vm D y) = mOf vm (D ++ [f]) := by
  funext y
  unfold mOf
  by_cases e : y = f
  · subst e
    rw [if_pos rfl, if_pos (by simp), h]
  · rw [if_neg e]
    by_cases m : y ∈ D
    · rw [if_pos m, if_pos (by simp [m])]
    · rw [if_neg m, if_neg (by simp [m, e])]
theorem mOf_within (vm : Str → Option Value) (D : List Str) : Within (mOf vm D) D := fun y hy => by
  unfold mOf at hy
  by_cases m : y ∈ D
  · exact m
  · rw [if_neg m] at hy
    exact absurd rfl hy
inductive Ex (h0 h : Heap) (x C t1 : Addr) (vm : Str → Option Value) : List Str → Prop where
  | none (hx : h.get? x = some (excO C t1)) (sz : h0.objs.size ≤ h.objs.size) : Ex h0 h x C t1 vm []
  | some {D : List Str} (dx : Addr) (hx : h.get? x = some ({ cls := .ref C, dict := some dx, data := .fields #[.ref t1, .none, .none, .none, .bool false, .none] } : Obj)) (hn : h.Ns1 dx (mOf vm D)) (big : h0.objs.size ≤ dx) (ne : dx ≠ x) : Ex h0 h x C t1 vm D
section
variable {prog : Program} {w : World} {A : Around} {E : Value → Shared → Prop} {K : Frag} {C fI cc cda x t1 L : Addr} {vm : Str → Option Value} {qual : Str} {scope : Scope} {c : Code}
theorem tail_run (T : L2.OexC K C) {h0 : Heap} (X : K.In h0) (hnx : K.lookup x = none) (hL : h0.Ns L vm) (hLx : L ≠ x) (hself : vm "self" = some (.ref x)) (hk : scope.kind = .function) (hka : scope.names.lookup ("self" : Str) = some .local) :
    ∀ (r : List Stmt) (l D : List Str) (s : Shared) (Q : Flow → Shared → Prop), tailOk r l = true → (∀ g ∈ l, (ksEnv qual scope L fI (.ref cda) cc).kindOf g = some .local ∧ (g == ("__debug__" : Str)) = false ∧ findIn K (.ref C) g = some none ∧ ∃ v, vm g = some v) → D.length + l.length ≤ 1000 →
      (∀ b o, b ≠ x → h0.get? b = some o → s.heap.get? b = some o) → Ex h0 s.heap x C t1 vm D →
      (∀ h' tk, (∀ b o, b ≠ x → h0.get? b = some o → h'.get? b = some o) → Ex h0 h' x C t1 vm (D ++ l) → Q .next { s with heap := h', toks := tk }) →
      _root_.PySem.wpAt (model prog w) A c (execs r (ksEnv qual scope L fI (.ref cda) cc)) Q E s
  | [], l, D, s, Q, ht, _, _, keep, ex, hq => by
    cases l with
    | cons a l => unfold tailOk at ht; cases ht
    | nil =>
      rw [List.append_nil] at hq
      exact wpAt_of_wpAny (wpAny_execs_nil (hq s.heap s.toks keep ex))
  | st :: r, l, D, s, Q, ht, hl, hlen, keep, ex, hq => by
    unfold tailOk at ht
    split at ht
    · exact absurd ‹st :: r = ([] : List Stmt)› (by simp)
    · rename_i z q1 f q2 g q3 q4 r' a l' heq
      injection heq with h1 h2
      subst h1 h2
      rw [Bool.and_eq_true, Bool.and_eq_true, Bool.and_eq_true, decide_eq_true_eq, decide_eq_true_eq, decide_eq_true_eq] at ht
      obtain ⟨rfl, rfl, rfl, ht⟩ := ht
      obtain ⟨n1, n2, n3, v, n4⟩ := hl g (by simp)
      have Xs : K.In s.heap := fun b o e => keep b o (fun y => by rw [y, hnx] at e; cases e) (X b o e)
      have hLs : s.heap.Ns L vm := by
        obtain ⟨oL, es, ep, hoL, rest⟩ := hL
        exact ⟨oL, es, ep, keep _ _ hLx hoL, rest⟩
      obtain ⟨nm, q, N, bs, bm, sn, sub, ab, col, dd, k0, k1, k2, k3, k5, hC, hbm⟩ := T.cls
      have hcl : clsIn K C = some { name := nm, bases := bs, mro := .ref C :: bm, ns := N, qualname := q, hasDict := true, slotNames := sn, subclasses := sub, abstract := ab, collection := col, hasDel := false } := by unfold clsIn; rw [hC] <;> rfl
      have more : ∀ h' tk, (∀ b o, b ≠ x → h0.get? b = some o → h'.get? b = some o) → Ex h0 h' x C t1 vm (D ++ [g]) → _root_.PySem.wpAt (model prog w) A c (execs r (ksEnv qual scope L fI (.ref cda) cc)) Q E { s with heap := h', toks := tk } := fun h' tk k e =>
        tail_run T X hnx hL hLx hself hk hka r l' (D ++ [g]) { s with heap := h', toks := tk } Q ht (fun y hy => hl y (List.mem_cons_of_mem _ hy)) (by rw [List.length_append, List.length_singleton]; rw [List.length_cons] at hlen; omega) k e fun h2 tk2 k2 e2 => hq h2 tk2 k2 (by rw [List.append_assoc] at e2; exact e2)
      refine ks_wpAt_execs_cons (ks_wpAt_Assign_Attr (wpAt_of_wpAny (wpAny_Name (wpAny_loadName_local hk n1 hLs n4 ?_) n2)))
      refine wpAny_Name (wpAny_loadName_local hk hka hLs hself ?_) (by decide)
      obtain ⟨hp, gs, d, t, os⟩ := s
      cases ex with
      | none hx sz =>
        refine set_plain Xs (ox := excO C t1) (od := Option.none) ⟨hx, rfl, rfl, trivial⟩ T.sa ?_
        refine exc_osa Xs hx hcl (show refsVE (.ref C :: bm) = true from hbm) rfl n3 (fun h' tk' dx k dn dne hx' hn' => ?_)
        refine more h' tk' (fun b o hb e => k b o hb (keep b o hb e)) (.some dx hx' ?_ (Nat.le_trans ?_ dn) dne)
        · have e := mOf_snoc (D := []) n4
          rw [← e]
          have e2 : (fun y => if y = g then some v else mOf vm [] y) = fun y => if y = g then some v else Option.none := by
            funext y
            unfold mOf
            simp
          rw [e2]
          exact hn'
        · exact sz
      | some dx hx hn big ne =>
        obtain ⟨oD, _, _, hoD, _, _⟩ := hn.count (mOf_within vm D)
        refine set_plain Xs (ox := { cls := .ref C, dict := some dx, data := .fields #[.ref t1, .none, .none, .none, .bool false, .none] }) (od := some oD) ⟨hx, rfl, rfl, hoD⟩ T.sa ?_
        refine PySem.OEX.osa_old Xs hx hn (mOf_within vm D) (by omega) hcl (show refsVE (.ref C :: bm) = true from hbm) rfl n3 (fun h' tk' k hn' => ?_)
        refine more h' tk' (fun b o hb e => k b o ?_ (keep b o hb e)) (.some dx (k _ _ (Ne.symm ne) hx) ?_ big ne)
        · exact Nat.ne_of_lt (Nat.lt_of_lt_of_le (Heap.lt_size e) big)
        · rw [← mOf_snoc n4]
          exact hn'
    · cases ht
end
theorem lookup_mem {α : Type} : ∀ {l : List (Str × α)} {k : Str} {v : α}, (l.map (·.1)).Nodup → (k, v) ∈ l → l.lookup k = some v
  | [], _, _, _, h => by cases h
  | (a, b) :: l, k, v, hn, h => by
    rw [List.map_cons, List.nodup_cons] at hn
    rcases List.mem_cons.mp h with e | h
    · cases e
      simp [List.lookup]
    · have ne : k ≠ a := fun e => hn.1 (by rw [← e]; exact List.mem_map.mpr ⟨(k, v), h, rfl⟩)
      have ne' : (k == a) = false := by simpa using ne
      simp only [List.lookup, ne']
      exact lookup_mem hn.2 h
theorem lookup_non {α : Type} : ∀ {l : List (Str × α)} {k : Str}, k ∉ l.map (·.1) → l.lookup k = none
  | [], _, _ => rfl
  | (a, b) :: l, k, h => by
    rw [List.map_cons, List.mem_cons, not_or] at h
    have ne' : (k == a) = false := by simpa using h.1
    simp only [List.lookup, ne']
    exact lookup_non h.2
theorem zip_keys {α : Type} : ∀ {fl : List Str} {us : List α}, us.length = fl.length → (fl.zip us).map (·.1) = fl
  | [], [], _ => rfl
  | [], _ :: _, h => by simp at h
  | _ :: _, [], h => by simp at h
  | f :: fl, u :: us, h => by
    rw [List.zip_cons_cons, List.map_cons, zip_keys (by simpa using h)]
theorem locals_at {fl : List Str} {us : List Value} {x : Addr} (hl : us.length = fl.length) (hnd : ((("self" : Str)) :: fl).Nodup) : let vm := fun y => ((("self" : Str), Value.ref x) :: fl.zip us).reverse.lookup y
    vm "self" = some (.ref x) ∧ (∀ g v, (g, v) ∈ fl.zip us → vm g = some v) ∧ mOf vm fl = fun y => (fl.zip us).lookup y := by
  have hk : (((("self" : Str), Value.ref x) :: fl.zip us).map (·.1)) = ("self" : Str) :: fl := by rw [List.map_cons, zip_keys hl]
  have hrev : (((("self" : Str), Value.ref x) :: fl.zip us).reverse.map (·.1)).Nodup := by
    rw [List.map_reverse, hk]
    exact (List.reverse_perm _).nodup_iff.mpr hnd
  have hz : ((fl.zip us).map (·.1)).Nodup := by
    rw [zip_keys hl]
    exact (List.nodup_cons.mp hnd).2
  have h2 : ∀ g v, (g, v) ∈ fl.zip us → (((("self" : Str), Value.ref x) :: fl.zip us).reverse.lookup g) = some v := fun g v h => lookup_mem hrev (List.mem_reverse.mpr (List.mem_cons_of_mem _ h))
  refine ⟨lookup_mem hrev (by simp), h2, ?_⟩
  funext y
  unfold mOf
  by_cases hy : y ∈ fl
  · rw [if_pos hy]
    rw [← zip_keys hl] at hy
    obtain ⟨p, hp, rfl⟩ := List.mem_map.mp hy
    exact (h2 p.1 p.2 hp).trans (lookup_mem hz hp).symm
  · rw [if_neg hy, lookup_non (by rw [zip_keys hl]; exact hy)]
structure InitEnd (h h' : Heap) (x C dx t1 : Addr) (m : Str → Option Value) : Prop where
  keep : ∀ b o, b ≠ x → h.get? b = some o → h'.get? b = some o
  obj : h'.get? x = some ({ cls := .ref C, dict := some dx, data := .fields #[.ref t1, .none, .none, .none, .bool false, .none] } : Obj)
  dbig : h.objs.size ≤ dx
  dne : dx ≠ x
  ns : h'.Ns1 dx m
structure InitTxt (prog : Program) (K : Frag) (C fI : Addr) (fl : List Str) : Prop where
  ex : ∃ (cc cda : Addr) (name qual : Str) (params : Arguments) (scope : Scope) (dV kV doc pm ct : Value) (an : Option Addr) (parts : List Expr) (r : List Stmt) (p0 p1 p2 p3 p4 p5 : Pos) (ar : Arg),
    SupTxt prog K C fI cc cda (ksFn name qual params (.Expr (.Call (.Attribute (.Call (.Name "super" p0) [] [] p1) "__init__" p2) [.JoinedStr parts p3] [] p4) p5 :: r) scope dV kV doc pm an (.ref cda) ct cc) ar ∧ ar.arg = ("self" : Str) ∧ codeIn K (.ref cda) qual = true ∧
    scope.kind = .function ∧ scope.isCoroutine = false ∧ scope.isGenerator = false ∧ (∀ y ∈ scope.names, y.2 ≠ .cell) ∧ scope.names.lookup ("super" : Str) = some .globalImplicit ∧ scope.names.lookup ("__class__" : Str) = some .free ∧ scope.names.lookup ("self" : Str) = some .local ∧
    (∀ g ∈ fl, scope.names.lookup g = some .local) ∧ tailOk r fl = true ∧ partsOk fl parts = true ∧ 2 ≤ parts.length ∧ parts.length ≤ 90 ∧
    ∀ (x : Value) (us : List Value), us.length = fl.length → bindArgs (ksFn name qual params (.Expr (.Call (.Attribute (.Call (.Name "super" p0) [] [] p1) "__init__" p2) [.JoinedStr parts p3] [] p4) p5 :: r) scope dV kV doc pm an (.ref cda) ct cc) ⟨x :: us, []⟩ = pure ((("self" : Str), x) :: fl.zip us)
  nd : ((("self" : Str)) :: fl).Nodup
  dbg : ∀ g ∈ fl, (g == ("__debug__" : Str)) = false
  no : ∀ g ∈ fl, findIn K (.ref C) g = some none
  ne : fl ≠ []
  few : fl.length ≤ 100
section
variable {prog : Program} {w : World} {A : Around} {R : Result → Shared → Prop} {s : Shared} {K : Frag} {C fI x t0 : Addr} {mg mb : Str → Option Value} {fl : List Str} {us : List Value}
theorem init_run (T : InitTxt prog K C fI fl) (X : K.In s.heap) (hlim : s.heap.NoLimit) (hx : s.heap.get? x = some (excO C t0)) (hnx : K.lookup x = none) (hroom : A.depth < recursionLimit) (hG : s.heap.Ns mainGlobals mg) (hgs : mg "super" = none) (hB : s.heap.Ns builtinsNs mb) (hbs : mb "super" = some (.type "super"))
    (hus : us.length = fl.length) (hf : ∀ u ∈ us, Fmt u) (hq : ∀ h' tk dx t1, InitEnd s.heap h' x C dx t1 (fun y => (fl.zip us).lookup y) → R (.ok (.ret .none)) { s with heap := h', toks := tk }) :
    codeAny (model prog w) A (.call (.ref fI) ⟨.ref x :: us, []⟩) R s := by
  obtain ⟨cc, cda, name, qual, params, scope, dV, kV, doc, pm, ct, an, parts, r, p0, p1, p2, p3, p4, p5, ar, S, har, hcd, hk, hco, hgen, hcell, hks, hkc, hka, hfl, htail, hparts, hl2, hl90, hbind⟩ := T.ex
  obtain ⟨oc, od, osl, ho⟩ := S.fn
  obtain ⟨v1, v2, v3⟩ := locals_at (x := x) hus T.nd
  have kind : ∀ {L g : _}, (ksEnv qual scope L fI (.ref cda) cc).kindOf g = scope.names.lookup g := fun {L g} => rfl
  refine ks_codeAny_call_defAt (binds := (("self" : Str), Value.ref x) :: fl.zip us) hroom (X _ _ ho) rfl hlim (codeRec_of X hcd) rfl (BindsTo.of_eq (hbind (.ref x) us hus)) hcell (fun y hy => ?_) (fun h1 hns k => ?_) hco hgen hk
  · show scope.names.lookup y.1 = some .local
    rcases List.mem_cons.mp hy with rfl | hy
    · exact hka
    · refine hfl y.1 ?_
      rw [← zip_keys hus]
      exact List.mem_map_of_mem (f := fun p : Str × Value => p.1) hy
  have xL : s.heap.objs.size ≠ x := Nat.ne_of_gt (Heap.lt_size hx)
  have har2 := har
  have X1 : K.In h1 := X.keeps k
  have hall : ∀ g ∈ fl, ∃ u, (g, u) ∈ fl.zip us := fun g hg => by
    rw [← zip_keys hus] at hg
    obtain ⟨p, hp, rfl⟩ := List.mem_map.mp hg
    exact ⟨p.2, hp⟩
  show _root_.PySem.wpAt (model prog w) (A.deeper (ksEnv qual scope s.heap.objs.size fI (.ref cda) cc)) (.func _ (ksEnv qual scope s.heap.objs.size fI (.ref cda) cc)) (execs _ (ksEnv qual scope s.heap.objs.size fI (.ref cda) cc)) _ _ _
  refine ks_wpAt_execs_cons (super_ok (vm := fun y => ((("self" : Str), Value.ref x) :: fl.zip us).reverse.lookup y) (fl := fl) S X1 (k _ _ hx) hns (by rw [har]; exact v1) (hG.keeps k) hgs (hB.keeps k) hbs hk hks hkc (by rw [har]; exact hka) (fun g hg => ?_) hparts hl2 hl90 fun h2 tk t1 k2 hx2 => ?_)
  · obtain ⟨u, hu⟩ := hall g hg
    exact ⟨hfl g hg, T.dbg g hg, u, v2 g u hu, hf u (List.of_mem_zip hu).2⟩
  have hL2 : h2.Ns s.heap.objs.size (fun y => ((("self" : Str), Value.ref x) :: fl.zip us).reverse.lookup y) := by
    obtain ⟨oL, es, ep, hoL, rest⟩ := hns
    exact ⟨oL, es, ep, k2 _ _ xL hoL, rest⟩
  have X2 : K.In h2 := fun b o e => k2 b o (fun y => by rw [y, hnx] at e; cases e) (X1 b o e)
  refine tail_run S.T X2 hnx hL2 xL v1 hk hka r fl [] { s with heap := h2, toks := tk } _ htail (fun g hg => ?_) (by have := T.few; simp; omega) (fun b o _ e => e) (.none hx2 (Nat.le_refl _)) fun h3 tk3 k3 e3 => ?_
  · obtain ⟨u, hu⟩ := hall g hg
    exact ⟨hfl g hg, T.dbg g hg, T.no g hg, u, v2 g u hu⟩
  rw [List.nil_append] at e3
  have hsz : s.heap.objs.size ≤ h2.objs.size := by
    obtain ⟨oL, _, _, hoL, _⟩ := hL2
    exact Nat.le_of_lt (Heap.lt_size hoL)
  have fin : ∀ {D : List Str}, Ex h2 h3 x C t1 (fun y => ((("self" : Str), Value.ref x) :: fl.zip us).reverse.lookup y) D → D = fl → R (.ok (.ret .none)) { s with heap := h3, toks := tk3 } := fun {D} e hD => by
    cases e with
    | none hx3 sz => exact absurd hD.symm T.ne
    | some dx hx3 hn3 big ne =>
      subst hD
      refine hq h3 tk3 dx t1 ⟨fun b o hb e => k3 b o hb (k2 b o hb (k b o e)), hx3, Nat.le_trans hsz big, ne, ?_⟩
      rw [← v3]
      exact hn3
  exact fin e3 rfl
end
end EIN
end PySem
set_option Elab.async false
set_option linter.all false
set_option maxRecDepth 100000
set_option maxHeartbeats 2000000
/-! raise X(e, ..), X an own error with fields: super().__init__(f"..") and self.f = f for each -/
namespace L2
open PySem PySem.Spec PyProof.Rows
def FmtV (v : V) : Prop := v = .non ∨ ∃ i : Int, v = .int i ∧ i.natAbs.log2 < 1920
theorem fmt_of {v : V} {u : Value} (h : FmtV v) (r : RelV v u) : EIN.Fmt u := by
  rcases h with rfl | ⟨i, rfl, hi⟩
  · exact .inl r
  · obtain ⟨t, e⟩ := r
    exact .inr ⟨i, t, e, hi⟩
theorem relO_zip : ∀ {fl : List Str} {vs : List V} {us : List Value}, Vals vs us → ∀ f, RelO ((fl.zip vs).lookup f) ((fl.zip us).lookup f)
  | [], _, _, _, _ => trivial
  | _ :: _, _, _, .nil, _ => trivial
  | g :: fl, _, _, .cons rv r, f => by
    rw [List.zip_cons_cons, List.zip_cons_cons]
    by_cases h : f = g
    · subst h
      simp only [List.lookup, beq_self_eq_true]
      exact rv
    · have h' : (f == g) = false := by simpa using h
      simp only [List.lookup, h']
      exact relO_zip r f
def tMkF (C : Addr) (fl : List Str) (ta : TA) : St → Hp → XK → Prop := fun σ H Q => ta σ H fun vs H1 => vs.length = fl.length ∧ (∀ v ∈ vs, FmtV v) ∧ ∀ d, H1 d = none → Q (.ref C) (some d) (upd H1 d (.xd (fl.zip vs)))
section
variable {X : Cx} {C fI : Addr} {fl : List Str} {x : Str} {e : Expr} {es : List Expr} {ta : TA} {p pos : Pos} {k : Nat}
theorem pmk_ein (O : OexC X.K C) (T : EIN.InitTxt X.prog X.K C fI fl) (iC : PySem.W.findIn X.K (.ref C) "__init__" = some (some (.ref fI))) (tI : PySem.W.typeIn X.K (.ref fI) = some (.type "function")) (hsup : X.mg "super" = none) (hr : Room (k + 1) X.A) (ha : PA X (e :: es) ta) (hg : Gl X x) (hm : X.mg x = some (.ref C)) (hdb : (x == ("__debug__" : Str)) = false := by decide)
    (he : starEach (e :: es) X.env = (false, eval e X.env) :: starEach es X.env := by rfl) (hpl : (backTo pos (starEach es X.env)).any (·.1) = false := by rfl) :
    PMk X (.Call (.Name x p) (e :: es) [] pos) (tMkF C fl ta) := by
  intro pins s σ H Q I h
  obtain ⟨nm, q, N, bs, bm, sn, sub, ab, col, dd, k0, k1, k2, k3, k5, hC, hbm⟩ := O.cls
  refine wpAny_Call_Name_kw (ld_glob I hg hm ?_ hdb)
  refine PySem.W.callWith_K (h₀ := X.base) I.ok.mod.kin O.kC (thn (ha.run pos pins s σ H _ I h) fun us s1 hh => ?_) he hpl
  obtain ⟨vs, H1, I1, r1, hl, hf, q1⟩ := hh
  refine ⟨I1.kIn, ?_⟩
  show wpAny _ _ (call (.ref C) us) _ _ _
  have hlim := I1.nolimit
  have hus : us.length = fl.length := by rw [← Paired.length r1]; exact hl
  have hfu : ∀ u ∈ us, EIN.Fmt u := by
    have key : ∀ {vs : List V} {us : List Value}, Vals vs us → (∀ v ∈ vs, FmtV v) → ∀ u ∈ us, EIN.Fmt u := by
      intro vs us r
      induction r with
      | nil => intro _ u hu; cases hu
      | cons rv r ih =>
        intro h u hu
        rcases List.mem_cons.mp hu with rfl | hu
        · exact fmt_of (h _ List.mem_cons_self) rv
        · exact ih (fun v hv => h v (List.mem_cons_of_mem _ hv)) u hu
    exact key r1 hf
  obtain ⟨mb, hb1, hb2⟩ := I1.mod.blt
  have hG : s1.heap.Ns mainGlobals X.mg := I1.mod.glob.keeps I1.bk
  have hB : s1.heap.Ns builtinsNs mb := hb1.keeps I1.bk
  have hbs : mb "super" = some (.type "super") := (hb2 _ (by decide +kernel)).trans PyProof.Rows.Boot.«super»
  obtain ⟨hp, g, dr, tk, os⟩ := s1
  have kk : ∀ b o, hp.get? b = some o → ((hp.push (PySem.W.kdv_tup us)).push (PySem.HandSPX.excO C hp.objs.size)).get? b = some o := fun b o e => Heap.get?_push_of_some _ (Heap.get?_push_of_some _ e)
  have hget : ((hp.push (PySem.W.kdv_tup us)).push (PySem.HandSPX.excO C hp.objs.size)).get? (hp.objs.size + 1) = some (PySem.HandSPX.excO C hp.objs.size) := by heap_get
  have hnx : X.K.lookup (hp.objs.size + 1) = none := by
    cases e : X.K.lookup (hp.objs.size + 1) with
    | none => rfl
    | some o =>
      have z : hp.get? (hp.objs.size + 1) = some o := I1.kIn _ _ e
      exact absurd (Nat.lt_of_succ_lt (Heap.lt_size z)) (Nat.lt_irrefl _)
  have hlen : us.length ≤ sizeLine := by
    rw [hus, sizeLine_eq]
    have := T.few
    omega
  refine wpAny_call (PySem.HandSPX.call_own F.excBase_ValueError (fun Y => PySem.HandSPX.refsVE_contains Y bm hbm) (I1.kIn _ _ hC) (PySem.W.looks_findIn I1.kIn iC) (fun self => PySem.W.bind_fn I1.kIn self tI) hlen ?_)
  refine EIN.init_run (s := ⟨(hp.push (PySem.W.kdv_tup us)).push (PySem.HandSPX.excO C hp.objs.size), g, dr, tk, os⟩) T (I1.kIn.keeps kk) (hlim.keeps kk) hget hnx ?_ (hG.keeps kk) hsup (hB.keeps kk) hbs hus hfu fun h' tk' d t1 M => ?_
  · show X.A.depth + 1 < recursionLimit
    have := hr.dp
    omega
  have old : ∀ b o, hp.get? b = some o → h'.get? b = some o := fun b o e => M.keep b o (Nat.ne_of_lt (Nat.lt_succ_of_lt (Heap.lt_size e))) (kk b o e)
  have z : hp.objs.size + 1 + 1 ≤ d := by
    have q := M.dbig
    first
      | (simpa only [Heap.size_push] using q)
      | exact q
      | (rw [Heap.size_push, Heap.size_push] at q; exact q)
  refine ⟨rfl, ?_⟩
  show MkP X pins σ Q (.ref (hp.objs.size + 1)) ⟨h', g, dr, tk', os⟩
  obtain ⟨G', g1, g2⟩ := restrict h' fun b => decide (b ≠ hp.objs.size + 1)
  have gk : ∀ b, b ≠ hp.objs.size + 1 → G'.get? b = h'.get? b := fun b hb => g1 b (decide_eq_true hb)
  have ge : G'.get? (hp.objs.size + 1) = none := g2 _ (by simp)
  have old2 : ∀ b o, hp.get? b = some o → G'.get? b = some o := fun b o q => (gk b (Nat.ne_of_lt (Nat.lt_succ_of_lt (Heap.lt_size q)))).trans (old b o q)
  have big : hp.objs.size ≤ d := by omega
  have ob : ObjOk X.prog X.w (upd H1 d (.xd (fl.zip vs))) G' d (.xd (fl.zip vs)) :=
    ⟨_, M.ns.at (fun o q => (gk d M.dne).trans q), fun f => relO_zip r1 f⟩
  have J : Inv X pins σ (upd H1 d (.xd (fl.zip vs))) ⟨G', g, dr, tk', os⟩ := I1.laid (t' := tk') old2 big ob
  refine ⟨hp.objs.size + 1, _, _, ⟨G', g, dr, tk', os⟩, _, .ref C, some d, rfl, J, fun b o q => ?_, ge, M.obj, ⟨rfl, rfl⟩, rfl, rfl, ?_, rfl, I1.bare, raises_own O.exC O.tyC, q1 d (I1.hok.fresh big)⟩
  · by_cases hb : b = hp.objs.size + 1
    · have q' : G'.get? b = some o := q
      rw [hb, ge] at q'; cases q'
    · exact (gk b hb).symm.trans q
  · rw [upd_ne (Ne.symm M.dne)]
    exact I1.hok.fresh (Nat.le_succ _)
end
end L2
namespace MI
open PySem PySem.Spec PyProof.Rows L2
def fmtW : MV → Bool
  | .non => true
  | .int i => decide (i.natAbs.log2 < 1920)
  | _ => false
def sRaiseF (c : Str) (fl : List Str) (da : DenL) : DenS := fun ρ S => (da ρ S).bindS ρ fun ws S1 => if decide (ws.length = fl.length) && ws.all fmtW then .ok (.exc c (fl.zip ws) ρ) S1 else .stuck
section
variable {X : Cx} {G : Gx} {W : WX}
theorem fmtW_ok {ι : List Addr} {H : Hp} {w : MV} {v : V} (r : RW G ι H w v) (h : fmtW w = true) : FmtV v := by
  unfold fmtW at h
  split at h
  · cases r; exact .inl rfl
  · cases r; exact .inr ⟨_, rfl, of_decide_eq_true h⟩
  · cases h
theorem fmts_ok {ι : List Addr} {H : Hp} : ∀ {ws : List MV} {vs : List V}, RWs G ι H ws vs → ws.all fmtW = true → ∀ v ∈ vs, FmtV v
  | _, _, .nil, _, v, hv => by cases hv
  | _, _, .cons r1 r2, h, v, hv => by
    rw [List.all_cons, Bool.and_eq_true] at h
    rcases List.mem_cons.mp hv with rfl | hv
    · exact fmtW_ok r1 h.1
    · exact fmts_ok r2 h.2 v hv
theorem rws_len {ι : List Addr} {H : Hp} : ∀ {ws : List MV} {vs : List V}, RWs G ι H ws vs → ws.length = vs.length
  | _, _, .nil => rfl
  | _, _, .cons r1 r2 => by rw [List.length_cons, List.length_cons, rws_len r2]
theorem rws_zipE {ι : List Addr} {H : Hp} : ∀ {fl : List Str} {ws : List MV} {vs : List V}, RWs G ι H ws vs → (fl.zip vs).map (·.1) = (fl.zip ws).map (·.1) ∧ RWs G ι H ((fl.zip ws).map (·.2)) ((fl.zip vs).map (·.2))
  | [], _, _, _ => ⟨rfl, .nil⟩
  | _ :: _, _, _, .nil => ⟨rfl, .nil⟩
  | f :: fl, _, _, .cons r1 r2 => by
    obtain ⟨h1, h2⟩ := rws_zipE (fl := fl) r2
    exact ⟨by rw [List.zip_cons_cons, List.zip_cons_cons, List.map_cons, List.map_cons, h1], .cons r1 h2⟩
theorem ds_raiseF {x : Str} {p pos pos' : Pos} {C fI : Addr} {fl : List Str} {k : Nat} {e : Expr} {es : List Expr} {da : DenL} (hc : X.calm = true) (tk : Takes X W) (O : OexC X.K C) (T : EIN.InitTxt X.prog X.K C fI fl) (iC : PySem.W.findIn X.K (.ref C) "__init__" = some (some (.ref fI))) (tI : PySem.W.typeIn X.K (.ref fI) = some (.type "function")) (hsup : X.mg "super" = none) (hr : Room (k + 1) X.A) (ha : DA X G W (e :: es) da) (hg : Gl X x) (hm : X.mg x = some (.ref C)) (hct : G.ct x = some C) (hdb : (x == ("__debug__" : Str)) = false := by decide)
    (he : starEach (e :: es) X.env = (false, eval e X.env) :: starEach es X.env := by rfl) (hpl : (backTo pos (starEach es X.env)).any (·.1) = false := by rfl) :
    DS X G W (.Raise (some (.Call (.Name x p) (e :: es) [] pos)) none pos') (sRaiseF x fl da) :=
  ⟨PS.imp (ps_raise hc tk (pmk_ein O T iC tI hsup hr ha.run hg hm hdb he hpl)) fun D σ H h => by
    obtain ⟨ι, S, ρ, s, re, h⟩ := h
    refine ⟨ι, S, ρ, s, re, (fin.bindS re h).mono fun ws ι1 H1 S1 p _ h1 vs r => ?_⟩
    obtain ⟨S1, s1, re1, _, h1⟩ := h1
    split at h1
    · rename_i hz
      rw [Bool.and_eq_true, decide_eq_true_eq] at hz
      refine ⟨by rw [← rws_len r]; exact hz.1, fmts_ok r hz.2, fun d hd => ?_⟩
      have P := s1.lay hd (.xd (fl.zip vs))
      obtain ⟨z1, z2⟩ := rws_zipE (fl := fl) (P.rws r)
      exact h1 ι1 _ P σ (.ref C) (some d) (P.re re1) ⟨C, hct, rfl, .inr ⟨d, _, rfl, upd_same, z1, z2⟩⟩
    · exact h1.elim⟩
end
section
variable {E : EX} {S : Store} {ρ : Env'}
theorem wp_raiseF {c : Str} {fl : List Str} {da : DenL} {Q : Fl → Store → Prop} : wp (sRaiseF c fl da ρ S) E Q = wp (da ρ S) (fun c' fs S1 => Q (.exc c' fs ρ) S1) fun ws S1 => if decide (ws.length = fl.length) && ws.all fmtW then Q (.exc c (fl.zip ws) ρ) S1 else False := by
  unfold sRaiseF
  cases da ρ S with
  | ok ws S1 =>
    show wp (if _ then _ else _) E Q = if _ then _ else _
    split <;> rfl
  | err c' fs S1 => rfl
  | stuck => rfl
end
end MI
set_option Elab.async false
set_option linter.all false
set_option maxRecDepth 100000
set_option maxHeartbeats 2000000
/-! try: body, then clauses of which each may name its exception -/
namespace MI
open PySem PySem.Spec PyProof.Rows L2
structure Cla where
  c : Value
  i : Option Nat
  ts : Addr → Value → Option Addr → TS
def endsAs (i : Nat) (D : Ends) : Ends := { nx := fun σ' H' => D.nx (σ'.set i none) H', rt := D.rt, bk := fun σ' H' => D.bk (σ'.set i none) H', ct := fun σ' H' => D.ct (σ'.set i none) H' }
def Cla.run (k : Cla) (D : Ends) (cls : Value) (d : Option Addr) (σ : L2.St) (H : Hp) (a : Addr) : Prop := match k.i with
  | none => k.ts a cls d D σ H
  | some i => k.ts a cls d (endsAs i D) (σ.set i (some (.ref a))) H
def wMix (K : PySem.W.Frag) (Wout : WX) (D : Ends) : List Cla → WX
  | [] => Wout
  | k :: r => fun cls d σ H => ∃ b, PySem.W.exmOne K cls k.c = some b ∧ (b = true → ∀ a, H a = none → k.run D cls d σ H a) ∧ (b = false → wMix K Wout D r cls d σ H)
inductive ClaOk (X : Cx) : List ExceptHandler → List Cla → Prop
  | nil : ClaOk X [] []
  | plain {x : Str} {c : Value} {ts : Addr → Value → Option Addr → TS} {b₀ : Stmt} {suite : List Stmt} {np pos' : Pos} {hs : List ExceptHandler} {l : List Cla} (hc : Names X x c)
      (hsu : ∀ (a : Addr) (oe : Obj) (cls : Value) (d : Option Addr) (pn : List (Addr × Obj)), Zc cls d oe → (∃ vs, oe.data = .fields vs) → PSs (X.suite a ((a, oe) :: pn)) (b₀ :: suite) (ts a cls d)) (r : ClaOk X hs l) :
      ClaOk X (.ExceptHandler (some (.Name x np)) none (b₀ :: suite) pos' :: hs) (⟨c, none, ts⟩ :: l)
  | named {x n : Str} {i : Nat} {c : Value} {ts : Addr → Value → Option Addr → TS} {b₀ : Stmt} {suite : List Stmt} {np pos' : Pos} {hs : List ExceptHandler} {l : List Cla} (hi : X.N[i]? = some n) (hln : X.env.kindOf n = some .local) (hc : Names X x c)
      (hsu : ∀ (a : Addr) (oe : Obj) (cls : Value) (d : Option Addr) (pn : List (Addr × Obj)), Zc cls d oe → (∃ vs, oe.data = .fields vs) → PSs (X.suite a ((a, oe) :: pn)) (b₀ :: suite) (ts a cls d)) (r : ClaOk X hs l) :
      ClaOk X (.ExceptHandler (some (.Name x np)) (some n) (b₀ :: suite) pos' :: hs) (⟨c, some i, ts⟩ :: l)
section
variable {X : Cx} {body : List Stmt} {h₀ : ExceptHandler} {hds : List ExceptHandler} {l : List Cla} {pos : Pos} {tb : WX → TS} {Wout : WX}
theorem ps_tryM (hs : X.stack = X.env :: X.outer) (hf : X.env.frame = some X.env.locals) (hN : X.N.Nodup) (tk : Takes X Wout)
    (hb : ∀ (W : WX) (pn : List (Addr × Obj)) (xe : Value → Shared → Prop), Takes (X.tr pn xe) W → PassesOwn (model X.prog X.w) X.A X.env xe → PSs (X.tr pn xe) body (tb W))
    (hh : ClaOk X (h₀ :: hds) l) : PS X (.Try body (h₀ :: hds) [] [] pos) (fun D σ H => tb (wMix X.K Wout D l) D σ H) := by
  refine ⟨fun pins s σ H D I h => ?_⟩
  have okX := I.ok
  have frame1 : X.A.frames = some (X.env :: X.outer) := by rw [okX.frames, hs]
  refine wpAny_Try_except ?_
  refine wpAny_mono ((hb (wMix X.K Wout D l) (X.pn ++ pins) (fun e s₁ => wpAny (model X.prog X.w) X.A (noteFrame e X.env) (fun _ s₂ => wpAny (model X.prog X.w) X.A (setFlight e none) (fun _ s₃ =>
    wpAny (model X.prog X.w) X.A (handleBy e X.env (h₀ :: hds)) (SP X pins D) X.xe s₃) X.xe s₂) X.xe s₁) (fun u s' raised => ?_) PassesOwn.looking).run [] s σ H D (I.toTry _) h) (fun f s1 ends => ?_) (fun e s1 he => he)
  · -- the catch
    obtain ⟨a, B, sB, pins1, σ', H', cls, d, rfl, J1, nbb, up, sky0, naa, oss, age, w⟩ := raised
    have J : Inv X pins σ' H' sB := J1.ofTry okX
    have sky1 : Sky B (X.env :: X.outer) a (Zc cls d) X.env.locals s'.heap := by rw [← hs]; exact sky0
    show wpAny (model X.prog X.w) X.A (noteFrame (.ref a) X.env) _ _ _
    refine Sky.land Zc.steady frame1 hf sky1 fun ha3 fa ua => ?_
    have Ja : Inv X pins σ' H' { s' with heap := ha3 } := J.landed nbb fa.1 (up.trans ua) oss age
    obtain ⟨oa3, va3, ea3, za3, da3⟩ := fa.there
    have notIn : ∀ {h : Heap} {o : Obj} {vs : Array Value}, h.FunFrames B (X.env :: X.outer) → h.get? a = some o → o.data = .fields vs → a ∉ frs (X.env :: X.outer) := fun {h o vs} ff e dd hm => by
      obtain ⟨_, o', e', hnf⟩ := ff.mem hm
      rw [e] at e'; cases e'
      exact hnf _ dd
    have farF := notIn fa.2.2.1 ea3 da3
    have offL : a ≠ X.env.locals := fun z => farF (List.mem_filterMap.mpr ⟨X.env, List.mem_cons_self, by rw [hf, z]⟩)
    have offF : a ∉ X.fs := fun hm => by
      obtain ⟨e, he, q⟩ := List.mem_filterMap.mp hm
      exact farF (List.mem_filterMap.mpr ⟨e, List.mem_cons_of_mem _ he, q⟩)
    have Sa := Ja.suite ea3 da3 naa offL offF
    have walk : ∀ {hs' : List ExceptHandler} {l' : List Cla}, ClaOk X hs' l' → wMix X.K Wout D l' cls d σ' H' →
        wpAny (model X.prog X.w) X.A (handleBy (.ref a) X.env hs') (SP X pins D) X.xe { s' with heap := ha3 } := by
      intro hs' l' hk
      have asked : ∀ {x : Str} {c : Value} {np : Pos}, Names X x c → ∀ {Q : Value → Shared → Prop} {E : Value → Shared → Prop}, Q c { s' with heap := ha3 } → wpAny (model X.prog X.w) (X.A.mark (some (.ref a))) (eval (.Name x np) X.env) Q E { s' with heap := ha3 } := fun {x c np} hc {Q E} q => by
        obtain ⟨hg, nodbg, hm | ⟨hm, hv, nonm⟩⟩ := hc
        · exact ld_glob (X := X.suite a ((a, oa3) :: (X.pn ++ pins))) Sa hg hm q nodbg
        · exact ld_blt (X := X.suite a ((a, oa3) :: (X.pn ++ pins))) Sa hg hm hv q nonm nodbg
      have looks1 : PySem.W.Looks (model X.prog X.w) ha3 (typeOf (.ref a)) cls := fun A Q E s k q => wpAny_typeOf_ref (k _ _ ea3) (by rw [za3.1]; exact q)
      induction hk with
      | nil =>
        intro w
        refine wpAny_handleBy_nil ?_
        obtain ⟨k1, k2, k3, oe, vs, T, oT, ts', he, hz, hd, h1, hr⟩ := id fa
        unfold PySem.passOn
        refine wpAny_bind (wpAny_field he hd h1 ?_)
        rw [if_neg (show ¬ ((Value.ref T == Value.none) = true) from by simp)]
        have last : wpAny (model X.prog X.w) X.A (setFlight (.ref a) X.env.frame) (fun _ s4 => wpAny (model X.prog X.w) X.A (throw (.ref a) : Sem Flow) (SP X pins D) X.xe s4) X.xe { s' with heap := ha3 } := by
          rw [hf]
          refine HandSPX.setFlight_upZ fa fun hb4 hh4 ub => wpAny_throw (tk _ _ ?_)
          exact ⟨a, B, sB, pins, σ', H', cls, d, rfl, J, nbb, (up.trans ua).trans ub, .inr (.inr (by rw [hs]; exact hh4)), naa, oss, age, w⟩
        first
          | exact wpAny_bind (wpAny_pure (wpAny_bind last))
          | exact wpAny_bind last
      | @plain x c ts b₀ suite np pos' hs2 l2 hc hsu r ih =>
        intro w
        obtain ⟨b, is1, yes, no⟩ := w
        refine wpAny_handleBy_cons (codeAny_handlers_test ?_) (by intro q; cases q)
        have looks2 := PySem.W.exm_one (M := model X.prog X.w) (Ja.kIn) looks1 is1
        refine asked hc (looks2.here ?_)
        cases b with
        | true =>
          refine codeAny_handlers_suite ?_
          refine HandSPX.lands_againZ fa fun hb4 fb ub => ?_
          have Jb : Inv X pins σ' H' { s' with heap := hb4 } := J.landed nbb fb.1 ((up.trans ua).trans ub) oss age
          obtain ⟨ob4, vb4, eb4, zb4, db4⟩ := fb.there
          have Sb := Jb.suite eb4 db4 naa offL offF
          refine wpAny_mono ((hsu a ob4 cls d (X.pn ++ pins) zb4 ⟨_, db4⟩).run [] _ _ H' _ Sb (yes rfl a naa)) (fun f t6 ends => ?_) (fun _ _ z => False.elim z)
          cases f with
          | next =>
            obtain ⟨τ6, K6, T6, k6⟩ := ends
            exact ⟨_, _, T6.unsuite okX, k6⟩
          | brk =>
            obtain ⟨τ6, K6, T6, k6⟩ := ends
            exact ⟨_, _, T6.unsuite okX, k6⟩
          | cont =>
            obtain ⟨τ6, K6, T6, k6⟩ := ends
            exact ⟨_, _, T6.unsuite okX, k6⟩
          | ret u =>
            obtain ⟨w6, τ6, K6, T6, m6, k6⟩ := ends
            exact ⟨_, _, _, T6.unsuite okX, m6, k6⟩
        | false =>
          show wpAny _ X.A (handleBy (.ref a) X.env hs2) _ _ _
          exact ih (no rfl)
      | @named x n i c ts b₀ suite np pos' hs2 l2 hi hln hc hsu r ih =>
        intro w
        have known : Loc X.env.scope n := .inl hln
        obtain ⟨b, is1, yes, no⟩ := w
        refine wpAny_handleBy_cons (codeAny_handlers_test ?_) (by intro q; cases q)
        have looks2 := PySem.W.exm_one (M := model X.prog X.w) (Ja.kIn) looks1 is1
        refine asked hc (looks2.here ?_)
        cases b with
        | true =>
          refine codeAny_handlers_suite_as ?_
          refine HandSPX.lands_againZ fa fun hb4 fb ub => ?_
          have Jb : Inv X pins σ' H' { s' with heap := hb4 } := J.landed nbb fb.1 ((up.trans ua).trans ub) oss age
          obtain ⟨ob4, vb4, eb4, zb4, db4⟩ := fb.there
          have Sb := Jb.suite eb4 db4 naa offL offF
          refine store_ok (X := X.suite a ((a, ob4) :: (X.pn ++ pins))) (v := .ref a) Sb hN hi known rfl (fun t5 Sc => ?_) (.inr hln)
          refine wpAny_mono ((hsu a ob4 cls d (X.pn ++ pins) zb4 ⟨_, db4⟩).run [] t5 _ H' _ Sc (yes rfl a naa)) (fun f t6 ends => ?_) (fun _ _ z => False.elim z)
          have away : ∀ {τ6 : L2.St} {K6 : Hp} {Q : Shared → Prop}, Inv (X.suite a ((a, ob4) :: (X.pn ++ pins))) [] τ6 K6 t6 → (∀ t7, Inv X pins (τ6.set i none) K6 t7 → Q t7) →
              wpAny (model X.prog X.w) X.A (do bindName X.env n .none; unbindBehindTheSuite X.env n pos') (fun _ t7 => Q t7) X.xe t6 := fun {τ6 K6 Q} T6 hq => gone_ok (T6.unsuite okX) hN hi hln hq
          cases f with
          | next =>
            obtain ⟨τ6, K6, T6, k6⟩ := ends
            exact away T6 fun t7 J7 => ⟨_, _, J7, k6⟩
          | brk =>
            obtain ⟨τ6, K6, T6, k6⟩ := ends
            exact away T6 fun t7 J7 => ⟨_, _, J7, k6⟩
          | cont =>
            obtain ⟨τ6, K6, T6, k6⟩ := ends
            exact away T6 fun t7 J7 => ⟨_, _, J7, k6⟩
          | ret u =>
            obtain ⟨w6, τ6, K6, T6, m6, k6⟩ := ends
            exact away T6 fun t7 J7 => ⟨_, _, _, J7, m6, k6⟩
        | false =>
          show wpAny _ X.A (handleBy (.ref a) X.env hs2) _ _ _
          exact ih (no rfl)
    exact walk hh w
  · cases f with
    | next =>
      obtain ⟨σ', H', J1, q⟩ := ends
      exact wpAny_execs_nil ⟨σ', H', J1.ofTry okX, q⟩
    | brk =>
      obtain ⟨σ', H', J1, q⟩ := ends
      exact ⟨σ', H', J1.ofTry okX, q⟩
    | cont =>
      obtain ⟨σ', H', J1, q⟩ := ends
      exact ⟨σ', H', J1.ofTry okX, q⟩
    | ret u =>
      obtain ⟨v, σ', H', J1, r, q⟩ := ends
      exact ⟨v, σ', H', J1.ofTry okX, r, q⟩
end
end MI
set_option Elab.async false
set_option linter.all false
set_option maxRecDepth 100000
set_option maxHeartbeats 2000000
/-! the small machine's try with clauses: suites that only return something of their exception -/
namespace MI
open PySem PySem.Spec PyProof.Rows L2
structure DX (X : Cx) (G : Gx) (i : Nat) (e : Expr) (te : Addr → Value → Option Addr → TE) (rv : Str → List (Str × MV) → Option MV) : Prop where
  run : ∀ (a : Addr) (oe : Obj) (cls : Value) (d : Option Addr) (pn : List (Addr × Obj)), Zc cls d oe → (∃ vs, oe.data = .fields vs) → PE (X.suite a ((a, oe) :: pn)) e (te a cls d)
  ok : ∀ (ι : List Addr) (S : Store) (H : Hp) (σ : L2.St) (a : Addr) (c : Str) (fs : List (Str × MV)) (cls : Value) (d : Option Addr) (w : MV) (Q : VK), Sim G ι H S → RX G ι H c fs cls d → σ[i]? = some (some (.ref a)) → rv c fs = some w →
    (∀ v, RW G ι H w v → Q v H) → te a cls d σ H Q
structure DXs (X : Cx) (G : Gx) (i : Nat) (es : List Expr) (ta : Addr → Value → Option Addr → TA) (rv : Str → List (Str × MV) → Option (List MV)) : Prop where
  run : ∀ (a : Addr) (oe : Obj) (cls : Value) (d : Option Addr) (pn : List (Addr × Obj)), Zc cls d oe → (∃ vs, oe.data = .fields vs) → PA (X.suite a ((a, oe) :: pn)) es (ta a cls d)
  ok : ∀ (ι : List Addr) (S : Store) (H : Hp) (σ : L2.St) (a : Addr) (c : Str) (fs : List (Str × MV)) (cls : Value) (d : Option Addr) (ws : List MV) (Q : List V → Hp → Prop), Sim G ι H S → RX G ι H c fs cls d → σ[i]? = some (some (.ref a)) → rv c fs = some ws →
    (∀ vs, RWs G ι H ws vs → Q vs H) → ta a cls d σ H Q
section
variable {X : Cx} {G : Gx} {i : Nat} {e : Expr} {es : List Expr}
theorem dx_str {z : Str} {j : Nat} {p : Pos} : DX X G i (.Constant (.str z) j p) (fun _ _ _ => tC (.str z)) (fun _ _ => some (.str z)) :=
  ⟨fun a oe cls d pn _ _ => pe_str, fun ι S H σ a c fs cls d w Q s rx hi hr h => by cases hr; exact h _ (.str z)⟩
theorem rws_lookup {ι : List Addr} {H : Hp} : ∀ {fs : List (Str × MV)} {fs' : List (Str × V)} {f : Str} {w : MV}, fs'.map (·.1) = fs.map (·.1) → RWs G ι H (fs.map (·.2)) (fs'.map (·.2)) → fs.lookup f = some w → ∃ v, fs'.lookup f = some v ∧ RW G ι H w v
  | [], _, _, _, _, _, h => by cases h
  | (a, b) :: fs, [], _, _, e, _, _ => by simp at e
  | (a, b) :: fs, (a', b') :: fs', f, w, e, r, h => by
    rw [List.map_cons, List.map_cons] at e r
    injection e with e1 e2
    cases r with
    | cons r1 r2 =>
      have e1 : a' = a := e1
      subst e1
      by_cases hf : f = a'
      · subst hf
        simp only [List.lookup, beq_self_eq_true] at h ⊢
        cases h
        exact ⟨b', rfl, r1⟩
      · have h' : (f == a') = false := by simpa using hf
        simp only [List.lookup, h'] at h ⊢
        exact rws_lookup e2 r2 h
theorem dx_fld {x f : Str} {p p2 : Pos} {okc : Str → Bool} (hN : X.N[i]? = some x) (hv : Vis X.env.scope x) (hx : ∀ c C, G.ct c = some C → okc c = true → XfC X.K C ∧ PySem.W.findIn X.K (.ref C) f = some none) (hd : (x == ("__debug__" : Str)) = false := by decide) (hcd : (x == ("__classdict__" : Str)) = false := by decide)
    (hb : attributeBase (.Name x p) f X.env (eval (.Name x p) X.env) = eval (.Name x p) X.env := by rfl) :
    DX X G i (.Attribute (.Name x p) f p2) (fun a cls d σ H Q => ∃ C, cls = .ref C ∧ XfC X.K C ∧ PySem.W.findIn X.K (.ref C) f = some none ∧ tXf a cls d C f (tVar i) σ H Q) (fun c fs => if okc c = true then fs.lookup f else none) := by
  refine ⟨fun a oe cls d pn hz hf => ⟨fun pins s σ H Q I h => ?_⟩, fun ι S H σ a c fs cls d w Q s rx hi hr h => ?_⟩
  · obtain ⟨C, ec, T, no, h⟩ := h
    exact (pe_xf (X := X) (n := f) T no hz hf (pe_var hN hv hd hcd) hb).run pins s σ H Q I h
  · split at hr
    · rename_i ho
      obtain ⟨C, hC, ec, hx2⟩ := id rx
      obtain ⟨T, no⟩ := hx c C hC ho
      refine ⟨C, ec, T, no, _, hi, rfl, ec, ?_⟩
      rcases hx2 with ⟨rfl, _⟩ | ⟨dd, fs', ed, hdd, e1, r⟩
      · cases hr
      · obtain ⟨v, hv1, hv2⟩ := rws_lookup e1 r hr
        exact ⟨dd, fs', v, ed, hdd, hv1, h v hv2⟩
    · cases hr
theorem dxs_nil : DXs X G i [] (fun _ _ _ => tNil) (fun _ _ => some []) := ⟨fun a oe cls d pn _ _ => pa_nil, fun ι S H σ a c fs cls d ws Q s rx hi hr h => by cases hr; exact h _ .nil⟩
theorem dxs_cons {te : Addr → Value → Option Addr → TE} {ta : Addr → Value → Option Addr → TA} {rv : Str → List (Str × MV) → Option MV} {rvs : Str → List (Str × MV) → Option (List MV)} (h1 : DX X G i e te rv) (h2 : DXs X G i es ta rvs)
    (hs : starEach (e :: es) X.env = (false, eval e X.env) :: starEach es X.env := by rfl) : DXs X G i (e :: es) (fun a cls d => tCons (te a cls d) (ta a cls d)) (fun c fs => (rv c fs).bind fun w => (rvs c fs).map (w :: ·)) := by
  refine ⟨fun a oe cls d pn hz hf => pa_cons (h1.run a oe cls d pn hz hf) (h2.run a oe cls d pn hz hf) hs, fun ι S H σ a c fs cls d ws Q s rx hi hr h => ?_⟩
  cases e1 : rv c fs with
  | none => rw [e1] at hr; cases hr
  | some w =>
    rw [e1] at hr
    cases e2 : rvs c fs with
    | none => rw [e2] at hr; cases hr
    | some ws' =>
      rw [e2] at hr
      cases hr
      exact h1.ok ι S H σ a c fs cls d w _ s rx hi e1 fun v rv => h2.ok ι S H σ a c fs cls d ws' _ s rx hi e2 fun vs rvs => h _ (.cons rv rvs)
structure DR (X : Cx) (G : Gx) (i : Nat) (st : Stmt) (ts : Addr → Value → Option Addr → TS) (rv : Str → List (Str × MV) → Option MV) : Prop where
  run : ∀ (a : Addr) (oe : Obj) (cls : Value) (d : Option Addr) (pn : List (Addr × Obj)), Zc cls d oe → (∃ vs, oe.data = .fields vs) → PS (X.suite a ((a, oe) :: pn)) st (ts a cls d)
  ok : ∀ (ι : List Addr) (S : Store) (H : Hp) (σ : L2.St) (a : Addr) (c : Str) (fs : List (Str × MV)) (cls : Value) (d : Option Addr) (w : MV) (D : Ends), Sim G ι H S → RX G ι H c fs cls d → σ[i]? = some (some (.ref a)) → rv c fs = some w →
    (∀ ι' H' v, Post G ι H ι' H' S → RW G ι' H' w v → D.rt v H') → ts a cls d D σ H
theorem dr_tup {ta : Addr → Value → Option Addr → TA} {rvs : Str → List (Str × MV) → Option (List MV)} {p p2 : Pos} {k : Nat} (h : DXs X G i es ta rvs) : DR X G i (.Return (some (.Tuple es k p)) p2) (fun a cls d => tRet (tTup (ta a cls d))) (fun c fs => (rvs c fs).bind fun ws => if decide (ws.length ≤ 1000) = true then some (.tup ws) else none) :=
  ⟨fun a oe cls d pn hz hf => ps_ret (pe_tup (h.run a oe cls d pn hz hf)), fun ι S H σ a c fs cls d w D s rx hi hr k => by
    cases e1 : rvs c fs with
    | none => rw [e1] at hr; cases hr
    | some ws =>
      rw [e1] at hr
      replace hr : (if decide (ws.length ≤ 1000) = true then some (MV.tup ws) else none) = some w := hr
      split at hr
      · rename_i hl
        cases hr
        refine h.ok ι S H σ a c fs cls d ws _ s rx hi e1 fun vs rs => ?_
        have hl2 : vs.length = ws.length := (rws_len rs).symm
        have hl3 : ws.length ≤ 1000 := of_decide_eq_true hl
        refine ⟨by rw [hl2, sizeLine_eq]; omega, fun p hp => ?_⟩
        have q := s.lay hp (.tup vs)
        exact k ι _ (.ref p) q (.tup (.of upd_same) (q.rws rs))
      · cases hr⟩
end
inductive ClaM where
  | plain (tbl : Str → Option Bool) (d : DenS)
  | named (tbl : Str → Option Bool) (i : Nat) (rv : Str → List (Str × MV) → Option MV)
def ClaM.tbl : ClaM → Str → Option Bool
  | .plain t _ => t
  | .named t _ _ => t
def ClaM.does : ClaM → Str → List (Str × MV) → DenS
  | .plain _ d, _, _ => fun ρ S => match d ρ S with
    | .ok (.exc ..) _ => .stuck
    | r => r
  | .named _ i rv, c, fs => fun ρ S => if decide (i < ρ.length) = true then (match rv c fs with
    | some w => .ok (.ret w) S
    | none => .stuck) else .stuck
def clauses : List ClaM → Str → List (Str × MV) → DenS
  | [], c, fs => fun ρ S => .ok (.exc c fs ρ) S
  | k :: r, c, fs => fun ρ S => match k.tbl c with
    | some true => k.does c fs ρ S
    | some false => clauses r c fs ρ S
    | none => .stuck
def sTryM (l : List ClaM) (b : DenS) : DenS := fun ρ S => match b ρ S with
  | .ok (.exc c fs ρ1) S1 => clauses l c fs ρ1 S1
  | r => r
inductive ClaDs (X : Cx) (G : Gx) : List ExceptHandler → List Cla → List ClaM → Prop
  | nil : ClaDs X G [] [] []
  | plain {x : Str} {cv : Value} {b₀ : Stmt} {suite : List Stmt} {np pos' : Pos} {hs : List ExceptHandler} {l : List Cla} {m : List ClaM} {tbl : Str → Option Bool} {d : DenS} (hc : Names X x cv)
      (ht : ∀ (c : Str) (C : Addr) (b : Bool), G.ct c = some C → tbl c = some b → PySem.W.exmOne X.K (.ref C) cv = some b)
      (hsu : ∀ (a : Addr) (oe : Obj) (pn : List (Addr × Obj)), DSs (X.suite a ((a, oe) :: pn)) G WF (b₀ :: suite) d) (r : ClaDs X G hs l m) :
      ClaDs X G (.ExceptHandler (some (.Name x np)) none (b₀ :: suite) pos' :: hs) (⟨cv, none, fun _ _ _ => tS G WF d⟩ :: l) (.plain tbl d :: m)
  | named {x n : Str} {i : Nat} {cv : Value} {st : Stmt} {np pos' : Pos} {hs : List ExceptHandler} {l : List Cla} {m : List ClaM} {tbl : Str → Option Bool} {ts : Addr → Value → Option Addr → TS} {rv : Str → List (Str × MV) → Option MV} (hi : X.N[i]? = some n) (hln : X.env.kindOf n = some .local) (hc : Names X x cv)
      (ht : ∀ (c : Str) (C : Addr) (b : Bool), G.ct c = some C → tbl c = some b → PySem.W.exmOne X.K (.ref C) cv = some b)
      (hsu : DR X G i st ts rv) (r : ClaDs X G hs l m) :
      ClaDs X G (.ExceptHandler (some (.Name x np)) (some n) [st] pos' :: hs) (⟨cv, some i, ts⟩ :: l) (.named tbl i rv :: m)
section
variable {X : Cx} {G : Gx} {W : WX}
theorem claOk_of {hs : List ExceptHandler} {l : List Cla} {m : List ClaM} (h : ClaDs X G hs l m) : ClaOk X hs l := by
  induction h with
  | nil => exact .nil
  | plain hc ht hsu r ih => exact .plain hc (fun a oe cls d pn _ _ => (hsu a oe pn).run) ih
  | named hi hln hc ht hsu r ih => exact .named hi hln hc (fun a oe cls d pn hz hf => pss_one (hsu.run a oe cls d pn hz hf)) ih
theorem clauses_ok {hs : List ExceptHandler} {l : List Cla} {m : List ClaM} (h : ClaDs X G hs l m) {D : Ends} {ι : List Addr} {S : Store} {H : Hp} {ρ : Env'} {σ : L2.St} {c : Str} {fs : List (Str × MV)} {cls : Value} {d : Option Addr} (s : Sim G ι H S) (re : RE G ι H ρ σ) (rx : RX G ι H c fs cls d) (q : fin G ι H NoE (want G W D) (clauses m c fs ρ S)) : wMix X.K W D l cls d σ H := by
  induction h with
  | nil => exact q ι H (.refl s) σ cls d re rx
  | @plain x cv b₀ suite np pos' hs l m tbl dS hc ht hsu r ih =>
    obtain ⟨C, hC, ecl, _⟩ := id rx
    unfold clauses at q
    cases et : tbl c with
    | none => rw [show (ClaM.plain tbl dS).tbl c = tbl c from rfl, et] at q; exact q.elim
    | some b =>
      rw [show (ClaM.plain tbl dS).tbl c = tbl c from rfl, et] at q
      refine ⟨b, by rw [ecl]; exact ht c C b hC et, fun eb a na => ?_, fun eb => ?_⟩
      · subst eb
        refine ⟨ι, S, ρ, s, re, ?_⟩
        have q : fin G ι H NoE (want G W D) (match dS ρ S with | .ok (.exc ..) _ => .stuck | r => r) := q
        cases e2 : dS ρ S with
        | err c' fs' S' => rw [e2] at q; exact q
        | stuck => rw [e2] at q; exact q
        | ok f2 S2 =>
          rw [e2] at q
          cases f2 with
          | exc c' fs' ρ2 => exact q.elim
          | next ρ2 => exact q
          | ret w => exact q
          | brk ρ2 => exact q
          | cont ρ2 => exact q
      · subst eb
        exact ih q
  | @named x n i cv st np pos' hs l m tbl ts rv hi hln hc ht hsu r ih =>
    obtain ⟨C, hC, ecl, _⟩ := id rx
    unfold clauses at q
    cases et : tbl c with
    | none => rw [show (ClaM.named tbl i rv).tbl c = tbl c from rfl, et] at q; exact q.elim
    | some b =>
      rw [show (ClaM.named tbl i rv).tbl c = tbl c from rfl, et] at q
      refine ⟨b, by rw [ecl]; exact ht c C b hC et, fun eb a na => ?_, fun eb => ?_⟩
      · subst eb
        have q : fin G ι H NoE (want G W D) (if decide (i < ρ.length) = true then (match rv c fs with | some w => .ok (.ret w) S | none => .stuck) else .stuck) := q
        split at q
        · rename_i hlt
          have hlt2 : i < σ.length := by rw [← re.len]; exact of_decide_eq_true hlt
          cases e2 : rv c fs with
          | none => rw [e2] at q; exact q.elim
          | some w =>
            rw [e2] at q
            exact hsu.ok ι S H (σ.set i (some (.ref a))) a c fs cls d w (endsAs i D) s rx (by rw [List.getElem?_set_self hlt2]) e2 fun ι' H' v p rw' => q ι' H' p v rw'
        · exact q.elim
      · subst eb
        exact ih q
theorem ds_tryM {body : List Stmt} {h₀ : ExceptHandler} {hds : List ExceptHandler} {l : List Cla} {m : List ClaM} {pos : Pos} {db : DenS} (hs : X.stack = X.env :: X.outer) (hf : X.env.frame = some X.env.locals) (hN : X.N.Nodup) (tk : Takes X W)
    (hb : ∀ (Wb : WX) (pn : List (Addr × Obj)) (xe : Value → Shared → Prop), Takes (X.tr pn xe) Wb → PassesOwn (model X.prog X.w) X.A X.env xe → DSs (X.tr pn xe) G Wb body db)
    (hh : ClaDs X G (h₀ :: hds) l m) : DS X G W (.Try body (h₀ :: hds) [] [] pos) (sTryM m db) :=
  ⟨PS.imp (ps_tryM (tb := fun Wb => tS G Wb db) hs hf hN tk (fun Wb pn xe t p => (hb Wb pn xe t p).run) (claOk_of hh)) fun D σ H h => by
    obtain ⟨ι, S, ρ, s, re, h⟩ := h
    refine ⟨ι, S, ρ, s, re, ?_⟩
    unfold sTryM at h
    cases e : db ρ S with
    | err c fs S' => rw [e] at h; exact h
    | stuck => rw [e] at h; exact h
    | ok fl S1 =>
      rw [e] at h
      cases fl with
      | next ρ1 => exact h
      | ret w => exact h
      | brk ρ1 => exact h
      | cont ρ1 => exact h
      | exc c fs ρ1 =>
        refine fun ι1 H1 p1 σ1 cls d re1 rx => ?_
        exact clauses_ok hh p1.sim re1 rx (fin.later p1 h)⟩
end
section
variable {E : EX} {S : Store} {ρ : Env'} {QF : Fl → Store → Prop}
theorem wp_tryM {l : List ClaM} {b : DenS} (h : wp (b ρ S) E fun fl S1 => match fl with
    | .exc c fs ρ1 => wp (clauses l c fs ρ1 S1) E QF
    | fl => QF fl S1) : wp (sTryM l b ρ S) E QF := by
  unfold sTryM
  cases e : b ρ S with
  | err c fs S' => rw [e] at h; exact h
  | stuck => rw [e] at h; exact h
  | ok fl S1 =>
    rw [e] at h
    cases fl <;> exact h
end
end MI
set_option Elab.async false
set_option linter.all false
set_option maxRecDepth 100000
set_option maxHeartbeats 2000000
/-! own errors with fields: what the top has written of them, seen by one Bool -/
namespace MI
open PySem PySem.Spec PyProof.Rows L2 PySem.EIN
def scopeB (s : Scope) (fl : List Str) : Bool := decide (s.kind = .function) && (!s.isCoroutine && (!s.isGenerator && ((s.names.all fun y => decide (y.2 ≠ .cell)) && (decide (s.names.lookup ("super" : Str) = some .globalImplicit) &&
  (decide (s.names.lookup ("__class__" : Str) = some .free) && (decide (s.names.lookup ("self" : Str) = some .local) && fl.all fun g => decide (s.names.lookup g = some .local)))))))
def fileB (K : PySem.W.Frag) (cda : Addr) (file : Str) : Bool := match K.lookup cda with
  | some ⟨_, _, .fields vs, _⟩ => match vs[2]? with
    | some (Value.str f _) => file == f
    | _ => false
  | _ => false
def cellB (K : PySem.W.Frag) (cc C : Addr) : Bool := match K.lookup cc with
  | some ⟨_, _, .cell (some (.ref D)), _⟩ => decide (D = C)
  | _ => false
def NamesBind (fl : List Str) : Prop := ∀ (a : List Arg) (name qual : Str) (body : List Stmt) (scope : Scope) (kV doc pm ct cdv : Value) (an : Option Addr) (cc : Addr), a.map (·.arg) = ("self" : Str) :: fl → ∀ (x : Value) (us : List Value), us.length = fl.length →
  bindArgs (PySem.W.ksFn name qual ⟨[], a, none, [], [], none, []⟩ body scope .none kV doc pm an cdv ct cc) ⟨x :: us, []⟩ = pure ((("self" : Str), x) :: fl.zip us)
def initB (file : Str) (K : PySem.W.Frag) (C fI : Addr) (fl : List Str) : Bool := match K.lookup fI with
  | some ⟨_, _, .func ⟨_, qual, ⟨[], a, none, [], [], none, []⟩, .stmts (.Expr (.Call (.Attribute (.Call (.Name x1 _) [] [] _) x2 _) [.JoinedStr parts _] [] _) _ :: r), scope, gl, [(x3, cc)], .none, _, _, _, _, .ref cda, _, bi⟩, _⟩ =>
    decide (x1 = ("super" : Str)) && (decide (x2 = ("__init__" : Str)) && (decide (x3 = ("__class__" : Str)) && (decide (gl = mainGlobals) && (decide (bi = builtinsNs) && (decide (a.map (·.arg) = ("self" : Str) :: fl) && (scopeB scope fl && (tailOk r fl && (partsOk fl parts && (decide (2 ≤ parts.length) && (decide (parts.length ≤ 90) &&
      (PySem.W.codeIn K (.ref cda) qual && (fileB K cda file && cellB K cc C))))))))))))
  | _ => false
def clsB (K : PySem.W.Frag) (C : Addr) : Bool := match K.lookup C with
  | some ⟨.type "type", _, .cls cd, sl⟩ => (match cd.mro, sl.toList with
    | .ref C' :: bm, [_, _, _, _, some (.builtin n), _] => decide (C' = C) && (decide (n = "ValueError.__new__") && (!cd.hasDel && (cd.hasDict && PySem.HandSPX.refsVE bm)))
    | _, _ => false)
  | _ => false
theorem clsB_ok {K : PySem.W.Frag} {C : Addr} (h : clsB K C = true) : ∃ nm q N bs bm sn sub ab col dd k0 k1 k2 k3 k5, K.lookup C = some (excClassObj nm q C N bs bm true sn sub ab col dd k0 k1 k2 k3 k5 "ValueError.__new__") ∧ PySem.HandSPX.refsVE bm = true := by
  unfold clsB at h
  split at h
  · rename_i dd cd sl ho
    split at h
    · rename_i C' bm k0 k1 k2 k3 n k5 hm hs
      simp only [Bool.and_eq_true, decide_eq_true_eq, Bool.not_eq_true'] at h
      obtain ⟨rfl, rfl, hdel, hdct, hbm⟩ := h
      obtain ⟨nm, bs, mro, ns, qn, hd, sn, sub, ab, col, del⟩ := cd
      dsimp only at hm hdel hdct
      subst hm hdel hdct
      have hsl : sl = #[k0, k1, k2, k3, some (.builtin "ValueError.__new__"), k5] := by
        obtain ⟨l⟩ := sl
        simp only at hs
        rw [hs]
      subst hsl
      exact ⟨nm, qn, ns, bs, bm, sn, sub, ab, col, dd, k0, k1, k2, k3, k5, ho, hbm⟩
    · cases h
  · cases h
def errC (K : PySem.W.Frag) (C fI : Addr) (fl : List Str) : Bool :=
  clsB K C && (decide (PySem.W.findIn K (.ref C) "__setattr__" = some (some (.builtin "object.__setattr__"))) && (decide (PySem.W.subIn K (.ref C) (.type "BaseException") = some true) && (decide (PySem.W.typeIn K (.ref C) = some (.type "type")) && (PySem.W.keepIn K (.ref C) &&
  (decide (PySem.W.findIn K (.ref C) "__init__" = some (some (.ref fI))) && (decide (PySem.W.typeIn K (.ref fI) = some (.type "function")) && (decide (PySem.W.mroIn K C (.ref C) = some true) && (decide (PySem.W.subIn K (.ref C) (.type "ValueError") = some true) &&
  (decide (PySem.W.ks_superIn K C C "__init__" = some (some (.builtin "ValueError.__init__"))) && (decide (PySem.W.nsIn K cStatics "thirdparty.any" = some none) && ((fl.all fun g => decide (PySem.W.findIn K (.ref C) g = some none)) && (xfB K C && decide (PySem.W.nsIn K mainGlobals "super" = some none)))))))))))))
theorem initB_ex {prog : Program} {file : Str} {K : PySem.W.Frag} {C fI : Addr} {fl : List Str} (h : initB file K C fI fl = true) (hb : NamesBind fl) (hfile : prog.main.file = file) (O : OexC K C) (sub : PySem.W.mroIn K C (.ref C) = some true) (sv : PySem.W.subIn K (.ref C) (.type "ValueError") = some true)
    (up : PySem.W.ks_superIn K C C "__init__" = some (some (.builtin "ValueError.__init__"))) (op : PySem.W.nsIn K cStatics "thirdparty.any" = some none) (top : (prog.main.scope.names.lookup ("super" : Str)).isSome = false)
    (nd : ((("self" : Str)) :: fl).Nodup) (dbg : ∀ g ∈ fl, (g == ("__debug__" : Str)) = false) (no : ∀ g ∈ fl, PySem.W.findIn K (.ref C) g = some none) (ne : fl ≠ []) (few : fl.length ≤ 100) : InitTxt prog K C fI fl := by
  refine ⟨?_, nd, dbg, no, ne, few⟩
  unfold initB at h
  split at h
  · rename_i oc od name qual a x1 p0 p1 x2 p2 parts p3 p4 p5 r scope gl x3 cc kV doc pm an cda ct bi osl ho
    simp only [Bool.and_eq_true, decide_eq_true_eq] at h
    obtain ⟨rfl, rfl, rfl, rfl, rfl, ha, hs, ht, hp, h2, h90, hcd, hf, hc⟩ := h
    unfold scopeB at hs
    simp only [Bool.and_eq_true, decide_eq_true_eq, Bool.not_eq_true', List.all_eq_true] at hs
    obtain ⟨s1, s2, s3, s4, s5, s6, s7, s8⟩ := hs
    unfold fileB at hf
    split at hf
    · rename_i ccl cdd vs ccs hcode
      split at hf
      · rename_i f tf hvs
        unfold cellB at hc
        split at hc
        · rename_i cl cld D csl hcell
          have hD : D = C := of_decide_eq_true hc
          subst hD
          match a, ha with
          | a0 :: a', ha =>
            have h0 : a0.arg = ("self" : Str) := by
              rw [List.map_cons] at ha
              injection ha
            refine ⟨cc, cda, name, qual, ⟨[], a0 :: a', none, [], [], none, []⟩, scope, .none, kV, doc, pm, ct, an, parts, r, p0, p1, p2, p3, p4, p5, a0, ⟨O, ⟨oc, od, osl, ho⟩, rfl, ⟨ccl, cdd, vs, ccs, f, tf, hcode, hvs, by rw [hfile]; exact hf⟩, ⟨cl, cld, csl, hcell⟩, sub, sv, up, op, top⟩, h0, hcd, s1, s2, s3, fun y hy => s4 y hy, s5, s6, s7, s8, ht, hp, h2, h90, fun x us hl => hb (a0 :: a') name qual _ scope kV doc pm ct (.ref cda) an cc ha x us hl⟩
        · cases hc
      · cases hf
    · cases hf
  · cases h
structure ErrF (prog : Program) (K : PySem.W.Frag) (C fI : Addr) (fl : List Str) : Prop where
  O : OexC K C
  T : InitTxt prog K C fI fl
  iC : PySem.W.findIn K (.ref C) "__init__" = some (some (.ref fI))
  tI : PySem.W.typeIn K (.ref fI) = some (.type "function")
  xf : XfC K C
  no : ∀ g ∈ fl, PySem.W.findIn K (.ref C) g = some none
  sup : PySem.W.nsIn K mainGlobals "super" = some none
theorem errF_ok {prog : Program} {file : Str} {K : PySem.W.Frag} {C fI : Addr} {fl : List Str} (h : (errC K C fI fl && initB file K C fI fl) = true) (hb : NamesBind fl) (hfile : prog.main.file = file) (top : (prog.main.scope.names.lookup ("super" : Str)).isSome = false)
    (nd : ((("self" : Str)) :: fl).Nodup) (dbg : ∀ g ∈ fl, (g == ("__debug__" : Str)) = false) (ne : fl ≠ []) (few : fl.length ≤ 100) : ErrF prog K C fI fl := by
  rw [Bool.and_eq_true] at h
  obtain ⟨h, hi⟩ := h
  unfold errC at h
  simp only [Bool.and_eq_true, decide_eq_true_eq, List.all_eq_true] at h
  obtain ⟨h1, h2, h3, h4, h5, h6, h7, h8, h9, h10, h11, h12, h13, h14⟩ := h
  have O : OexC K C := ⟨clsB_ok h1, h2, h3, h4, h5⟩
  have no : ∀ g ∈ fl, PySem.W.findIn K (.ref C) g = some none := h12
  exact ⟨O, initB_ex hi hb hfile O h8 h9 h10 h11 top nd dbg no ne few, h6, h7, xfB_ok h13, no, h14⟩
end MI
set_option Elab.async false
set_option linter.all false
set_option maxRecDepth 100000
set_option maxHeartbeats 2000000
/-! what a named clause gives, by names; fields of errors -/
namespace MI
open PySem PySem.Spec PyProof.Rows L2 PySem.EIN
def rvStr (z : Str) : Str → List (Str × MV) → Option MV := fun _ _ => some (.str z)
def rvFld (okc : Str → Bool) (f : Str) : Str → List (Str × MV) → Option MV := fun c fs => if okc c = true then fs.lookup f else none
def rvNil : Str → List (Str × MV) → Option (List MV) := fun _ _ => some []
def rvCons (a : Str → List (Str × MV) → Option MV) (b : Str → List (Str × MV) → Option (List MV)) : Str → List (Str × MV) → Option (List MV) := fun c fs => (a c fs).bind fun w => (b c fs).map (w :: ·)
def rvTup (b : Str → List (Str × MV) → Option (List MV)) : Str → List (Str × MV) → Option MV := fun c fs => (b c fs).bind fun ws => if decide (ws.length ≤ 1000) = true then some (.tup ws) else none
section
variable {X : Cx} {G : Gx} {i : Nat} {e : Expr} {es : List Expr}
theorem dy_str {z : Str} {j : Nat} {p : Pos} : DX X G i (.Constant (.str z) j p) (fun _ _ _ => tC (.str z)) (rvStr z) := dx_str
theorem dy_fld {x f : Str} {p p2 : Pos} {okc : Str → Bool} (hN : X.N[i]? = some x) (hv : Vis X.env.scope x) (hx : ∀ c C, G.ct c = some C → okc c = true → XfC X.K C ∧ PySem.W.findIn X.K (.ref C) f = some none) (hd : (x == ("__debug__" : Str)) = false := by decide) (hcd : (x == ("__classdict__" : Str)) = false := by decide)
    (hb : attributeBase (.Name x p) f X.env (eval (.Name x p) X.env) = eval (.Name x p) X.env := by rfl) :
    DX X G i (.Attribute (.Name x p) f p2) (fun a cls d σ H Q => ∃ C, cls = .ref C ∧ XfC X.K C ∧ PySem.W.findIn X.K (.ref C) f = some none ∧ tXf a cls d C f (tVar i) σ H Q) (rvFld okc f) := dx_fld hN hv hx hd hcd hb
theorem dy_nil : DXs X G i [] (fun _ _ _ => tNil) rvNil := dxs_nil
theorem dy_cons {te : Addr → Value → Option Addr → TE} {ta : Addr → Value → Option Addr → TA} {rv : Str → List (Str × MV) → Option MV} {rvs : Str → List (Str × MV) → Option (List MV)} (h1 : DX X G i e te rv) (h2 : DXs X G i es ta rvs)
    (hs : starEach (e :: es) X.env = (false, eval e X.env) :: starEach es X.env := by rfl) : DXs X G i (e :: es) (fun a cls d => tCons (te a cls d) (ta a cls d)) (rvCons rv rvs) := dxs_cons h1 h2 hs
theorem dy_tup {ta : Addr → Value → Option Addr → TA} {rvs : Str → List (Str × MV) → Option (List MV)} {p p2 : Pos} {k : Nat} (h : DXs X G i es ta rvs) : DR X G i (.Return (some (.Tuple es k p)) p2) (fun a cls d => tRet (tTup (ta a cls d))) (rvTup rvs) := dr_tup h
end
end MI
set_option Elab.async false
set_option linter.all false
set_option maxRecDepth 100000
/-! pairs of texts in order; sorted(d.items()); d.setdefault -/
namespace SrtP
open PySem PyProof.Rows PySem.Spec SrtO MI L2
/-! ### the pairs on the heap -/
def Twin (h : Heap) (v : Value) (p : Str × Str) : Prop := ∃ a ob t u n, v = .ref a ∧ h.get? a = some ob ∧ ob.cls = .type "tuple" ∧ ob.data = .seq #[.str p.1 t, .str p.2 u] n
section
variable {prog : Program} {w : World} {A : Around} {E : Value → Shared → Prop} {s : Shared}
def twinOf (h : Heap) (v : Value) : Str × Str := match v with
  | .ref a => match h.get? a with
    | some ob => match ob.data with
      | .seq its _ => match its.toList with
        | [.str x _, .str y _] => (x, y)
        | _ => ("", "")
      | _ => ("", "")
    | none => ("", "")
  | _ => ("", "")
theorem Twin.of {h : Heap} {v : Value} {p : Str × Str} (x : Twin h v p) : twinOf h v = p := by
  obtain ⟨a, ob, t, u, n, rfl, h1, h2, h3⟩ := x
  unfold twinOf
  simp only [h1, h3]
end
end SrtP
namespace L2
open PySem PySem.Spec PyProof.Rows
end L2
set_option Elab.async false
set_option linter.all false
set_option maxRecDepth 100000
namespace MI
open PySem PySem.Spec PyProof.Rows L2
section
variable {X : Cx} {G : Gx} {W : WX} {a b c : Expr} {da db dc : Den} {pos p apos cpos : Pos}
end
section
variable {S : Store} {E : EX} {Q : MV → Store → Prop} {ρ : Env'} {n : Nat}
end
end MI
set_option Elab.async false
set_option linter.all false
set_option maxRecDepth 100000
/-! d.get(k, w), d.get(k): keys that are texts or whole numbers -/
namespace MI
open PySem PySem.Spec PyProof.Rows L2
section
variable {X : Cx} {G : Gx} {W : WX} {a b c : Expr} {da db dc : Den} {pos apos : Pos}
end
section
variable {E : EX} {S : Store} {ρ : Env'} {Q : MV → Store → Prop}
end
end MI
set_option Elab.async false
set_option linter.all false
set_option maxRecDepth 100000
/-! {k: v, ..}, its keys texts or whole numbers -/
namespace MI
open PySem PySem.Spec PyProof.Rows L2
def evalPs : List (Den × Den) → Env' → Store → Res (List (MV × MV))
  | [], _, S => .ok [] S
  | (k, v) :: r, ρ, S => (k ρ S).bind fun kw S1 => (v ρ S1).bind fun vw S2 => (evalPs r ρ S2).bind fun l S3 => .ok ((kw, vw) :: l) S3
def keysP : List (MV × MV) → Option (List (Key × MV))
  | [] => some []
  | (k, v) :: r => match keyM k, keysP r with
    | some k', some r' => some ((k', v) :: r')
    | _, _ => none
def mergeP (kvs more : List (Key × MV)) : List (Key × MV) := more.foldl (fun acc kv => putM acc kv.1 kv.2) kvs
def dDisp (prs : List (Den × Den)) : Den := fun ρ S => (evalPs prs ρ (S ++ [.dic []])).bind fun l S2 => match S2[S.length]? with
  | some (.dic []) => match keysP l with
    | some kvs => if kvs.length ≤ 15 then .ok (.ref S.length) (S2.set S.length (.dic (mergeP [] kvs))) else .stuck
    | none => .stuck
  | _ => .stuck
section
variable {X : Cx} {G : Gx} {W : WX} {pos : Pos}
structure DPs (X : Cx) (G : Gx) (W : WX) (pos : Pos) (keys : List (Option Expr)) (values : List Expr) (prs : List (Den × Den)) : Prop where
  run : PPs X pos keys values (prs.map fun p => (tD G W p.1, tD G W p.2))
theorem dps_nil : DPs X G W pos [] [] [] := ⟨pps_nil⟩
theorem dps_cons {k v : Expr} {ks : List (Option Expr)} {vs : List Expr} {dk dv : Den} {prs : List (Den × Den)} (hk : DE X G W k dk) (hv : DE X G W v dv) (hr : DPs X G W pos ks vs prs) : DPs X G W pos (some k :: ks) (v :: vs) ((dk, dv) :: prs) := ⟨pps_cons hk.run hv.run hr.run⟩
theorem pairs_imp : ∀ (prs : List (Den × Den)) (ι : List Addr) (H : Hp) (S : Store) (ρ : Env') (σ : L2.St) (K : List (V × V) → Hp → Prop), Sim G ι H S → RE G ι H ρ σ →
    fin G ι H (fun c x H' => W c x σ H') (fun l ι' H' => ∀ ps, RWs G ι' H' (l.map (·.1)) (ps.map (·.1)) → RWs G ι' H' (l.map (·.2)) (ps.map (·.2)) → K ps H') (evalPs prs ρ S) → tPairs (prs.map fun p => (tD G W p.1, tD G W p.2)) σ H K
  | [], ι, H, S, ρ, σ, K, s, re, h => h ι H (.refl s) [] .nil .nil
  | (k, v) :: r, ι, H, S, ρ, σ, K, s, re, h => by
    refine ⟨ι, S, ρ, s, re, (fin.bind (show fin G ι H _ _ ((k ρ S).bind _) from h)).mono fun kw ι1 H1 S1 p _ h1 x rx => ?_⟩
    obtain ⟨S1, s1, m1, n1, _, h1⟩ := h1
    refine ⟨ι1, S1, ρ, s1, n1 _ _ re, (fin.bind h1).mono fun vw ι2 H2 S2 p2 _ h2 y ry => ?_⟩
    obtain ⟨S2, s2, m2, n2, _, h2⟩ := h2
    refine pairs_imp r ι2 H2 S2 ρ σ _ s2 (n2 _ _ (n1 _ _ re)) ((fin.bind h2).mono fun l ι3 H3 S3 p3 _ h3 ps r1 r2 => ?_)
    obtain ⟨S3, s3, m3, _, _, h3⟩ := h3
    exact h3 ι3 H3 (.refl s3) ((x, y) :: ps) (.cons (m3 _ _ (m2 _ _ rx)) r1) (.cons (m3 _ _ ry) r2)
theorem keysP_ok {ι : List Addr} {H : Hp} : ∀ {l : List (MV × MV)} {ps : List (V × V)} {kvs : List (Key × MV)}, RWs G ι H (l.map (·.1)) (ps.map (·.1)) → RWs G ι H (l.map (·.2)) (ps.map (·.2)) → keysP l = some kvs →
    ∃ kv : List (Key × V), ps = kv.map (fun q => (kV q.1, q.2)) ∧ kv.map (·.1) = kvs.map (·.1) ∧ RWs G ι H (kvs.map (·.2)) (kv.map (·.2))
  | [], [], _, _, _, e => by cases e; exact ⟨[], rfl, rfl, .nil⟩
  | [], _ :: _, _, r, _, _ => by cases r
  | _ :: _, [], _, r, _, _ => by cases r
  | (k, v) :: l, (x, y) :: ps, _, r1, r2, e => by
    cases r1 with
    | cons a1 a2 =>
      cases r2 with
      | cons b1 b2 =>
        unfold keysP at e
        split at e
        · rename_i k' r' e1 e2
          cases e
          obtain ⟨kv, h1, h2, h3⟩ := keysP_ok a2 b2 e2
          have ek := key_ok a1 e1
          have ek : x = kV k' := ek
          subst ek
          exact ⟨(k', y) :: kv, by rw [h1]; rfl, by rw [List.map_cons, List.map_cons, h2], .cons b1 h3⟩
        · cases e
theorem mergeP_ok {ι : List Addr} {H : Hp} : ∀ {more : List (Key × MV)} {mv : List (Key × V)} {kvs : List (Key × MV)} {kv : List (Key × V)}, mv.map (·.1) = more.map (·.1) → RWs G ι H (more.map (·.2)) (mv.map (·.2)) → kv.map (·.1) = kvs.map (·.1) → RWs G ι H (kvs.map (·.2)) (kv.map (·.2)) →
    (mergeK kv mv).map (·.1) = (mergeP kvs more).map (·.1) ∧ RWs G ι H ((mergeP kvs more).map (·.2)) ((mergeK kv mv).map (·.2))
  | [], [], _, _, _, _, q1, q2 => ⟨q1, q2⟩
  | [], _ :: _, _, _, e, _, _, _ => by cases e
  | _ :: _, [], _, _, e, _, _, _ => by cases e
  | (k, w) :: more, (k2, v) :: mv, kvs, kv, e, r, q1, q2 => by
    cases r with
    | cons r1 r2 =>
      rw [List.map_cons, List.map_cons] at e
      injection e with e1 e2
      have e1 : k2 = k := e1
      subst e1
      obtain ⟨p1, p2⟩ := kvs_put (k := k2) r1 q1 q2
      exact mergeP_ok (kvs := putM kvs k2 w) (kv := putK kv k2 v) e2 r2 p1 p2
theorem de_disp {keys : List (Option Expr)} {values : List Expr} {prs : List (Den × Den)} (h : DPs X G W pos keys values prs) (hall : keys.all (·.isSome) = true := by rfl) (hl : keys.length = values.length := by rfl) (h0 : keys ≠ [] := by simp) (h15 : keys.length ≤ 15 := by decide) :
    DE X G W (.Dict keys values pos) (dDisp prs) := ⟨PE.imp (pe_disp h.run hall hl h0 h15) fun σ H Q h => by
  obtain ⟨ι, S, ρ, s, re, h⟩ := h
  intro p hp
  have p0 := s.new hp (ho := .dK []) (mo := .dic []) ⟨[], upd_same, rfl, .nil⟩
  have h' := fin.later p0 h
  refine pairs_imp prs _ _ _ ρ σ _ p0.sim (p0.re re) ((fin.bind h').mono fun l ι2 H2 S2 p2 _ h2 ps r1 r2 => ?_)
  obtain ⟨S2, s2, _, _, _, h2⟩ := h2
  have hi : ι2[S.length]? = some p := p2.ext _ _ (by rw [← s.len]; simp)
  split at h2
  · rename_i hS
    obtain ⟨kv0, g, q1, q2⟩ := s2.obj _ _ _ hS hi
    have : kv0 = [] := by simpa using q1
    subst this
    refine ⟨g, ?_⟩
    split at h2
    · rename_i kvs e
      split at h2
      · rename_i few
        obtain ⟨kv, e1, e2, e3⟩ := keysP_ok r1 r2 e
        obtain ⟨m1, m2⟩ := mergeP_ok (kvs := []) (kv := []) e2 e3 rfl .nil
        have len : kv.length = kvs.length := by
          have := congrArg List.length e2
          simpa using this
        refine ⟨kv, e1, by rw [len]; exact few, ?_⟩
        have t := sqT_upd (K := G.K) (ho := .dK (mergeK [] kv)) (noTup_of g (fun _ z => by cases z) (fun _ _ z => by cases z))
        have pw := s2.write hi g (fun _ z => by cases z) (fun _ _ z => by cases z) (ho' := .dK (mergeK [] kv)) (mo := .dic (mergeP [] kvs)) ⟨_, upd_same, m1, m2.mono (fun _ _ e => e) t⟩
        exact h2 ι2 _ pw (.ref p) (.ref hi)
      · exact h2.elim
    · exact h2.elim
  · exact h2.elim⟩
end
section
variable {E : EX} {S : Store} {ρ : Env'} {Q : MV → Store → Prop}
theorem wp_disp {prs : List (Den × Den)} : wp (dDisp prs ρ S) E Q = wp (evalPs prs ρ (S ++ [.dic []])) E fun l S2 => wp (match S2[S.length]? with
  | some (.dic []) => match keysP l with
    | some kvs => if kvs.length ≤ 15 then (.ok (.ref S.length) (S2.set S.length (.dic (mergeP [] kvs))) : Res MV) else .stuck
    | none => .stuck
  | _ => .stuck) E Q := wp_bind
theorem wp_ps0 {P : List (MV × MV) → Store → Prop} : wp (evalPs [] ρ S) E P = P [] S := rfl
theorem wp_ps1 {k v : Den} {r : List (Den × Den)} {P : List (MV × MV) → Store → Prop} : wp (evalPs ((k, v) :: r) ρ S) E P = wp (k ρ S) E fun kw S1 => wp (v ρ S1) E fun vw S2 => wp (evalPs r ρ S2) E fun l S3 => P ((kw, vw) :: l) S3 := by
  show wp ((k ρ S).bind fun kw S1 => (v ρ S1).bind fun vw S2 => (evalPs r ρ S2).bind fun l S3 => .ok ((kw, vw) :: l) S3) E P = _
  rw [wp_bind]
  congr 1
  funext kw S1
  rw [wp_bind]
  congr 1
  funext vw S2
  rw [wp_bind]
  rfl
end
end MI
set_option Elab.async false
set_option linter.all false
set_option maxRecDepth 100000
/-! k in d, d a dict made in the program; what else `in` asks as before -/
namespace MI
open PySem PySem.Spec PyProof.Rows L2
section
variable {X : Cx} {G : Gx}
end
end MI
set_option Elab.async false
set_option linter.all false
set_option maxRecDepth 100000
/-! tuple(d.items()), d a dict of texts by texts -/
namespace TupV
open PySem PySem.Spec PyProof.Rows PySem.Calls L2
section
variable {prog : Program} {w : World} {A : Around} {E : Value → Shared → Prop} {s : Shared}
end
end TupV
namespace L2
open PySem PySem.Spec PyProof.Rows
end L2
namespace MI
open PySem PySem.Spec PyProof.Rows L2
section
variable {X : Cx} {G : Gx} {W : WX} {a b c : Expr} {da db dc : Den} {pos p apos cpos : Pos}
end
section
variable {S : Store} {E : EX} {Q : MV → Store → Prop} {n : Nat}
end
end MI
set_option Elab.async false
set_option linter.all false
set_option maxRecDepth 100000
/-! sorted(t), t a tuple or a list of pairs of texts -/
namespace SrtP
open PySem PyProof.Rows PySem.Spec SrtO MI L2
section
variable {prog : Program} {w : World} {A : Around} {E : Value → Shared → Prop} {s : Shared}
end
end SrtP
namespace MI
open PySem PySem.Spec PyProof.Rows L2
section
variable {X : Cx} {G : Gx} {W : WX} {a b c : Expr} {es : List Expr} {da : Den} {dr : DenL} {pos p : Pos}
end
end MI
set_option Elab.async false
set_option linter.all false
set_option maxRecDepth 100000
/-! o.m(e, ..), m a method of an own class that raises nothing -/
namespace MI
open PySem PySem.Spec PyProof.Rows L2
section
variable {X : Cx} {G : Gx} {W : WX} {o e : Expr} {es : List Expr} {pos apos : Pos} {dO : Den} {dr : DenL}
end
end MI
set_option Elab.async false
set_option linter.all false
set_option maxRecDepth 100000
/-! set(xs) of keys of any one kind; len(set(xs)) of texts -/
namespace SetM
open PySem PySem.Spec PyProof.Rows
section
variable {K : Type} [DecidableEq K]
def addK (l : List K) (k : K) : List K := if k ∈ l then l else k :: l
def seen (ks : List K) : List K := ks.foldl addK []
theorem len_addK (l : List K) (k : K) : (addK l k).length = if decide (k ∈ l) = true then l.length else l.length + 1 := by
  unfold addK
  by_cases h : k ∈ l <;> simp [h]
theorem seen_len (ks : List K) : (seen ks).length ≤ ks.length := by
  have : ∀ (ks l : List K), (ks.foldl addK l).length ≤ l.length + ks.length := fun ks => by
    induction ks with
    | nil => intro l; simp
    | cons k ks ih =>
      intro l
      rw [List.foldl_cons]
      have h1 := ih (addK l k)
      have h2 := len_addK l k
      rw [List.length_cons]
      split at h2 <;> omega
  simpa [seen] using this ks []
end
section
variable {K : Type} [DecidableEq K] {prog : Program} {w : World} {A : Around}
end
section
variable {K : Type} [DecidableEq K] {prog : Program} {w : World} {A : Around} {E : Value → Shared → Prop} {s : Shared}
abbrev bare (led : Bool) : Obj := { cls := .type "set", dict := none, data := .set #[] 0 (.fresh 0 0 led) }
set_option maxHeartbeats 3200000 in
set_option maxHeartbeats 3200000 in
end
end SetM
set_option Elab.async false
set_option linter.all false
set_option maxRecDepth 100000
/-! sets of texts whose tables can be walked; sorted(set(xs)) -/
namespace SetX
open PySem PySem.Spec PyProof.Rows L2
open SetM (addK seen_len)
def txt (m : Int × Value) : Str := match m.2 with
  | .str z _ => z
  | _ => ⟨#[]⟩
def IsT (w : World) (m : Int × Value) : Prop := ∃ z tk, m.2 = Value.str z tk ∧ m.1 = hashStr w z
def led (w : World) (tb : SetTable) : Prop := w.params.followText "set-order" = true ∨ tb.led = true
structure Holds (w : World) (ks : List Str) (ms : Array (Int × Value)) (tb : SetTable) : Prop where
  each : ∀ m ∈ ms.toList, IsT w m
  perm : (ms.toList.map txt).Perm (SetM.seen ks)
  few : ms.size < scanBound
  fit : tb.fits ms.size = true
  ris : Ris tb.place.toList
  led : led w tb
def SetT (w : World) (h : Heap) (a : Addr) (ks : List Str) : Prop := ∃ ob ms ep tb, h.get? a = some ob ∧ ob.ExactSet ∧ ob.data = .set ms ep tb ∧ Holds w ks ms tb
section
variable {prog : Program} {w : World} {h h' : Heap} {a : Addr} {ks : List Str}
theorem SetT.low (R : SetT w h a ks) : a < h.objs.size :=
  let ⟨_, _, _, _, here, _⟩ := R
  Heap.lt_size here
theorem Holds.size {ms : Array (Int × Value)} {tb : SetTable} (H : Holds w ks ms tb) : ms.size = (SetM.seen ks).length := by
  have := H.perm.length_eq
  rwa [List.length_map, Array.length_toList] at this
end
section
variable {prog : Program} {w : World} {A : Around} {E : Value → Shared → Prop} {s : Shared} {a : Addr} {ks : List Str}
end
end SetX
set_option Elab.async false
set_option linter.all false
set_option maxRecDepth 100000
namespace MI
open PySem PySem.Spec PyProof.Rows L2
section
variable {X : Cx} {G : Gx} {W : WX} {a : Expr} {da : Den} {pos p p2 q : Pos}
end
end MI
set_option Elab.async false
set_option linter.all false
set_option maxRecDepth 100000
/-! sorted(set(xs)), xs a list of texts -/
namespace SetX
open PySem PySem.Spec PyProof.Rows L2
open SetM (addK seen_len)
section
variable {prog : Program} {w : World} {A : Around} {E : Value → Shared → Prop} {s : Shared} {a : Addr} {ks : List Str}
end
section
variable {prog : Program} {w : World} {A : Around} {E : Value → Shared → Prop} {s : Shared}
set_option maxHeartbeats 3200000 in
set_option maxHeartbeats 3200000 in
end
end SetX
set_option Elab.async false
set_option linter.all false
set_option maxRecDepth 100000
namespace MI
open PySem PySem.Spec PyProof.Rows L2
section
variable {X : Cx} {G : Gx} {W : WX} {a : Expr} {da : Den} {pos p p2 q : Pos}
end
end MI
set_option Elab.async false
set_option linter.all false
set_option maxRecDepth 100000
namespace MI
open PySem PySem.Spec PyProof.Rows L2
/-! sorted({..}), a comprehension that makes texts -/
section
variable {X : Cx}
set_option maxHeartbeats 1600000 in
end
end MI
set_option Elab.async false
set_option linter.all false
set_option maxRecDepth 100000
namespace MI
open PySem PySem.Spec PyProof.Rows L2
section
variable {prog : Program} {w : World} {A : Around} {R : Result → Shared → Prop} {s : Shared} {e ta ia tb ib : Expr} {fa fb : List Expr} {sc : Scope} {pos : Pos} {iv dv : Value} {env : Env}
abbrev up (prog : Program) (w : World) (A : Around) (env : Env) (R : Result → Shared → Prop) : Value → Shared → Prop := notedBy (model prog w) A env fun x s' => R (.error x) s'
end
section
variable {X : Cx}
set_option maxHeartbeats 1600000 in
end
end MI
set_option Elab.async false
set_option linter.all false
set_option maxRecDepth 100000
namespace MI
open PySem PySem.Spec PyProof.Rows L2
section
variable {X : Cx} {G : Gx} {W : WX} {e a b c : Expr} {pos : Pos} {d da db : Den}
end
/-! reading them -/
section
variable {E : EX} {S : Store} {ρ : Env'} {Q : MV → Store → Prop}
end
end MI
set_option Elab.async false
set_option linter.all false
set_option maxRecDepth 100000
/-! sorted(xs), sorted(set(xs)), xs a tuple or a list of texts -/
namespace SetX
open PySem PySem.Spec PyProof.Rows L2
open SetM (addK seen_len)
section
variable {prog : Program} {w : World} {A : Around} {E : Value → Shared → Prop} {s : Shared}
set_option maxHeartbeats 3200000 in
set_option maxHeartbeats 3200000 in
end
end SetX
namespace MI
open PySem PySem.Spec PyProof.Rows L2
section
variable {X : Cx} {G : Gx} {W : WX} {a b c : Expr} {es : List Expr} {da : Den} {dr : DenL} {pos p p2 q : Pos}
end
end MI
set_option Elab.async false
set_option linter.all false
set_option maxRecDepth 100000
/-! sorted(xs), xs a list of any alike data (tuples of whole numbers, texts, tuples ..) -/
namespace MI
open PySem PySem.Spec PyProof.Rows L2
open PySem.W (AllAlike alike dataLe)
section
variable {X : Cx} {G : Gx} {W : WX} {a : Expr} {es : List Expr} {dr : DenL} {pos p : Pos}
end
end MI
set_option Elab.async false
set_option linter.all false
set_option maxRecDepth 100000
/-! tuples that are known to have no dict: tuple(xs) noted in the store, t.index(x) of data; read as the tuple itself -/
namespace MI
open PySem PySem.Spec PyProof.Rows L2
section
variable {X : Cx} {K : PySem.W.Frag}
end
section
variable {X : Cx} {G : Gx} {W : WX} {a b : Expr} {es : List Expr} {da : Den} {dr : DenL} {pos apos : Pos}
end
section
variable {E : EX} {S : Store} {Q : MV → Store → Prop} {ρ : Env'}
end
end MI
set_option Elab.async false
set_option linter.all false
set_option maxRecDepth 100000
/-! d.update(e), both with keys that are texts or whole numbers -/
namespace MI
open PySem PySem.Spec PyProof.Rows L2
section
variable {X : Cx} {G : Gx} {W : WX} {a b : Expr} {es : List Expr} {da : Den} {dr : DenL} {pos apos : Pos}
end
section
variable {E : EX} {S : Store} {Q : MV → Store → Prop}
end
end MI
set_option Elab.async false
set_option linter.all false
set_option maxRecDepth 100000
/-! dicts keyed by tuples of whole numbers and texts; tuples that are written and noted -/
namespace MI
open PySem PySem.Spec PyProof.Rows L2
section
variable {κ : Type} [DecidableEq κ]
variable {G : Gx} {ι : List Addr} {H : Hp}
end
section
variable {X : Cx} {G : Gx} {W : WX} {a b c : Expr} {es : List Expr} {da db dc : Den} {dr : DenL} {pos apos : Pos}
end
section
variable {E : EX} {S : Store} {Q : MV → Store → Prop} {ρ : Env'} {QE : Env' → Store → Prop}
end
end MI
set_option Elab.async false
set_option linter.all false
set_option maxRecDepth 100000
/-! dicts keyed by tuples: {t: v} with one pair; the walk over the keys while the dict is locked; tuple(xs) that is noted as a key -/
namespace MI
open PySem PySem.Spec PyProof.Rows L2
section
variable {G : Gx} {ι ι' : List Addr} {H H' : Hp} {S S1 S' : Store}
end
def mvKy : Key → MV
  | .inl i => .int i
  | .inr s => .str s
section
variable {X : Cx} {G : Gx} {W : WX} {e a b : Expr} {da db d : Den} {pos apos : Pos}
end
section
variable {E : EX} {S : Store} {Q : MV → Store → Prop} {ρ : Env'}
end
end MI
set_option Elab.async false
set_option linter.all false
set_option maxRecDepth 100000
/-! {k: v for x in xs if t}, keys texts or whole numbers -/
namespace MI
open PySem PySem.Spec PyProof.Rows L2
section
variable {X : Cx} {G : Gx} {W : WX} {e a b c : Expr} {pos : Pos} {d dk da db : Den} {dr : DenL}
end
end MI
namespace MI
open PySem PySem.Spec PyProof.Rows L2
section
variable {X : Cx} {G : Gx} {W : WX} {a : Expr} {es : List Expr} {dr : DenL} {pos : Pos}
end
end MI
namespace MI
open PySem PySem.Spec PyProof.Rows L2
section
variable {X : Cx} {G : Gx} {W : WX} {a : Expr} {es : List Expr} {dr : DenL} {pos : Pos}
end
section
variable {E : EX} {S : Store} {Q : MV → Store → Prop} {ρ : Env'}
end
end MI
set_option Elab.async false
set_option linter.all false
set_option maxRecDepth 100000
/-! sum(xs), xs a list of whole numbers; t.count(x), t a noted tuple of data -/
namespace MI
open PySem PySem.Spec PyProof.Rows L2
section
variable {X : Cx}
end
section
variable {X : Cx} {G : Gx} {W : WX} {a b : Expr} {es : List Expr} {da : Den} {dr : DenL} {pos apos p : Pos}
end
end MI
namespace MI
open PySem PySem.Spec PyProof.Rows L2
/-! name = {k: v for ..} on one line -/
section
variable {X : Cx}
variable {G : Gx} {W : WX} {d dk : Den}
end
end MI
set_option Elab.async false
set_option linter.all false
set_option maxRecDepth 100000
/-! *d among items, list(d), sorted(d): d a dict, its keys texts or whole numbers -/
namespace StD
open PySem PySem.Spec PyProof.Rows L2
section
variable {prog : Program} {w : World} {A : Around} {E : Value → Shared → Prop} {s : Shared} {T : String} {r d : Addr} {n : Nat} {P : Nat → Value → Prop} {OK : Heap → Prop}
end
section
variable {X : Cx} {pins : List (Addr × Obj)} {σ : L2.St} {H : Hp} {s : Shared}
end
end StD
namespace MI
open PySem PySem.Spec PyProof.Rows L2
def fListD : List MV → Store → Res MV
  | [.ref n], S => match S[n]? with
    | some (.dic kvs) => .ok (.ref S.length) (S ++ [.lst (kvs.map fun kv => mvKy kv.1)])
    | _ => .stuck
  | _, _ => .stuck
section
variable {X : Cx} {G : Gx} {W : WX} {a : Expr} {es : List Expr} {da : Den} {dr : DenL} {pos p : Pos}
theorem rw_key {ι : List Addr} {H : Hp} : ∀ k : Key, RW G ι H (mvKy k) (kV k)
  | .inl i => .int i
  | .inr s => .str s
theorem rws_keys {ι : List Addr} {H : Hp} : ∀ {kvs : List (Key × MV)} {kv : List (Key × V)}, kv.map (·.1) = kvs.map (·.1) → RWs G ι H (kvs.map fun kv => mvKy kv.1) (kv.map fun kv => kV kv.1)
  | [], [], _ => .nil
  | [], _ :: _, e => by cases e
  | _ :: _, [], e => by cases e
  | x :: kvs, y :: kv, e => by
    simp only [List.map_cons, List.cons.injEq] at e
    refine .cons ?_ (rws_keys e.2)
    show RW G ι H (mvKy x.1) (kV y.1)
    rw [e.1]
    exact rw_key _
theorem w_listD : ClW G fListD rListD := fun ι H S E Q ws vs s r h => by
  unfold fListD at h
  split at h
  · obtain ⟨v, rfl, r1⟩ := rws1 r
    cases r1 with
    | ref i =>
      split at h
      · rename_i kvs hS
        obtain ⟨kv, g, q1, q2⟩ := s.obj _ _ _ hS i
        exact ⟨_, kv, rfl, g, fun p hn => new_lst s (rws_keys q1) h p hn⟩
      · exact h.elim
  · exact h.elim
theorem de_listD {p : Pos} (hc : X.calm = true) (hg : Gl X "list") (hm : X.mg "list" = none) (ha : DA X G W (a :: es) dr)
    (he : starEach (a :: es) X.env = (false, eval a X.env) :: starEach es X.env := by rfl) (hpl : (backTo pos (starEach es X.env)).any (·.1) = false := by rfl) : DE X G W (.Call (.Name "list" p) (a :: es) [] pos) (dCall fListD dr) :=
  de_callTy (call_list_dK hc) w_listD hg hm (by decide +kernel) ha (by decide) (by decide) he hpl
end
section
variable {E : EX} {S : Store} {Q : MV → Store → Prop}
theorem wp_listD {n : Nat} {kvs : List (Key × MV)} (e : S[n]? = some (.dic kvs)) : wp (fListD [.ref n] S) E Q = Q (.ref S.length) (S ++ [.lst (kvs.map fun kv => mvKy kv.1)]) := by
  unfold fListD
  simp only [e]
  rfl
end
end MI
set_option Elab.async false
set_option linter.all false
set_option maxRecDepth 100000
set_option maxHeartbeats 1000000
/-! == of any data that hold no object and no truth value -/
namespace MI
open PySem PySem.Spec PyProof.Rows L2
mutual
def pyM : MV → PyData
  | .non => .none
  | .bl b => .bool b
  | .int i => .int i
  | .str s => .str s
  | .tup l => .tuple (pyMs l)
  | .ref _ => .none
  | .out _ => .none
def pyMs : List MV → List PyData
  | [] => []
  | w :: ws => pyM w :: pyMs ws
end
def okD : Nat → MV → Prop
  | _, .non => True
  | _, .int _ => True
  | _, .str s => PyData.strOk s = true
  | n + 1, .tup l => ∀ w ∈ l, okD n w
  | _, _ => False
theorem okD_tup {n : Nat} {l : List MV} : okD (n + 1) (.tup l) = ∀ w ∈ l, okD n w := by
  simp only [okD]
theorem okD_int {n : Nat} {i : Int} : okD n (.int i) := by
  cases n <;> (unfold okD; trivial)
theorem pyMs_ok {f : Nat → Option PyData} : ∀ {l : List MV}, (∀ w ∈ l, toPyW f w = some (pyM w)) → toPyWs f l = some (pyMs l)
  | [], _ => rfl
  | w :: l, h => by
    unfold toPyWs pyMs
    rw [h w (by simp), pyMs_ok fun x hx => h x (List.mem_cons_of_mem _ hx)]
    rfl
theorem pyM_ok {f : Nat → Option PyData} : ∀ {n : Nat} {w : MV}, okD n w → toPyW f w = some (pyM w)
  | n, .non, _ => rfl
  | n, .int _, _ => rfl
  | n, .str _, _ => rfl
  | 0, .tup l, h => by unfold okD at h; exact h.elim
  | n + 1, .tup l, h => by
    rw [okD_tup] at h
    unfold toPyW pyM
    rw [pyMs_ok fun w hw => pyM_ok (h w hw)]
    rfl
  | 0, .bl _, h => by unfold okD at h; exact h.elim
  | n + 1, .bl _, h => by unfold okD at h; exact h.elim
  | 0, .ref _, h => by unfold okD at h; exact h.elim
  | n + 1, .ref _, h => by unfold okD at h; exact h.elim
  | 0, .out _, h => by unfold okD at h; exact h.elim
  | n + 1, .out _, h => by unfold okD at h; exact h.elim
theorem laysM {n : Nat} : ∀ {l : List MV}, (∀ w ∈ l, (pyM w).canLay0 = true ∧ (pyM w).depth ≤ n) → PyData.canLayAll0 (pyMs l) = true ∧ PyData.depthAll (pyMs l) ≤ n
  | [], _ => ⟨rfl, Nat.zero_le _⟩
  | w :: l, h => by
    obtain ⟨h1, h2⟩ := h w (by simp)
    obtain ⟨h3, h4⟩ := laysM (l := l) fun x hx => h x (List.mem_cons_of_mem _ hx)
    unfold pyMs PyData.canLayAll0 PyData.depthAll
    rw [h1, h3]
    exact ⟨rfl, Nat.max_le.mpr ⟨h2, h4⟩⟩
theorem layM : ∀ {n : Nat} {w : MV}, okD n w → (pyM w).canLay0 = true ∧ (pyM w).depth ≤ n
  | n, .non, _ => ⟨rfl, Nat.zero_le _⟩
  | n, .int _, _ => ⟨rfl, Nat.zero_le _⟩
  | 0, .str s, h => by
    unfold okD at h
    exact ⟨h, Nat.zero_le _⟩
  | n + 1, .str s, h => by
    unfold okD at h
    exact ⟨h, Nat.zero_le _⟩
  | 0, .tup l, h => by unfold okD at h; exact h.elim
  | n + 1, .tup l, h => by
    rw [okD_tup] at h
    obtain ⟨h1, h2⟩ := laysM (n := n) fun w hw => layM (h w hw)
    refine ⟨h1, ?_⟩
    show PyData.depthAll (pyMs l) + 1 ≤ n + 1
    omega
  | 0, .bl _, h => by unfold okD at h; exact h.elim
  | n + 1, .bl _, h => by unfold okD at h; exact h.elim
  | 0, .ref _, h => by unfold okD at h; exact h.elim
  | n + 1, .ref _, h => by unfold okD at h; exact h.elim
  | 0, .out _, h => by unfold okD at h; exact h.elim
  | n + 1, .out _, h => by unfold okD at h; exact h.elim
theorem eqvsM : ∀ {l m : List MV}, (∀ w ∈ l, ∀ v ∈ m, (PyData.eqv (pyM w) (pyM v) = true ↔ w = v)) → (PyData.eqvAll (pyMs l) (pyMs m) = true ↔ l = m)
  | [], [], _ => by simp [pyMs, PyData.eqvAll]
  | [], v :: m, _ => by simp [pyMs, PyData.eqvAll]
  | w :: l, [], _ => by simp [pyMs, PyData.eqvAll]
  | w :: l, v :: m, h => by
    unfold pyMs PyData.eqvAll
    rw [Bool.and_eq_true, h w (by simp) v (by simp), eqvsM fun x hx y hy => h x (List.mem_cons_of_mem _ hx) y (List.mem_cons_of_mem _ hy), List.cons.injEq]
theorem eqvM : ∀ {n m : Nat} {w v : MV}, okD n w → okD m v → (PyData.eqv (pyM w) (pyM v) = true ↔ w = v)
  | n, m, .non, .non, _, _ => by simp [pyM, PyData.eqv]
  | n, m, .non, .int _, _, _ => by simp [pyM, PyData.eqv]
  | n, m, .non, .str _, _, _ => by simp [pyM, PyData.eqv]
  | n, m, .non, .tup _, _, _ => by simp [pyM, PyData.eqv]
  | n, m, .int _, .non, _, _ => by simp [pyM, PyData.eqv]
  | n, m, .int _, .int _, _, _ => by simp [pyM, PyData.eqv]
  | n, m, .int _, .str _, _, _ => by simp [pyM, PyData.eqv]
  | n, m, .int _, .tup _, _, _ => by simp [pyM, PyData.eqv]
  | n, m, .str _, .non, _, _ => by simp [pyM, PyData.eqv]
  | n, m, .str _, .int _, _, _ => by simp [pyM, PyData.eqv]
  | n, m, .str _, .str _, _, _ => by simp [pyM, PyData.eqv]
  | n, m, .str _, .tup _, _, _ => by simp [pyM, PyData.eqv]
  | n, m, .tup _, .non, _, _ => by simp [pyM, PyData.eqv]
  | n, m, .tup _, .int _, _, _ => by simp [pyM, PyData.eqv]
  | n, m, .tup _, .str _, _, _ => by simp [pyM, PyData.eqv]
  | n + 1, m + 1, .tup l, .tup k, h, h' => by
    rw [okD_tup] at h h'
    unfold pyM PyData.eqv
    rw [eqvsM fun x hx y hy => eqvM (h x hx) (h' y hy), MV.tup.injEq]
  | 0, m, .tup _, _, h, _ => by unfold okD at h; exact h.elim
  | n, 0, _, .tup _, _, h => by unfold okD at h; exact h.elim
  | 0, m, .bl _, _, h, _ => by unfold okD at h; exact h.elim
  | n + 1, m, .bl _, _, h, _ => by unfold okD at h; exact h.elim
  | 0, m, .ref _, _, h, _ => by unfold okD at h; exact h.elim
  | n + 1, m, .ref _, _, h, _ => by unfold okD at h; exact h.elim
  | n, 0, _, .bl _, _, h => by unfold okD at h; exact h.elim
  | n, m + 1, _, .bl _, _, h => by unfold okD at h; exact h.elim
  | n, 0, _, .ref _, _, h => by unfold okD at h; exact h.elim
  | n, m + 1, _, .ref _, _, h => by unfold okD at h; exact h.elim
  | 0, m, .out _, _, h, _ => by unfold okD at h; exact h.elim
  | n + 1, m, .out _, _, h, _ => by unfold okD at h; exact h.elim
  | n, 0, _, .out _, _, h => by unfold okD at h; exact h.elim
  | n, m + 1, _, .out _, _, h => by unfold okD at h; exact h.elim
section
variable {S : Store} {E : EX} {Q : MV → Store → Prop} {k : Bool}
theorem eqM_data {n : Nat} {w v : MV} (hn : n ≤ 64) (h : okD n w) (h' : okD n v) (hk : k = true ↔ w = v) : eqM w v S = some k := by
  have e1 : toPy S w = some (pyM w) := pyM_ok h
  have e2 : toPy S v = some (pyM v) := pyM_ok h'
  obtain ⟨l1, d1⟩ := layM h
  obtain ⟨l2, d2⟩ := layM h'
  have s1 : SeqAt.shaped (pyM w) = true := by
    unfold SeqAt.shaped
    rw [l1, decide_eq_true (Nat.le_trans d1 hn)]
    rfl
  have s2 : SeqAt.shaped (pyM v) = true := by
    unfold SeqAt.shaped
    rw [l2, decide_eq_true (Nat.le_trans d2 hn)]
    rfl
  have ev : PyData.eqv (pyM w) (pyM v) = k := by
    have := eqvM h h'
    rw [← hk] at this
    cases k <;> cases z : PyData.eqv (pyM w) (pyM v) <;> simp_all
  unfold eqM
  cases z : scalM w v with
  | none =>
    dsimp only
    rw [e1, e2]
    dsimp only
    rw [s1, s2, if_pos (by rfl), ev]
  | some b =>
    dsimp only
    congr 1
    have hb : b = true ↔ w = v := by
      unfold scalM at z
      split at z <;> cases z <;> simp
      all_goals (cases n <;> (unfold okD at h; exact h.elim))
    cases b <;> cases k <;> simp_all
theorem wp_neD {n : Nat} {w v : MV} (hn : n ≤ 64) (h : okD n w) (h' : okD n v) (hk : k = true ↔ w = v) : wp (fNe w v S) E Q = Q (.bl (!k)) S := by
  unfold fNe
  rw [eqM_data hn h h' hk]
  rfl
end
end MI
set_option Elab.async false
set_option linter.all false
set_option maxRecDepth 100000
/-! sorted(xs), xs a tuple or a list of whole numbers -/
namespace SetX
open PySem PySem.Spec PyProof.Rows L2
section
variable {prog : Program} {w : World} {A : Around} {E : Value → Shared → Prop} {s : Shared}
end
end SetX
namespace MI
open PySem PySem.Spec PyProof.Rows L2
section
variable {X : Cx} {G : Gx} {W : WX} {a : Expr} {es : List Expr} {dr : DenL} {pos : Pos}
end
end MI
namespace MI
open PySem PySem.Spec PyProof.Rows L2
section
variable {X : Cx} {G : Gx} {W : WX} {a : Expr} {es : List Expr} {dr : DenL} {pos : Pos}
end
end MI
set_option Elab.async false
set_option linter.all false
set_option maxRecDepth 100000
set_option maxHeartbeats 2000000
/-! MIbl: the look over a told list of places (addrs.py finds it): far less memory than asD -/
namespace MI
open PySem PySem.Spec PyProof.Rows L2
def looksL (as : List Addr) (fa : List He.Fa) (ts : List He.Tab) (ex : Fr → Bool) (fs : List Df) (g : Addr → Option Obj) : MI.Seen := lookM fa ts ex fs (He.frG g as)
def hookL (as : List Addr) (fa : List He.Fa) (ts : List He.Tab) (ex : Fr → Bool) (fs : List Df) : PySem.W.Hook where
  α := MI.Seen
  obs := fun s => looksL as fa ts ex fs s.heap.get?
  val := fun w => dueM ts fs w
  says := fun w h => ∃ K : Fr, K.In h ∧ Told fa ts ex fs w K
  of := fun _ _ e => ⟨_, He.frG_in, told_of e⟩
  keeps := fun _ _ _ ⟨K, hK, c⟩ k => ⟨K, PySem.W.Frag.In.keeps hK k, c⟩
def lookL (as : List Addr) (fa : List He.Fa) (ts : List He.Tab) (ex : Fr → Bool) (fs : List Df) (s : PySem.W.SharedT) : MI.Seen := looksL as fa ts ex fs (HandSHeadRun.getT s)
theorem lookL_eq (as : List Addr) (fa : List He.Fa) (ts : List He.Tab) (ex : Fr → Bool) (fs : List Df) (s : PySem.W.SharedT) : lookL as fa ts ex fs s = (hookL as fa ts ex fs).obs s.abs := by
  have e : HandSHeadRun.getT s = s.abs.heap.get? := funext (HandSHeadRun.getT_eq s)
  unfold lookL
  rw [e]
  rfl
end MI
set_option Elab.async false
set_option linter.all false
set_option maxRecDepth 100000
set_option maxHeartbeats 4000000
namespace K38
open PySem PySem.Spec PyProof.Rows L2 MI
def top (i : Nat) : Stmt := PySem.Challenge.pw_classhouse_k38_whole_codes_with_names_ag.main.body.getD i (.Pass ⟨0, 0, 0, 0⟩)
def s_is_word : Stmt := (PySem.Stmt.FunctionDef (name := "is_word") (args := { posonlyargs := [], args := [{ arg := "value", annotation := none, pos := ⟨16, 12, 16, 17⟩ : PySem.Arg }], vararg := none, kwonlyargs := [], kw_defaults := [], kwarg := none, defaults := [] : PySem.Arguments }) (body := [ (PySem.Stmt.If (test := (PySem.Expr.BoolOp (op := PySem.BoolOp.Or) (values := [ (PySem.Expr.UnaryOp (op := PySem.UnaryOp.Not) (operand := (PySem.Expr.Call (func := (PySem.Expr.Name "isinstance" ⟨17, 11, 17, 21⟩)) (args := [(PySem.Expr.Name "value" ⟨17, 22, 17, 27⟩), (PySem.Expr.Name "str" ⟨17, 29, 17, 32⟩)]) (keywords := []) (pos := ⟨17, 11, 17, 33⟩))) (pos := ⟨17, 7, 17, 33⟩)), (PySem.Expr.UnaryOp (op := PySem.UnaryOp.Not) (operand := (PySem.Expr.Compare (left := (PySem.Expr.Constant (PySem.Const.int 1) 0 ⟨17, 41, 17, 42⟩)) (ops := [PySem.CmpOp.LtE, PySem.CmpOp.LtE]) (comparators := [ (PySem.Expr.Call (func := (PySem.Expr.Name "len" ⟨17, 46, 17, 49⟩)) (args := [(PySem.Expr.Name "value" ⟨17, 50, 17, 55⟩)]) (keywords := []) (pos := ⟨17, 46, 17, 56⟩)), (PySem.Expr.Constant (PySem.Const.int 6) 0 ⟨17, 60, 17, 61⟩)]) (pos := ⟨17, 41, 17, 61⟩))) (pos := ⟨17, 37, 17, 61⟩))]) (pos := ⟨17, 7, 17, 61⟩))) (body := [(PySem.Stmt.Return (some (PySem.Expr.Constant (PySem.Const.bool false) 0 ⟨18, 15, 18, 20⟩)) ⟨18, 8, 18, 20⟩)]) (orelse := []) (pos := ⟨17, 4, 18, 20⟩)), (PySem.Stmt.Return (value := (some (PySem.Expr.Call (func := (PySem.Expr.Name "all" ⟨19, 11, 19, 14⟩)) (args := [ (PySem.Expr.ListComp (elt := (PySem.Expr.Compare (left := (PySem.Expr.Name "letter" ⟨19, 16, 19, 22⟩)) (ops := [PySem.CmpOp.In]) (comparators := [(PySem.Expr.Name "LETTERS" ⟨19, 26, 19, 33⟩)]) (pos := ⟨19, 16, 19, 33⟩))) (generators := [ { target := (PySem.Expr.Name "letter" ⟨19, 38, 19, 44⟩), iter := (PySem.Expr.Name "value" ⟨19, 48, 19, 53⟩), ifs := [], is_async := 0 : PySem.Comprehension }]) (scope := { kind := PySem.ScopeKind.function, names := [ (PySem.Str.ofString ".0", PySem.NameKind.local), (PySem.Str.ofString "letter", PySem.NameKind.local), (PySem.Str.ofString "LETTERS", PySem.NameKind.globalImplicit)], isGenerator := false, isCoroutine := false, more := [] : PySem.Scope }) (pos := ⟨19, 15, 19, 54⟩))]) (keywords := []) (pos := ⟨19, 11, 19, 55⟩)))) (pos := ⟨19, 4, 19, 55⟩))]) (decorator_list := []) (returns := none) (type_params := []) (scope := { kind := PySem.ScopeKind.function, names := [ (PySem.Str.ofString "value", PySem.NameKind.local), (PySem.Str.ofString "isinstance", PySem.NameKind.globalImplicit), (PySem.Str.ofString "str", PySem.NameKind.globalImplicit), (PySem.Str.ofString "len", PySem.NameKind.globalImplicit), (PySem.Str.ofString "all", PySem.NameKind.globalImplicit)], isGenerator := false, isCoroutine := false, more := [ (PySem.Str.ofString "fast", (PySem.Const.str "value")), (PySem.Str.ofString "fast", (PySem.Const.str "letter"))] : PySem.Scope }) (tscope := none) (bind := "is_word") (pos := ⟨16, 0, 19, 55⟩))
def s_is_number : Stmt := (PySem.Stmt.FunctionDef (name := "is_number") (args := { posonlyargs := [], args := [ { arg := "value", annotation := none, pos := ⟨20, 14, 20, 19⟩ : PySem.Arg }, { arg := "most", annotation := none, pos := ⟨20, 21, 20, 25⟩ : PySem.Arg }], vararg := none, kwonlyargs := [], kw_defaults := [], kwarg := none, defaults := [] : PySem.Arguments }) (body := [ (PySem.Stmt.Return (value := (some (PySem.Expr.BoolOp (op := PySem.BoolOp.And) (values := [ (PySem.Expr.Call (func := (PySem.Expr.Name "isinstance" ⟨21, 11, 21, 21⟩)) (args := [(PySem.Expr.Name "value" ⟨21, 22, 21, 27⟩), (PySem.Expr.Name "int" ⟨21, 29, 21, 32⟩)]) (keywords := []) (pos := ⟨21, 11, 21, 33⟩)), (PySem.Expr.UnaryOp (op := PySem.UnaryOp.Not) (operand := (PySem.Expr.Call (func := (PySem.Expr.Name "isinstance" ⟨21, 43, 21, 53⟩)) (args := [(PySem.Expr.Name "value" ⟨21, 54, 21, 59⟩), (PySem.Expr.Name "bool" ⟨21, 61, 21, 65⟩)]) (keywords := []) (pos := ⟨21, 43, 21, 66⟩))) (pos := ⟨21, 39, 21, 66⟩)), (PySem.Expr.Compare (left := (PySem.Expr.Constant (PySem.Const.int 0) 0 ⟨21, 73, 21, 74⟩)) (ops := [PySem.CmpOp.LtE, PySem.CmpOp.LtE]) (comparators := [(PySem.Expr.Name "value" ⟨21, 78, 21, 83⟩), (PySem.Expr.Name "most" ⟨21, 87, 21, 91⟩)]) (pos := ⟨21, 73, 21, 91⟩))]) (pos := ⟨21, 11, 21, 92⟩)))) (pos := ⟨21, 4, 21, 92⟩))]) (decorator_list := []) (returns := none) (type_params := []) (scope := { kind := PySem.ScopeKind.function, names := [ (PySem.Str.ofString "value", PySem.NameKind.local), (PySem.Str.ofString "most", PySem.NameKind.local), (PySem.Str.ofString "isinstance", PySem.NameKind.globalImplicit), (PySem.Str.ofString "int", PySem.NameKind.globalImplicit), (PySem.Str.ofString "bool", PySem.NameKind.globalImplicit)], isGenerator := false, isCoroutine := false, more := [] : PySem.Scope }) (tscope := none) (bind := "is_number") (pos := ⟨20, 0, 21, 92⟩))
def s_is_tuple : Stmt := (PySem.Stmt.FunctionDef (name := "is_tuple") (args := { posonlyargs := [], args := [ { arg := "value", annotation := none, pos := ⟨22, 13, 22, 18⟩ : PySem.Arg }, { arg := "least", annotation := none, pos := ⟨22, 20, 22, 25⟩ : PySem.Arg }, { arg := "most", annotation := none, pos := ⟨22, 27, 22, 31⟩ : PySem.Arg }], vararg := none, kwonlyargs := [], kw_defaults := [], kwarg := none, defaults := [] : PySem.Arguments }) (body := [ (PySem.Stmt.Return (value := (some (PySem.Expr.BoolOp (op := PySem.BoolOp.And) (values := [ (PySem.Expr.Call (func := (PySem.Expr.Name "isinstance" ⟨23, 11, 23, 21⟩)) (args := [(PySem.Expr.Name "value" ⟨23, 22, 23, 27⟩), (PySem.Expr.Name "tuple" ⟨23, 29, 23, 34⟩)]) (keywords := []) (pos := ⟨23, 11, 23, 35⟩)), (PySem.Expr.Compare (left := (PySem.Expr.Name "least" ⟨23, 40, 23, 45⟩)) (ops := [PySem.CmpOp.LtE, PySem.CmpOp.LtE]) (comparators := [ (PySem.Expr.Call (func := (PySem.Expr.Name "len" ⟨23, 49, 23, 52⟩)) (args := [(PySem.Expr.Name "value" ⟨23, 53, 23, 58⟩)]) (keywords := []) (pos := ⟨23, 49, 23, 59⟩)), (PySem.Expr.Name "most" ⟨23, 63, 23, 67⟩)]) (pos := ⟨23, 40, 23, 67⟩))]) (pos := ⟨23, 11, 23, 67⟩)))) (pos := ⟨23, 4, 23, 67⟩))]) (decorator_list := []) (returns := none) (type_params := []) (scope := { kind := PySem.ScopeKind.function, names := [ (PySem.Str.ofString "value", PySem.NameKind.local), (PySem.Str.ofString "least", PySem.NameKind.local), (PySem.Str.ofString "most", PySem.NameKind.local), (PySem.Str.ofString "isinstance", PySem.NameKind.globalImplicit), (PySem.Str.ofString "tuple", PySem.NameKind.globalImplicit), (PySem.Str.ofString "len", PySem.NameKind.globalImplicit)], isGenerator := false, isCoroutine := false, more := [] : PySem.Scope }) (tscope := none) (bind := "is_tuple") (pos := ⟨22, 0, 23, 67⟩))
def s_has_entry_form : Stmt := (PySem.Stmt.FunctionDef (name := "has_entry_form") (args := { posonlyargs := [], args := [{ arg := "value", annotation := none, pos := ⟨26, 19, 26, 24⟩ : PySem.Arg }], vararg := none, kwonlyargs := [], kw_defaults := [], kwarg := none, defaults := [] : PySem.Arguments }) (body := [ (PySem.Stmt.If (test := (PySem.Expr.BoolOp (op := PySem.BoolOp.Or) (values := [ (PySem.Expr.UnaryOp (op := PySem.UnaryOp.Not) (operand := (PySem.Expr.Call (func := (PySem.Expr.Name "is_tuple" ⟨27, 11, 27, 19⟩)) (args := [ (PySem.Expr.Name "value" ⟨27, 20, 27, 25⟩), (PySem.Expr.Constant (PySem.Const.int 2) 0 ⟨27, 27, 27, 28⟩), (PySem.Expr.Constant (PySem.Const.int 3) 0 ⟨27, 30, 27, 31⟩)]) (keywords := []) (pos := ⟨27, 11, 27, 32⟩))) (pos := ⟨27, 7, 27, 32⟩)), (PySem.Expr.UnaryOp (op := PySem.UnaryOp.Not) (operand := (PySem.Expr.Call (func := (PySem.Expr.Name "all" ⟨27, 40, 27, 43⟩)) (args := [ (PySem.Expr.ListComp (elt := (PySem.Expr.Call (func := (PySem.Expr.Name "is_word" ⟨27, 45, 27, 52⟩)) (args := [(PySem.Expr.Name "part" ⟨27, 53, 27, 57⟩)]) (keywords := []) (pos := ⟨27, 45, 27, 58⟩))) (generators := [ { target := (PySem.Expr.Name "part" ⟨27, 63, 27, 67⟩), iter := (PySem.Expr.Subscript (value := (PySem.Expr.Name "value" ⟨27, 71, 27, 76⟩)) (slice := (PySem.Expr.Slice (lower := (some (PySem.Expr.Constant (PySem.Const.int 1) 0 ⟨27, 77, 27, 78⟩))) (upper := none) (step := none) (pos := ⟨27, 77, 27, 79⟩))) (pos := ⟨27, 71, 27, 80⟩)), ifs := [], is_async := 0 : PySem.Comprehension }]) (scope := { kind := PySem.ScopeKind.function, names := [ (PySem.Str.ofString ".0", PySem.NameKind.local), (PySem.Str.ofString "part", PySem.NameKind.local), (PySem.Str.ofString "is_word", PySem.NameKind.globalImplicit)], isGenerator := false, isCoroutine := false, more := [] : PySem.Scope }) (pos := ⟨27, 44, 27, 81⟩))]) (keywords := []) (pos := ⟨27, 40, 27, 82⟩))) (pos := ⟨27, 36, 27, 82⟩))]) (pos := ⟨27, 7, 27, 82⟩))) (body := [(PySem.Stmt.Return (some (PySem.Expr.Constant (PySem.Const.bool false) 0 ⟨28, 15, 28, 20⟩)) ⟨28, 8, 28, 20⟩)]) (orelse := []) (pos := ⟨27, 4, 28, 20⟩)), (PySem.Stmt.Return (value := (some (PySem.Expr.IfExp (test := (PySem.Expr.Compare (left := (PySem.Expr.Call (func := (PySem.Expr.Name "len" ⟨29, 34, 29, 37⟩)) (args := [(PySem.Expr.Name "value" ⟨29, 38, 29, 43⟩)]) (keywords := []) (pos := ⟨29, 34, 29, 44⟩))) (ops := [PySem.CmpOp.Eq]) (comparators := [(PySem.Expr.Constant (PySem.Const.int 2) 0 ⟨29, 48, 29, 49⟩)]) (pos := ⟨29, 34, 29, 49⟩))) (body := (PySem.Expr.Compare (left := (PySem.Expr.Subscript (value := (PySem.Expr.Name "value" ⟨29, 11, 29, 16⟩)) (slice := (PySem.Expr.Constant (PySem.Const.int 0) 0 ⟨29, 17, 29, 18⟩)) (pos := ⟨29, 11, 29, 19⟩))) (ops := [PySem.CmpOp.Eq]) (comparators := [(PySem.Expr.Constant (PySem.Const.str "class") 0 ⟨29, 23, 29, 30⟩)]) (pos := ⟨29, 11, 29, 30⟩))) (orelse := (PySem.Expr.Compare (left := (PySem.Expr.Subscript (value := (PySem.Expr.Name "value" ⟨29, 55, 29, 60⟩)) (slice := (PySem.Expr.Constant (PySem.Const.int 0) 0 ⟨29, 61, 29, 62⟩)) (pos := ⟨29, 55, 29, 63⟩))) (ops := [PySem.CmpOp.In]) (comparators := [ (PySem.Expr.Tuple (elts := [ (PySem.Expr.Constant (PySem.Const.str "field") 0 ⟨29, 68, 29, 75⟩), (PySem.Expr.Constant (PySem.Const.str "method") 0 ⟨29, 77, 29, 85⟩)]) (k := 0) (pos := ⟨29, 67, 29, 86⟩))]) (pos := ⟨29, 55, 29, 86⟩))) (pos := ⟨29, 11, 29, 86⟩)))) (pos := ⟨29, 4, 29, 86⟩))]) (decorator_list := []) (returns := none) (type_params := []) (scope := { kind := PySem.ScopeKind.function, names := [ (PySem.Str.ofString "value", PySem.NameKind.local), (PySem.Str.ofString "is_tuple", PySem.NameKind.globalImplicit), (PySem.Str.ofString "all", PySem.NameKind.globalImplicit), (PySem.Str.ofString "len", PySem.NameKind.globalImplicit)], isGenerator := false, isCoroutine := false, more := [ (PySem.Str.ofString "fast", (PySem.Const.str "value")), (PySem.Str.ofString "fast", (PySem.Const.str "part"))] : PySem.Scope }) (tscope := none) (bind := "has_entry_form") (pos := ⟨26, 0, 29, 86⟩))
def s_check_pool : Stmt := (PySem.Stmt.FunctionDef (name := "check_pool") (args := { posonlyargs := [], args := [{ arg := "entries", annotation := none, pos := ⟨30, 15, 30, 22⟩ : PySem.Arg }], vararg := none, kwonlyargs := [], kw_defaults := [], kwarg := none, defaults := [] : PySem.Arguments }) (body := [ (PySem.Stmt.If (test := (PySem.Expr.UnaryOp (op := PySem.UnaryOp.Not) (operand := (PySem.Expr.Call (func := (PySem.Expr.Name "is_tuple" ⟨31, 11, 31, 19⟩)) (args := [ (PySem.Expr.Name "entries" ⟨31, 20, 31, 27⟩), (PySem.Expr.Constant (PySem.Const.int 0) 0 ⟨31, 29, 31, 30⟩), (PySem.Expr.Constant (PySem.Const.int 99) 0 ⟨31, 32, 31, 34⟩)]) (keywords := []) (pos := ⟨31, 11, 31, 35⟩))) (pos := ⟨31, 7, 31, 35⟩))) (body := [ (PySem.Stmt.Raise (exc := (some (PySem.Expr.Call (func := (PySem.Expr.Name "BadPool" ⟨32, 14, 32, 21⟩)) (args := [(PySem.Expr.Constant PySem.Const.none 0 ⟨32, 22, 32, 26⟩)]) (keywords := []) (pos := ⟨32, 14, 32, 27⟩)))) (cause := none) (pos := ⟨32, 8, 32, 27⟩))]) (orelse := []) (pos := ⟨31, 4, 32, 27⟩)), (PySem.Stmt.For (target := (PySem.Expr.Tuple (elts := [(PySem.Expr.Name "index" ⟨33, 8, 33, 13⟩), (PySem.Expr.Name "value" ⟨33, 15, 33, 20⟩)]) (k := 0) (pos := ⟨33, 8, 33, 20⟩))) (iter := (PySem.Expr.Call (func := (PySem.Expr.Name "enumerate" ⟨33, 24, 33, 33⟩)) (args := [(PySem.Expr.Name "entries" ⟨33, 34, 33, 41⟩)]) (keywords := []) (pos := ⟨33, 24, 33, 42⟩))) (body := [ (PySem.Stmt.If (test := (PySem.Expr.UnaryOp (op := PySem.UnaryOp.Not) (operand := (PySem.Expr.Call (func := (PySem.Expr.Name "has_entry_form" ⟨34, 15, 34, 29⟩)) (args := [(PySem.Expr.Name "value" ⟨34, 30, 34, 35⟩)]) (keywords := []) (pos := ⟨34, 15, 34, 36⟩))) (pos := ⟨34, 11, 34, 36⟩))) (body := [ (PySem.Stmt.Raise (exc := (some (PySem.Expr.Call (func := (PySem.Expr.Name "BadPool" ⟨35, 18, 35, 25⟩)) (args := [(PySem.Expr.Name "index" ⟨35, 26, 35, 31⟩)]) (keywords := []) (pos := ⟨35, 18, 35, 32⟩)))) (cause := none) (pos := ⟨35, 12, 35, 32⟩))]) (orelse := []) (pos := ⟨34, 8, 35, 32⟩))]) (orelse := []) (pos := ⟨33, 4, 35, 32⟩))]) (decorator_list := []) (returns := none) (type_params := []) (scope := { kind := PySem.ScopeKind.function, names := [ (PySem.Str.ofString "entries", PySem.NameKind.local), (PySem.Str.ofString "index", PySem.NameKind.local), (PySem.Str.ofString "value", PySem.NameKind.local), (PySem.Str.ofString "is_tuple", PySem.NameKind.globalImplicit), (PySem.Str.ofString "BadPool", PySem.NameKind.globalImplicit), (PySem.Str.ofString "enumerate", PySem.NameKind.globalImplicit), (PySem.Str.ofString "has_entry_form", PySem.NameKind.globalImplicit)], isGenerator := false, isCoroutine := false, more := [] : PySem.Scope }) (tscope := none) (bind := "check_pool") (pos := ⟨30, 0, 35, 32⟩))
def s_is_naming : Stmt := (PySem.Stmt.FunctionDef (name := "is_naming") (args := { posonlyargs := [], args := [{ arg := "step", annotation := none, pos := ⟨36, 14, 36, 18⟩ : PySem.Arg }], vararg := none, kwonlyargs := [], kw_defaults := [], kwarg := none, defaults := [] : PySem.Arguments }) (body := [ (PySem.Stmt.Return (value := (some (PySem.Expr.BoolOp (op := PySem.BoolOp.And) (values := [ (PySem.Expr.Compare (left := (PySem.Expr.Call (func := (PySem.Expr.Name "len" ⟨37, 11, 37, 14⟩)) (args := [(PySem.Expr.Name "step" ⟨37, 15, 37, 19⟩)]) (keywords := []) (pos := ⟨37, 11, 37, 20⟩))) (ops := [PySem.CmpOp.Gt]) (comparators := [(PySem.Expr.Constant (PySem.Const.int 0) 0 ⟨37, 23, 37, 24⟩)]) (pos := ⟨37, 11, 37, 24⟩)), (PySem.Expr.Call (func := (PySem.Expr.Name "isinstance" ⟨37, 29, 37, 39⟩)) (args := [ (PySem.Expr.Subscript (value := (PySem.Expr.Name "step" ⟨37, 40, 37, 44⟩)) (slice := (PySem.Expr.Constant (PySem.Const.int 0) 0 ⟨37, 45, 37, 46⟩)) (pos := ⟨37, 40, 37, 47⟩)), (PySem.Expr.Name "str" ⟨37, 49, 37, 52⟩)]) (keywords := []) (pos := ⟨37, 29, 37, 53⟩)), (PySem.Expr.Compare (left := (PySem.Expr.Subscript (value := (PySem.Expr.Name "step" ⟨37, 59, 37, 63⟩)) (slice := (PySem.Expr.Constant (PySem.Const.int 0) 0 ⟨37, 64, 37, 65⟩)) (pos := ⟨37, 59, 37, 66⟩))) (ops := [PySem.CmpOp.In]) (comparators := [(PySem.Expr.Name "NAMING" ⟨37, 70, 37, 76⟩)]) (pos := ⟨37, 59, 37, 76⟩))]) (pos := ⟨37, 11, 37, 77⟩)))) (pos := ⟨37, 4, 37, 77⟩))]) (decorator_list := []) (returns := none) (type_params := []) (scope := { kind := PySem.ScopeKind.function, names := [ (PySem.Str.ofString "step", PySem.NameKind.local), (PySem.Str.ofString "len", PySem.NameKind.globalImplicit), (PySem.Str.ofString "isinstance", PySem.NameKind.globalImplicit), (PySem.Str.ofString "str", PySem.NameKind.globalImplicit), (PySem.Str.ofString "NAMING", PySem.NameKind.globalImplicit)], isGenerator := false, isCoroutine := false, more := [] : PySem.Scope }) (tscope := none) (bind := "is_naming") (pos := ⟨36, 0, 37, 77⟩))
def s_goes_with_entry : Stmt := (PySem.Stmt.FunctionDef (name := "goes_with_entry") (args := { posonlyargs := [], args := [ { arg := "entries", annotation := none, pos := ⟨38, 20, 38, 27⟩ : PySem.Arg }, { arg := "step", annotation := none, pos := ⟨38, 29, 38, 33⟩ : PySem.Arg }], vararg := none, kwonlyargs := [], kw_defaults := [], kwarg := none, defaults := [] : PySem.Arguments }) (body := [ (PySem.Stmt.If (test := (PySem.Expr.BoolOp (op := PySem.BoolOp.Or) (values := [ (PySem.Expr.Compare (left := (PySem.Expr.Call (func := (PySem.Expr.Name "len" ⟨39, 7, 39, 10⟩)) (args := [(PySem.Expr.Name "step" ⟨39, 11, 39, 15⟩)]) (keywords := []) (pos := ⟨39, 7, 39, 16⟩))) (ops := [PySem.CmpOp.NotEq]) (comparators := [(PySem.Expr.Constant (PySem.Const.int 2) 0 ⟨39, 20, 39, 21⟩)]) (pos := ⟨39, 7, 39, 21⟩)), (PySem.Expr.UnaryOp (op := PySem.UnaryOp.Not) (operand := (PySem.Expr.Call (func := (PySem.Expr.Name "is_number" ⟨39, 29, 39, 38⟩)) (args := [ (PySem.Expr.Subscript (value := (PySem.Expr.Name "step" ⟨39, 39, 39, 43⟩)) (slice := (PySem.Expr.Constant (PySem.Const.int 1) 0 ⟨39, 44, 39, 45⟩)) (pos := ⟨39, 39, 39, 46⟩)), (PySem.Expr.BinOp (left := (PySem.Expr.Call (func := (PySem.Expr.Name "len" ⟨39, 48, 39, 51⟩)) (args := [(PySem.Expr.Name "entries" ⟨39, 52, 39, 59⟩)]) (keywords := []) (pos := ⟨39, 48, 39, 60⟩))) (op := PySem.Operator.Sub) (right := (PySem.Expr.Constant (PySem.Const.int 1) 0 ⟨39, 63, 39, 64⟩)) (pos := ⟨39, 48, 39, 64⟩))]) (keywords := []) (pos := ⟨39, 29, 39, 65⟩))) (pos := ⟨39, 25, 39, 65⟩))]) (pos := ⟨39, 7, 39, 65⟩))) (body := [(PySem.Stmt.Return (some (PySem.Expr.Constant (PySem.Const.bool false) 0 ⟨40, 15, 40, 20⟩)) ⟨40, 8, 40, 20⟩)]) (orelse := []) (pos := ⟨39, 4, 40, 20⟩)), (PySem.Stmt.Return (value := (some (PySem.Expr.Compare (left := (PySem.Expr.Subscript (value := (PySem.Expr.Subscript (value := (PySem.Expr.Name "entries" ⟨41, 11, 41, 18⟩)) (slice := (PySem.Expr.Subscript (value := (PySem.Expr.Name "step" ⟨41, 19, 41, 23⟩)) (slice := (PySem.Expr.Constant (PySem.Const.int 1) 0 ⟨41, 24, 41, 25⟩)) (pos := ⟨41, 19, 41, 26⟩))) (pos := ⟨41, 11, 41, 27⟩))) (slice := (PySem.Expr.Constant (PySem.Const.int 0) 0 ⟨41, 28, 41, 29⟩)) (pos := ⟨41, 11, 41, 30⟩))) (ops := [PySem.CmpOp.Eq]) (comparators := [ (PySem.Expr.Subscript (value := (PySem.Expr.Name "NAMING" ⟨41, 34, 41, 40⟩)) (slice := (PySem.Expr.Subscript (value := (PySem.Expr.Name "step" ⟨41, 41, 41, 45⟩)) (slice := (PySem.Expr.Constant (PySem.Const.int 0) 0 ⟨41, 46, 41, 47⟩)) (pos := ⟨41, 41, 41, 48⟩))) (pos := ⟨41, 34, 41, 49⟩))]) (pos := ⟨41, 11, 41, 49⟩)))) (pos := ⟨41, 4, 41, 49⟩))]) (decorator_list := []) (returns := none) (type_params := []) (scope := { kind := PySem.ScopeKind.function, names := [ (PySem.Str.ofString "entries", PySem.NameKind.local), (PySem.Str.ofString "step", PySem.NameKind.local), (PySem.Str.ofString "len", PySem.NameKind.globalImplicit), (PySem.Str.ofString "is_number", PySem.NameKind.globalImplicit), (PySem.Str.ofString "NAMING", PySem.NameKind.globalImplicit)], isGenerator := false, isCoroutine := false, more := [] : PySem.Scope }) (tscope := none) (bind := "goes_with_entry") (pos := ⟨38, 0, 41, 49⟩))
def s_check_pooled : Stmt := (PySem.Stmt.FunctionDef (name := "check_pooled") (args := { posonlyargs := [], args := [ { arg := "entries", annotation := none, pos := ⟨42, 17, 42, 24⟩ : PySem.Arg }, { arg := "code", annotation := none, pos := ⟨42, 26, 42, 30⟩ : PySem.Arg }], vararg := none, kwonlyargs := [], kw_defaults := [], kwarg := none, defaults := [] : PySem.Arguments }) (body := [ (PySem.Stmt.If (test := (PySem.Expr.BoolOp (op := PySem.BoolOp.Or) (values := [ (PySem.Expr.UnaryOp (op := PySem.UnaryOp.Not) (operand := (PySem.Expr.Call (func := (PySem.Expr.Name "is_tuple" ⟨43, 11, 43, 19⟩)) (args := [ (PySem.Expr.Name "code" ⟨43, 20, 43, 24⟩), (PySem.Expr.Constant (PySem.Const.int 0) 0 ⟨43, 26, 43, 27⟩), (PySem.Expr.Constant (PySem.Const.int 20) 0 ⟨43, 29, 43, 31⟩)]) (keywords := []) (pos := ⟨43, 11, 43, 32⟩))) (pos := ⟨43, 7, 43, 32⟩)), (PySem.Expr.UnaryOp (op := PySem.UnaryOp.Not) (operand := (PySem.Expr.Call (func := (PySem.Expr.Name "all" ⟨43, 40, 43, 43⟩)) (args := [ (PySem.Expr.ListComp (elt := (PySem.Expr.Call (func := (PySem.Expr.Name "isinstance" ⟨43, 45, 43, 55⟩)) (args := [(PySem.Expr.Name "step" ⟨43, 56, 43, 60⟩), (PySem.Expr.Name "tuple" ⟨43, 62, 43, 67⟩)]) (keywords := []) (pos := ⟨43, 45, 43, 68⟩))) (generators := [ { target := (PySem.Expr.Name "step" ⟨43, 73, 43, 77⟩), iter := (PySem.Expr.Name "code" ⟨43, 81, 43, 85⟩), ifs := [], is_async := 0 : PySem.Comprehension }]) (scope := { kind := PySem.ScopeKind.function, names := [ (PySem.Str.ofString ".0", PySem.NameKind.local), (PySem.Str.ofString "step", PySem.NameKind.local), (PySem.Str.ofString "isinstance", PySem.NameKind.globalImplicit), (PySem.Str.ofString "tuple", PySem.NameKind.globalImplicit)], isGenerator := false, isCoroutine := false, more := [] : PySem.Scope }) (pos := ⟨43, 44, 43, 86⟩))]) (keywords := []) (pos := ⟨43, 40, 43, 87⟩))) (pos := ⟨43, 36, 43, 87⟩))]) (pos := ⟨43, 7, 43, 87⟩))) (body := [ (PySem.Stmt.Raise (exc := (some (PySem.Expr.Call (func := (PySem.Expr.Name "BadPooled" ⟨44, 14, 44, 23⟩)) (args := [(PySem.Expr.Constant PySem.Const.none 0 ⟨44, 24, 44, 28⟩)]) (keywords := []) (pos := ⟨44, 14, 44, 29⟩)))) (cause := none) (pos := ⟨44, 8, 44, 29⟩))]) (orelse := []) (pos := ⟨43, 4, 44, 29⟩)), (PySem.Stmt.For (target := (PySem.Expr.Tuple (elts := [(PySem.Expr.Name "index" ⟨45, 8, 45, 13⟩), (PySem.Expr.Name "step" ⟨45, 15, 45, 19⟩)]) (k := 0) (pos := ⟨45, 8, 45, 19⟩))) (iter := (PySem.Expr.Call (func := (PySem.Expr.Name "enumerate" ⟨45, 23, 45, 32⟩)) (args := [(PySem.Expr.Name "code" ⟨45, 33, 45, 37⟩)]) (keywords := []) (pos := ⟨45, 23, 45, 38⟩))) (body := [ (PySem.Stmt.If (test := (PySem.Expr.BoolOp (op := PySem.BoolOp.And) (values := [ (PySem.Expr.Call (func := (PySem.Expr.Name "is_naming" ⟨46, 11, 46, 20⟩)) (args := [(PySem.Expr.Name "step" ⟨46, 21, 46, 25⟩)]) (keywords := []) (pos := ⟨46, 11, 46, 26⟩)), (PySem.Expr.UnaryOp (op := PySem.UnaryOp.Not) (operand := (PySem.Expr.Call (func := (PySem.Expr.Name "goes_with_entry" ⟨46, 36, 46, 51⟩)) (args := [(PySem.Expr.Name "entries" ⟨46, 52, 46, 59⟩), (PySem.Expr.Name "step" ⟨46, 61, 46, 65⟩)]) (keywords := []) (pos := ⟨46, 36, 46, 66⟩))) (pos := ⟨46, 32, 46, 66⟩))]) (pos := ⟨46, 11, 46, 67⟩))) (body := [ (PySem.Stmt.Raise (exc := (some (PySem.Expr.Call (func := (PySem.Expr.Name "BadPooled" ⟨47, 18, 47, 27⟩)) (args := [(PySem.Expr.Name "index" ⟨47, 28, 47, 33⟩)]) (keywords := []) (pos := ⟨47, 18, 47, 34⟩)))) (cause := none) (pos := ⟨47, 12, 47, 34⟩))]) (orelse := []) (pos := ⟨46, 8, 47, 34⟩))]) (orelse := []) (pos := ⟨45, 4, 47, 34⟩))]) (decorator_list := []) (returns := none) (type_params := []) (scope := { kind := PySem.ScopeKind.function, names := [ (PySem.Str.ofString "entries", PySem.NameKind.local), (PySem.Str.ofString "code", PySem.NameKind.local), (PySem.Str.ofString "step", PySem.NameKind.local), (PySem.Str.ofString "index", PySem.NameKind.local), (PySem.Str.ofString "is_tuple", PySem.NameKind.globalImplicit), (PySem.Str.ofString "all", PySem.NameKind.globalImplicit), (PySem.Str.ofString "BadPooled", PySem.NameKind.globalImplicit), (PySem.Str.ofString "enumerate", PySem.NameKind.globalImplicit), (PySem.Str.ofString "is_naming", PySem.NameKind.globalImplicit), (PySem.Str.ofString "goes_with_entry", PySem.NameKind.globalImplicit)], isGenerator := false, isCoroutine := false, more := [ (PySem.Str.ofString "fast", (PySem.Const.str "entries")), (PySem.Str.ofString "fast", (PySem.Const.str "code")), (PySem.Str.ofString "fast", (PySem.Const.str "step")), (PySem.Str.ofString "fast", (PySem.Const.str "index"))] : PySem.Scope }) (tscope := none) (bind := "check_pooled") (pos := ⟨42, 0, 47, 34⟩))
def s_unpooled : Stmt := (PySem.Stmt.FunctionDef (name := "unpooled") (args := { posonlyargs := [], args := [ { arg := "pool", annotation := none, pos := ⟨48, 13, 48, 17⟩ : PySem.Arg }, { arg := "code", annotation := none, pos := ⟨48, 19, 48, 23⟩ : PySem.Arg }], vararg := none, kwonlyargs := [], kw_defaults := [], kwarg := none, defaults := [] : PySem.Arguments }) (body := [ (PySem.Stmt.Expr (value := (PySem.Expr.Call (func := (PySem.Expr.Name "check_pool" ⟨49, 4, 49, 14⟩)) (args := [(PySem.Expr.Name "pool" ⟨49, 15, 49, 19⟩)]) (keywords := []) (pos := ⟨49, 4, 49, 20⟩))) (pos := ⟨49, 4, 49, 20⟩)), (PySem.Stmt.Expr (value := (PySem.Expr.Call (func := (PySem.Expr.Name "check_pooled" ⟨50, 4, 50, 16⟩)) (args := [(PySem.Expr.Name "pool" ⟨50, 17, 50, 21⟩), (PySem.Expr.Name "code" ⟨50, 23, 50, 27⟩)]) (keywords := []) (pos := ⟨50, 4, 50, 28⟩))) (pos := ⟨50, 4, 50, 28⟩)), (PySem.Stmt.Return (value := (some (PySem.Expr.Call (func := (PySem.Expr.Name "tuple" ⟨51, 11, 51, 16⟩)) (args := [ (PySem.Expr.ListComp (elt := (PySem.Expr.IfExp (test := (PySem.Expr.Call (func := (PySem.Expr.Name "is_naming" ⟨51, 51, 51, 60⟩)) (args := [(PySem.Expr.Name "step" ⟨51, 61, 51, 65⟩)]) (keywords := []) (pos := ⟨51, 51, 51, 66⟩))) (body := (PySem.Expr.Tuple (elts := [ (PySem.Expr.Subscript (value := (PySem.Expr.Name "step" ⟨51, 19, 51, 23⟩)) (slice := (PySem.Expr.Constant (PySem.Const.int 0) 0 ⟨51, 24, 51, 25⟩)) (pos := ⟨51, 19, 51, 26⟩)), (PySem.Expr.Starred (value := (PySem.Expr.Subscript (value := (PySem.Expr.Subscript (value := (PySem.Expr.Name "pool" ⟨51, 29, 51, 33⟩)) (slice := (PySem.Expr.Subscript (value := (PySem.Expr.Name "step" ⟨51, 34, 51, 38⟩)) (slice := (PySem.Expr.Constant (PySem.Const.int 1) 0 ⟨51, 39, 51, 40⟩)) (pos := ⟨51, 34, 51, 41⟩))) (pos := ⟨51, 29, 51, 42⟩))) (slice := (PySem.Expr.Slice (lower := (some (PySem.Expr.Constant (PySem.Const.int 1) 0 ⟨51, 43, 51, 44⟩))) (upper := none) (step := none) (pos := ⟨51, 43, 51, 45⟩))) (pos := ⟨51, 29, 51, 46⟩))) (pos := ⟨51, 28, 51, 46⟩))]) (k := 0) (pos := ⟨51, 18, 51, 47⟩))) (orelse := (PySem.Expr.Name "step" ⟨51, 72, 51, 76⟩)) (pos := ⟨51, 18, 51, 76⟩))) (generators := [ { target := (PySem.Expr.Name "step" ⟨51, 81, 51, 85⟩), iter := (PySem.Expr.Name "code" ⟨51, 89, 51, 93⟩), ifs := [], is_async := 0 : PySem.Comprehension }]) (scope := { kind := PySem.ScopeKind.function, names := [ (PySem.Str.ofString ".0", PySem.NameKind.local), (PySem.Str.ofString "step", PySem.NameKind.local), (PySem.Str.ofString "is_naming", PySem.NameKind.globalImplicit), (PySem.Str.ofString "pool", PySem.NameKind.free)], isGenerator := false, isCoroutine := false, more := [] : PySem.Scope }) (pos := ⟨51, 17, 51, 94⟩))]) (keywords := []) (pos := ⟨51, 11, 51, 95⟩)))) (pos := ⟨51, 4, 51, 95⟩))]) (decorator_list := []) (returns := none) (type_params := []) (scope := { kind := PySem.ScopeKind.function, names := [ (PySem.Str.ofString "pool", PySem.NameKind.cell), (PySem.Str.ofString "code", PySem.NameKind.local), (PySem.Str.ofString "check_pool", PySem.NameKind.globalImplicit), (PySem.Str.ofString "check_pooled", PySem.NameKind.globalImplicit), (PySem.Str.ofString "tuple", PySem.NameKind.globalImplicit)], isGenerator := false, isCoroutine := false, more := [ (PySem.Str.ofString "fast", (PySem.Const.str "pool")), (PySem.Str.ofString "fast", (PySem.Const.str "code")), (PySem.Str.ofString "fast", (PySem.Const.str "step"))] : PySem.Scope }) (tscope := none) (bind := "unpooled") (pos := ⟨48, 0, 51, 95⟩))
def s__law_taken : Stmt := (PySem.Stmt.FunctionDef (name := "_law_taken") (args := { posonlyargs := [], args := [ { arg := "row", annotation := none, pos := ⟨53, 15, 53, 18⟩ : PySem.Arg }, { arg := "many", annotation := none, pos := ⟨53, 20, 53, 24⟩ : PySem.Arg }], vararg := none, kwonlyargs := [], kw_defaults := [], kwarg := none, defaults := [] : PySem.Arguments }) (body := [ (PySem.Stmt.If (test := (PySem.Expr.Compare (left := (PySem.Expr.Subscript (value := (PySem.Expr.Name "row" ⟨54, 7, 54, 10⟩)) (slice := (PySem.Expr.Constant (PySem.Const.int 3) 0 ⟨54, 11, 54, 12⟩)) (pos := ⟨54, 7, 54, 13⟩))) (ops := [PySem.CmpOp.Gt]) (comparators := [(PySem.Expr.Constant (PySem.Const.int 0) 0 ⟨54, 16, 54, 17⟩)]) (pos := ⟨54, 7, 54, 17⟩))) (body := [ (PySem.Stmt.Assign (targets := [(PySem.Expr.Name "found" ⟨55, 8, 55, 13⟩)]) (value := (PySem.Expr.BinOp (left := (PySem.Expr.Call (func := (PySem.Expr.Name "int" ⟨55, 16, 55, 19⟩)) (args := [ (PySem.Expr.Subscript (value := (PySem.Expr.Name "row" ⟨55, 20, 55, 23⟩)) (slice := (PySem.Expr.Constant (PySem.Const.int 3) 0 ⟨55, 24, 55, 25⟩)) (pos := ⟨55, 20, 55, 26⟩))]) (keywords := []) (pos := ⟨55, 16, 55, 27⟩))) (op := PySem.Operator.Mod) (right := (PySem.Expr.Name "many" ⟨55, 30, 55, 34⟩)) (pos := ⟨55, 16, 55, 34⟩))) (pos := ⟨55, 8, 55, 34⟩)), (PySem.Stmt.Assign (targets := [ (PySem.Expr.Subscript (value := (PySem.Expr.Name "row" ⟨56, 8, 56, 11⟩)) (slice := (PySem.Expr.Constant (PySem.Const.int 3) 0 ⟨56, 12, 56, 13⟩)) (pos := ⟨56, 8, 56, 14⟩))]) (value := (PySem.Expr.BinOp (left := (PySem.Expr.Subscript (value := (PySem.Expr.Name "row" ⟨56, 17, 56, 20⟩)) (slice := (PySem.Expr.Constant (PySem.Const.int 3) 0 ⟨56, 21, 56, 22⟩)) (pos := ⟨56, 17, 56, 23⟩))) (op := PySem.Operator.FloorDiv) (right := (PySem.Expr.Name "many" ⟨56, 27, 56, 31⟩)) (pos := ⟨56, 17, 56, 31⟩))) (pos := ⟨56, 8, 56, 31⟩)), (PySem.Stmt.Return (some (PySem.Expr.Name "found" ⟨57, 15, 57, 20⟩)) ⟨57, 8, 57, 20⟩)]) (orelse := []) (pos := ⟨54, 4, 57, 20⟩)), (PySem.Stmt.Assign (targets := [ (PySem.Expr.Subscript (value := (PySem.Expr.Name "row" ⟨58, 4, 58, 7⟩)) (slice := (PySem.Expr.Constant (PySem.Const.int 1) 0 ⟨58, 8, 58, 9⟩)) (pos := ⟨58, 4, 58, 10⟩))]) (value := (PySem.Expr.BinOp (left := (PySem.Expr.Subscript (value := (PySem.Expr.Name "row" ⟨58, 13, 58, 16⟩)) (slice := (PySem.Expr.Constant (PySem.Const.int 1) 0 ⟨58, 17, 58, 18⟩)) (pos := ⟨58, 13, 58, 19⟩))) (op := PySem.Operator.Add) (right := (PySem.Expr.Constant (PySem.Const.int 1) 0 ⟨58, 22, 58, 23⟩)) (pos := ⟨58, 13, 58, 23⟩))) (pos := ⟨58, 4, 58, 23⟩)), (PySem.Stmt.If (test := (PySem.Expr.Compare (left := (PySem.Expr.Subscript (value := (PySem.Expr.Name "row" ⟨59, 7, 59, 10⟩)) (slice := (PySem.Expr.Constant (PySem.Const.int 1) 0 ⟨59, 11, 59, 12⟩)) (pos := ⟨59, 7, 59, 13⟩))) (ops := [PySem.CmpOp.Gt]) (comparators := [ (PySem.Expr.Call (func := (PySem.Expr.Name "len" ⟨59, 16, 59, 19⟩)) (args := [ (PySem.Expr.Subscript (value := (PySem.Expr.Name "row" ⟨59, 20, 59, 23⟩)) (slice := (PySem.Expr.Constant (PySem.Const.int 0) 0 ⟨59, 24, 59, 25⟩)) (pos := ⟨59, 20, 59, 26⟩))]) (keywords := []) (pos := ⟨59, 16, 59, 27⟩))]) (pos := ⟨59, 7, 59, 27⟩))) (body := [ (PySem.Stmt.Assign (targets := [ (PySem.Expr.Subscript (value := (PySem.Expr.Name "row" ⟨60, 8, 60, 11⟩)) (slice := (PySem.Expr.Constant (PySem.Const.int 2) 0 ⟨60, 12, 60, 13⟩)) (pos := ⟨60, 8, 60, 14⟩))]) (value := (PySem.Expr.BinOp (left := (PySem.Expr.Call (func := (PySem.Expr.Name "int" ⟨60, 17, 60, 20⟩)) (args := [ (PySem.Expr.BinOp (left := (PySem.Expr.BinOp (left := (PySem.Expr.Subscript (value := (PySem.Expr.Name "row" ⟨60, 21, 60, 24⟩)) (slice := (PySem.Expr.Constant (PySem.Const.int 2) 0 ⟨60, 25, 60, 26⟩)) (pos := ⟨60, 21, 60, 27⟩))) (op := PySem.Operator.Mult) (right := (PySem.Expr.Constant (PySem.Const.int 48271) 0 ⟨60, 30, 60, 35⟩)) (pos := ⟨60, 21, 60, 35⟩))) (op := PySem.Operator.Add) (right := (PySem.Expr.Constant (PySem.Const.int 11) 0 ⟨60, 38, 60, 40⟩)) (pos := ⟨60, 21, 60, 40⟩))]) (keywords := []) (pos := ⟨60, 17, 60, 41⟩))) (op := PySem.Operator.Mod) (right := (PySem.Expr.Constant (PySem.Const.int 2147483647) 0 ⟨60, 44, 60, 54⟩)) (pos := ⟨60, 17, 60, 54⟩))) (pos := ⟨60, 8, 60, 54⟩)), (PySem.Stmt.Return (value := (some (PySem.Expr.BinOp (left := (PySem.Expr.Call (func := (PySem.Expr.Name "int" ⟨61, 15, 61, 18⟩)) (args := [ (PySem.Expr.BinOp (left := (PySem.Expr.Subscript (value := (PySem.Expr.Name "row" ⟨61, 19, 61, 22⟩)) (slice := (PySem.Expr.Constant (PySem.Const.int 2) 0 ⟨61, 23, 61, 24⟩)) (pos := ⟨61, 19, 61, 25⟩))) (op := PySem.Operator.FloorDiv) (right := (PySem.Expr.Constant (PySem.Const.int 7) 0 ⟨61, 29, 61, 30⟩)) (pos := ⟨61, 19, 61, 30⟩))]) (keywords := []) (pos := ⟨61, 15, 61, 31⟩))) (op := PySem.Operator.Mod) (right := (PySem.Expr.Name "many" ⟨61, 34, 61, 38⟩)) (pos := ⟨61, 15, 61, 38⟩)))) (pos := ⟨61, 8, 61, 38⟩))]) (orelse := []) (pos := ⟨59, 4, 61, 38⟩)), (PySem.Stmt.Assign (targets := [(PySem.Expr.Name "cell" ⟨62, 4, 62, 8⟩)]) (value := (PySem.Expr.Subscript (value := (PySem.Expr.Subscript (value := (PySem.Expr.Name "row" ⟨62, 11, 62, 14⟩)) (slice := (PySem.Expr.Constant (PySem.Const.int 0) 0 ⟨62, 15, 62, 16⟩)) (pos := ⟨62, 11, 62, 17⟩))) (slice := (PySem.Expr.BinOp (left := (PySem.Expr.Subscript (value := (PySem.Expr.Name "row" ⟨62, 18, 62, 21⟩)) (slice := (PySem.Expr.Constant (PySem.Const.int 1) 0 ⟨62, 22, 62, 23⟩)) (pos := ⟨62, 18, 62, 24⟩))) (op := PySem.Operator.Sub) (right := (PySem.Expr.Constant (PySem.Const.int 1) 0 ⟨62, 27, 62, 28⟩)) (pos := ⟨62, 18, 62, 28⟩))) (pos := ⟨62, 11, 62, 29⟩))) (pos := ⟨62, 4, 62, 29⟩)), (PySem.Stmt.Assign (targets := [ (PySem.Expr.Subscript (value := (PySem.Expr.Name "row" ⟨63, 4, 63, 7⟩)) (slice := (PySem.Expr.Constant (PySem.Const.int 2) 0 ⟨63, 8, 63, 9⟩)) (pos := ⟨63, 4, 63, 10⟩))]) (value := (PySem.Expr.BinOp (left := (PySem.Expr.Call (func := (PySem.Expr.Name "int" ⟨63, 13, 63, 16⟩)) (args := [ (PySem.Expr.BinOp (left := (PySem.Expr.BinOp (left := (PySem.Expr.BinOp (left := (PySem.Expr.Subscript (value := (PySem.Expr.Name "row" ⟨63, 17, 63, 20⟩)) (slice := (PySem.Expr.Constant (PySem.Const.int 2) 0 ⟨63, 21, 63, 22⟩)) (pos := ⟨63, 17, 63, 23⟩))) (op := PySem.Operator.Mult) (right := (PySem.Expr.Constant (PySem.Const.int 48271) 0 ⟨63, 26, 63, 31⟩)) (pos := ⟨63, 17, 63, 31⟩))) (op := PySem.Operator.Add) (right := (PySem.Expr.Name "cell" ⟨63, 34, 63, 38⟩)) (pos := ⟨63, 17, 63, 38⟩))) (op := PySem.Operator.Add) (right := (PySem.Expr.Constant (PySem.Const.int 11) 0 ⟨63, 41, 63, 43⟩)) (pos := ⟨63, 17, 63, 43⟩))]) (keywords := []) (pos := ⟨63, 13, 63, 44⟩))) (op := PySem.Operator.Mod) (right := (PySem.Expr.Constant (PySem.Const.int 2147483647) 0 ⟨63, 47, 63, 57⟩)) (pos := ⟨63, 13, 63, 57⟩))) (pos := ⟨63, 4, 63, 57⟩)), (PySem.Stmt.If (test := (PySem.Expr.Compare (left := (PySem.Expr.Name "cell" ⟨64, 7, 64, 11⟩)) (ops := [PySem.CmpOp.GtE]) (comparators := [ (PySem.Expr.BinOp (left := (PySem.Expr.Constant (PySem.Const.int 10) 0 ⟨64, 15, 64, 17⟩)) (op := PySem.Operator.Pow) (right := (PySem.Expr.Constant (PySem.Const.int 18) 0 ⟨64, 21, 64, 23⟩)) (pos := ⟨64, 15, 64, 23⟩))]) (pos := ⟨64, 7, 64, 23⟩))) (body := [ (PySem.Stmt.Assign (targets := [ (PySem.Expr.Subscript (value := (PySem.Expr.Name "row" ⟨65, 8, 65, 11⟩)) (slice := (PySem.Expr.Constant (PySem.Const.int 3) 0 ⟨65, 12, 65, 13⟩)) (pos := ⟨65, 8, 65, 14⟩))]) (value := (PySem.Expr.BinOp (left := (PySem.Expr.Name "cell" ⟨65, 17, 65, 21⟩)) (op := PySem.Operator.FloorDiv) (right := (PySem.Expr.Name "many" ⟨65, 25, 65, 29⟩)) (pos := ⟨65, 17, 65, 29⟩))) (pos := ⟨65, 8, 65, 29⟩))]) (orelse := []) (pos := ⟨64, 4, 65, 29⟩)), (PySem.Stmt.Return (value := (some (PySem.Expr.BinOp (left := (PySem.Expr.Call (func := (PySem.Expr.Name "int" ⟨66, 11, 66, 14⟩)) (args := [(PySem.Expr.Name "cell" ⟨66, 15, 66, 19⟩)]) (keywords := []) (pos := ⟨66, 11, 66, 20⟩))) (op := PySem.Operator.Mod) (right := (PySem.Expr.Name "many" ⟨66, 23, 66, 27⟩)) (pos := ⟨66, 11, 66, 27⟩)))) (pos := ⟨66, 4, 66, 27⟩))]) (decorator_list := []) (returns := none) (type_params := []) (scope := { kind := PySem.ScopeKind.function, names := [ (PySem.Str.ofString "row", PySem.NameKind.local), (PySem.Str.ofString "many", PySem.NameKind.local), (PySem.Str.ofString "found", PySem.NameKind.local), (PySem.Str.ofString "cell", PySem.NameKind.local), (PySem.Str.ofString "int", PySem.NameKind.globalImplicit), (PySem.Str.ofString "len", PySem.NameKind.globalImplicit)], isGenerator := false, isCoroutine := false, more := [] : PySem.Scope }) (tscope := none) (bind := "_law_taken") (pos := ⟨53, 0, 66, 27⟩))
def s__law_pick : Stmt := (PySem.Stmt.FunctionDef (name := "_law_pick") (args := { posonlyargs := [], args := [ { arg := "row", annotation := none, pos := ⟨67, 14, 67, 17⟩ : PySem.Arg }, { arg := "things", annotation := none, pos := ⟨67, 19, 67, 25⟩ : PySem.Arg }], vararg := none, kwonlyargs := [], kw_defaults := [], kwarg := none, defaults := [] : PySem.Arguments }) (body := [ (PySem.Stmt.Return (value := (some (PySem.Expr.Subscript (value := (PySem.Expr.Name "things" ⟨68, 11, 68, 17⟩)) (slice := (PySem.Expr.Call (func := (PySem.Expr.Name "_law_taken" ⟨68, 18, 68, 28⟩)) (args := [ (PySem.Expr.Name "row" ⟨68, 29, 68, 32⟩), (PySem.Expr.Call (func := (PySem.Expr.Name "len" ⟨68, 34, 68, 37⟩)) (args := [(PySem.Expr.Name "things" ⟨68, 38, 68, 44⟩)]) (keywords := []) (pos := ⟨68, 34, 68, 45⟩))]) (keywords := []) (pos := ⟨68, 18, 68, 46⟩))) (pos := ⟨68, 11, 68, 47⟩)))) (pos := ⟨68, 4, 68, 47⟩))]) (decorator_list := []) (returns := none) (type_params := []) (scope := { kind := PySem.ScopeKind.function, names := [ (PySem.Str.ofString "row", PySem.NameKind.local), (PySem.Str.ofString "things", PySem.NameKind.local), (PySem.Str.ofString "_law_taken", PySem.NameKind.globalImplicit), (PySem.Str.ofString "len", PySem.NameKind.globalImplicit)], isGenerator := false, isCoroutine := false, more := [] : PySem.Scope }) (tscope := none) (bind := "_law_pick") (pos := ⟨67, 0, 68, 47⟩))
def s__law_alike : Stmt := (PySem.Stmt.FunctionDef (name := "_law_alike") (args := { posonlyargs := [], args := [ { arg := "found", annotation := none, pos := ⟨69, 15, 69, 20⟩ : PySem.Arg }, { arg := "due", annotation := none, pos := ⟨69, 22, 69, 25⟩ : PySem.Arg }], vararg := none, kwonlyargs := [], kw_defaults := [], kwarg := none, defaults := [] : PySem.Arguments }) (body := [ (PySem.Stmt.If (test := (PySem.Expr.Call (func := (PySem.Expr.Name "isinstance" ⟨70, 7, 70, 17⟩)) (args := [ (PySem.Expr.Name "due" ⟨70, 18, 70, 21⟩), (PySem.Expr.Tuple (elts := [(PySem.Expr.Name "tuple" ⟨70, 24, 70, 29⟩), (PySem.Expr.Name "list" ⟨70, 31, 70, 35⟩)]) (k := 0) (pos := ⟨70, 23, 70, 36⟩))]) (keywords := []) (pos := ⟨70, 7, 70, 37⟩))) (body := [ (PySem.Stmt.If (test := (PySem.Expr.BoolOp (op := PySem.BoolOp.Or) (values := [ (PySem.Expr.UnaryOp (op := PySem.UnaryOp.Not) (operand := (PySem.Expr.Call (func := (PySem.Expr.Name "isinstance" ⟨71, 15, 71, 25⟩)) (args := [ (PySem.Expr.Name "found" ⟨71, 26, 71, 31⟩), (PySem.Expr.Tuple (elts := [(PySem.Expr.Name "tuple" ⟨71, 34, 71, 39⟩), (PySem.Expr.Name "list" ⟨71, 41, 71, 45⟩)]) (k := 0) (pos := ⟨71, 33, 71, 46⟩))]) (keywords := []) (pos := ⟨71, 15, 71, 47⟩))) (pos := ⟨71, 11, 71, 47⟩)), (PySem.Expr.Compare (left := (PySem.Expr.Call (func := (PySem.Expr.Name "isinstance" ⟨71, 51, 71, 61⟩)) (args := [(PySem.Expr.Name "found" ⟨71, 62, 71, 67⟩), (PySem.Expr.Name "list" ⟨71, 69, 71, 73⟩)]) (keywords := []) (pos := ⟨71, 51, 71, 74⟩))) (ops := [PySem.CmpOp.NotEq]) (comparators := [ (PySem.Expr.Call (func := (PySem.Expr.Name "isinstance" ⟨71, 78, 71, 88⟩)) (args := [(PySem.Expr.Name "due" ⟨71, 89, 71, 92⟩), (PySem.Expr.Name "list" ⟨71, 94, 71, 98⟩)]) (keywords := []) (pos := ⟨71, 78, 71, 99⟩))]) (pos := ⟨71, 51, 71, 99⟩))]) (pos := ⟨71, 11, 71, 99⟩))) (body := [ (PySem.Stmt.Return (some (PySem.Expr.Constant (PySem.Const.bool false) 0 ⟨72, 19, 72, 24⟩)) ⟨72, 12, 72, 24⟩)]) (orelse := []) (pos := ⟨71, 8, 72, 24⟩)), (PySem.Stmt.If (test := (PySem.Expr.Compare (left := (PySem.Expr.Call (func := (PySem.Expr.Name "len" ⟨73, 11, 73, 14⟩)) (args := [(PySem.Expr.Name "found" ⟨73, 15, 73, 20⟩)]) (keywords := []) (pos := ⟨73, 11, 73, 21⟩))) (ops := [PySem.CmpOp.NotEq]) (comparators := [ (PySem.Expr.Call (func := (PySem.Expr.Name "len" ⟨73, 25, 73, 28⟩)) (args := [(PySem.Expr.Name "due" ⟨73, 29, 73, 32⟩)]) (keywords := []) (pos := ⟨73, 25, 73, 33⟩))]) (pos := ⟨73, 11, 73, 33⟩))) (body := [ (PySem.Stmt.Return (some (PySem.Expr.Constant (PySem.Const.bool false) 0 ⟨74, 19, 74, 24⟩)) ⟨74, 12, 74, 24⟩)]) (orelse := []) (pos := ⟨73, 8, 74, 24⟩)), (PySem.Stmt.Return (value := (some (PySem.Expr.Compare (left := (PySem.Expr.ListComp (elt := (PySem.Expr.Name "k" ⟨75, 16, 75, 17⟩)) (generators := [ { target := (PySem.Expr.Name "k" ⟨75, 22, 75, 23⟩), iter := (PySem.Expr.Call (func := (PySem.Expr.Name "range" ⟨75, 27, 75, 32⟩)) (args := [ (PySem.Expr.Call (func := (PySem.Expr.Name "len" ⟨75, 33, 75, 36⟩)) (args := [(PySem.Expr.Name "due" ⟨75, 37, 75, 40⟩)]) (keywords := []) (pos := ⟨75, 33, 75, 41⟩))]) (keywords := []) (pos := ⟨75, 27, 75, 42⟩)), ifs := [ (PySem.Expr.UnaryOp (op := PySem.UnaryOp.Not) (operand := (PySem.Expr.Call (func := (PySem.Expr.Name "_law_alike" ⟨75, 50, 75, 60⟩)) (args := [ (PySem.Expr.Subscript (value := (PySem.Expr.Name "found" ⟨75, 61, 75, 66⟩)) (slice := (PySem.Expr.Name "k" ⟨75, 67, 75, 68⟩)) (pos := ⟨75, 61, 75, 69⟩)), (PySem.Expr.Subscript (value := (PySem.Expr.Name "due" ⟨75, 71, 75, 74⟩)) (slice := (PySem.Expr.Name "k" ⟨75, 75, 75, 76⟩)) (pos := ⟨75, 71, 75, 77⟩))]) (keywords := []) (pos := ⟨75, 50, 75, 78⟩))) (pos := ⟨75, 46, 75, 78⟩))], is_async := 0 : PySem.Comprehension }]) (scope := { kind := PySem.ScopeKind.function, names := [ (PySem.Str.ofString ".0", PySem.NameKind.local), (PySem.Str.ofString "k", PySem.NameKind.local), (PySem.Str.ofString "_law_alike", PySem.NameKind.globalImplicit), (PySem.Str.ofString "due", PySem.NameKind.free), (PySem.Str.ofString "found", PySem.NameKind.free)], isGenerator := false, isCoroutine := false, more := [] : PySem.Scope }) (pos := ⟨75, 15, 75, 79⟩))) (ops := [PySem.CmpOp.Eq]) (comparators := [(PySem.Expr.List [] ⟨75, 83, 75, 85⟩)]) (pos := ⟨75, 15, 75, 85⟩)))) (pos := ⟨75, 8, 75, 85⟩))]) (orelse := []) (pos := ⟨70, 4, 75, 85⟩)), (PySem.Stmt.If (test := (PySem.Expr.BoolOp (op := PySem.BoolOp.Or) (values := [ (PySem.Expr.Compare (left := (PySem.Expr.Name "due" ⟨76, 7, 76, 10⟩)) (ops := [PySem.CmpOp.Is]) (comparators := [(PySem.Expr.Constant PySem.Const.none 0 ⟨76, 14, 76, 18⟩)]) (pos := ⟨76, 7, 76, 18⟩)), (PySem.Expr.Call (func := (PySem.Expr.Name "isinstance" ⟨76, 22, 76, 32⟩)) (args := [(PySem.Expr.Name "due" ⟨76, 33, 76, 36⟩), (PySem.Expr.Name "str" ⟨76, 38, 76, 41⟩)]) (keywords := []) (pos := ⟨76, 22, 76, 42⟩))]) (pos := ⟨76, 7, 76, 42⟩))) (body := [ (PySem.Stmt.Return (value := (some (PySem.Expr.BoolOp (op := PySem.BoolOp.And) (values := [ (PySem.Expr.Compare (left := (PySem.Expr.Name "found" ⟨77, 15, 77, 20⟩)) (ops := [PySem.CmpOp.Eq]) (comparators := [(PySem.Expr.Name "due" ⟨77, 24, 77, 27⟩)]) (pos := ⟨77, 15, 77, 27⟩)), (PySem.Expr.Compare (left := (PySem.Expr.Call (func := (PySem.Expr.Name "isinstance" ⟨77, 32, 77, 42⟩)) (args := [(PySem.Expr.Name "found" ⟨77, 43, 77, 48⟩), (PySem.Expr.Name "str" ⟨77, 50, 77, 53⟩)]) (keywords := []) (pos := ⟨77, 32, 77, 54⟩))) (ops := [PySem.CmpOp.Eq]) (comparators := [ (PySem.Expr.Call (func := (PySem.Expr.Name "isinstance" ⟨77, 58, 77, 68⟩)) (args := [(PySem.Expr.Name "due" ⟨77, 69, 77, 72⟩), (PySem.Expr.Name "str" ⟨77, 74, 77, 77⟩)]) (keywords := []) (pos := ⟨77, 58, 77, 78⟩))]) (pos := ⟨77, 32, 77, 78⟩))]) (pos := ⟨77, 15, 77, 78⟩)))) (pos := ⟨77, 8, 77, 78⟩))]) (orelse := []) (pos := ⟨76, 4, 77, 78⟩)), (PySem.Stmt.Return (value := (some (PySem.Expr.BoolOp (op := PySem.BoolOp.And) (values := [ (PySem.Expr.Call (func := (PySem.Expr.Name "isinstance" ⟨78, 11, 78, 21⟩)) (args := [(PySem.Expr.Name "found" ⟨78, 22, 78, 27⟩), (PySem.Expr.Name "int" ⟨78, 29, 78, 32⟩)]) (keywords := []) (pos := ⟨78, 11, 78, 33⟩)), (PySem.Expr.Compare (left := (PySem.Expr.Call (func := (PySem.Expr.Name "isinstance" ⟨78, 38, 78, 48⟩)) (args := [(PySem.Expr.Name "found" ⟨78, 49, 78, 54⟩), (PySem.Expr.Name "bool" ⟨78, 56, 78, 60⟩)]) (keywords := []) (pos := ⟨78, 38, 78, 61⟩))) (ops := [PySem.CmpOp.Eq]) (comparators := [ (PySem.Expr.Call (func := (PySem.Expr.Name "isinstance" ⟨78, 65, 78, 75⟩)) (args := [(PySem.Expr.Name "due" ⟨78, 76, 78, 79⟩), (PySem.Expr.Name "bool" ⟨78, 81, 78, 85⟩)]) (keywords := []) (pos := ⟨78, 65, 78, 86⟩))]) (pos := ⟨78, 38, 78, 86⟩)), (PySem.Expr.Compare (left := (PySem.Expr.Name "found" ⟨78, 92, 78, 97⟩)) (ops := [PySem.CmpOp.Eq]) (comparators := [(PySem.Expr.Name "due" ⟨78, 101, 78, 104⟩)]) (pos := ⟨78, 92, 78, 104⟩))]) (pos := ⟨78, 11, 78, 105⟩)))) (pos := ⟨78, 4, 78, 105⟩))]) (decorator_list := []) (returns := none) (type_params := []) (scope := { kind := PySem.ScopeKind.function, names := [ (PySem.Str.ofString "found", PySem.NameKind.cell), (PySem.Str.ofString "due", PySem.NameKind.cell), (PySem.Str.ofString "isinstance", PySem.NameKind.globalImplicit), (PySem.Str.ofString "tuple", PySem.NameKind.globalImplicit), (PySem.Str.ofString "list", PySem.NameKind.globalImplicit), (PySem.Str.ofString "len", PySem.NameKind.globalImplicit), (PySem.Str.ofString "range", PySem.NameKind.globalImplicit), (PySem.Str.ofString "str", PySem.NameKind.globalImplicit), (PySem.Str.ofString "int", PySem.NameKind.globalImplicit), (PySem.Str.ofString "bool", PySem.NameKind.globalImplicit)], isGenerator := false, isCoroutine := false, more := [ (PySem.Str.ofString "fast", (PySem.Const.str "found")), (PySem.Str.ofString "fast", (PySem.Const.str "due")), (PySem.Str.ofString "fast", (PySem.Const.str "k"))] : PySem.Scope }) (tscope := none) (bind := "_law_alike") (pos := ⟨69, 0, 78, 105⟩))
def s__law_told : Stmt := (PySem.Stmt.FunctionDef (name := "_law_told") (args := { posonlyargs := [], args := [ { arg := "entries", annotation := none, pos := ⟨79, 14, 79, 21⟩ : PySem.Arg }, { arg := "code", annotation := none, pos := ⟨79, 23, 79, 27⟩ : PySem.Arg }], vararg := none, kwonlyargs := [], kw_defaults := [], kwarg := none, defaults := [] : PySem.Arguments }) (body := [ (PySem.Stmt.Try (body := [ (PySem.Stmt.Return (value := (some (PySem.Expr.Call (func := (PySem.Expr.Name "unpooled" ⟨81, 15, 81, 23⟩)) (args := [(PySem.Expr.Name "entries" ⟨81, 24, 81, 31⟩), (PySem.Expr.Name "code" ⟨81, 33, 81, 37⟩)]) (keywords := []) (pos := ⟨81, 15, 81, 38⟩)))) (pos := ⟨81, 8, 81, 38⟩))]) (handlers := [ (PySem.ExceptHandler.ExceptHandler (type := (some (PySem.Expr.Name "BadPool" ⟨82, 11, 82, 18⟩))) (name := (some "e")) (body := [ (PySem.Stmt.Return (value := (some (PySem.Expr.Tuple (elts := [ (PySem.Expr.Constant (PySem.Const.str "pool") 0 ⟨83, 16, 83, 22⟩), (PySem.Expr.Attribute (PySem.Expr.Name "e" ⟨83, 24, 83, 25⟩) "index" ⟨83, 24, 83, 31⟩)]) (k := 0) (pos := ⟨83, 15, 83, 32⟩)))) (pos := ⟨83, 8, 83, 32⟩))]) (pos := ⟨82, 4, 83, 32⟩)), (PySem.ExceptHandler.ExceptHandler (type := (some (PySem.Expr.Name "BadPooled" ⟨84, 11, 84, 20⟩))) (name := (some "e")) (body := [ (PySem.Stmt.Return (value := (some (PySem.Expr.Tuple (elts := [ (PySem.Expr.Constant (PySem.Const.str "pooled") 0 ⟨85, 16, 85, 24⟩), (PySem.Expr.Attribute (PySem.Expr.Name "e" ⟨85, 26, 85, 27⟩) "step" ⟨85, 26, 85, 32⟩)]) (k := 0) (pos := ⟨85, 15, 85, 33⟩)))) (pos := ⟨85, 8, 85, 33⟩))]) (pos := ⟨84, 4, 85, 33⟩))]) (orelse := []) (finalbody := []) (pos := ⟨80, 4, 85, 33⟩))]) (decorator_list := []) (returns := none) (type_params := []) (scope := { kind := PySem.ScopeKind.function, names := [ (PySem.Str.ofString "entries", PySem.NameKind.local), (PySem.Str.ofString "code", PySem.NameKind.local), (PySem.Str.ofString "e", PySem.NameKind.local), (PySem.Str.ofString "unpooled", PySem.NameKind.globalImplicit), (PySem.Str.ofString "BadPool", PySem.NameKind.globalImplicit), (PySem.Str.ofString "BadPooled", PySem.NameKind.globalImplicit)], isGenerator := false, isCoroutine := false, more := [] : PySem.Scope }) (tscope := none) (bind := "_law_told") (pos := ⟨79, 0, 85, 33⟩))
def s__law_due : Stmt := (PySem.Stmt.FunctionDef (name := "_law_due") (args := { posonlyargs := [], args := [ { arg := "entries", annotation := none, pos := ⟨86, 13, 86, 20⟩ : PySem.Arg }, { arg := "code", annotation := none, pos := ⟨86, 22, 86, 26⟩ : PySem.Arg }], vararg := none, kwonlyargs := [], kw_defaults := [], kwarg := none, defaults := [] : PySem.Arguments }) (body := [ (PySem.Stmt.Assign (targets := [(PySem.Expr.Name "kinds" ⟨87, 4, 87, 9⟩)]) (value := (PySem.Expr.Dict (keys := [ (some (PySem.Expr.Constant (PySem.Const.str "new") 0 ⟨87, 13, 87, 18⟩)), (some (PySem.Expr.Constant (PySem.Const.str "cast") 0 ⟨87, 29, 87, 35⟩)), (some (PySem.Expr.Constant (PySem.Const.str "is") 0 ⟨87, 46, 87, 50⟩)), (some (PySem.Expr.Constant (PySem.Const.str "get") 0 ⟨87, 61, 87, 66⟩)), (some (PySem.Expr.Constant (PySem.Const.str "put") 0 ⟨87, 77, 87, 82⟩)), (some (PySem.Expr.Constant (PySem.Const.str "call") 0 ⟨87, 93, 87, 99⟩))]) (values := [ (PySem.Expr.Constant (PySem.Const.str "class") 0 ⟨87, 20, 87, 27⟩), (PySem.Expr.Constant (PySem.Const.str "class") 0 ⟨87, 37, 87, 44⟩), (PySem.Expr.Constant (PySem.Const.str "class") 0 ⟨87, 52, 87, 59⟩), (PySem.Expr.Constant (PySem.Const.str "field") 0 ⟨87, 68, 87, 75⟩), (PySem.Expr.Constant (PySem.Const.str "field") 0 ⟨87, 84, 87, 91⟩), (PySem.Expr.Constant (PySem.Const.str "method") 0 ⟨87, 101, 87, 109⟩)]) (pos := ⟨87, 12, 87, 110⟩))) (pos := ⟨87, 4, 87, 110⟩)), (PySem.Stmt.Assign (targets := [(PySem.Expr.Name "found" ⟨88, 4, 88, 9⟩)]) (value := (PySem.Expr.List [] ⟨88, 12, 88, 14⟩)) (pos := ⟨88, 4, 88, 14⟩)), (PySem.Stmt.For (target := (PySem.Expr.Name "index" ⟨89, 8, 89, 13⟩)) (iter := (PySem.Expr.Call (func := (PySem.Expr.Name "range" ⟨89, 17, 89, 22⟩)) (args := [ (PySem.Expr.Call (func := (PySem.Expr.Name "len" ⟨89, 23, 89, 26⟩)) (args := [(PySem.Expr.Name "code" ⟨89, 27, 89, 31⟩)]) (keywords := []) (pos := ⟨89, 23, 89, 32⟩))]) (keywords := []) (pos := ⟨89, 17, 89, 33⟩))) (body := [ (PySem.Stmt.Assign (targets := [(PySem.Expr.Name "step" ⟨90, 8, 90, 12⟩)]) (value := (PySem.Expr.Subscript (value := (PySem.Expr.Name "code" ⟨90, 15, 90, 19⟩)) (slice := (PySem.Expr.Name "index" ⟨90, 20, 90, 25⟩)) (pos := ⟨90, 15, 90, 26⟩))) (pos := ⟨90, 8, 90, 26⟩)), (PySem.Stmt.If (test := (PySem.Expr.BoolOp (op := PySem.BoolOp.And) (values := [ (PySem.Expr.Compare (left := (PySem.Expr.Name "step" ⟨91, 11, 91, 15⟩)) (ops := [PySem.CmpOp.NotEq]) (comparators := [(PySem.Expr.Tuple [] 0 ⟨91, 19, 91, 21⟩)]) (pos := ⟨91, 11, 91, 21⟩)), (PySem.Expr.Compare (left := (PySem.Expr.Subscript (value := (PySem.Expr.Name "step" ⟨91, 26, 91, 30⟩)) (slice := (PySem.Expr.Constant (PySem.Const.int 0) 0 ⟨91, 31, 91, 32⟩)) (pos := ⟨91, 26, 91, 33⟩))) (ops := [PySem.CmpOp.In]) (comparators := [ (PySem.Expr.Call (func := (PySem.Expr.Name "list" ⟨91, 37, 91, 41⟩)) (args := [(PySem.Expr.Name "kinds" ⟨91, 42, 91, 47⟩)]) (keywords := []) (pos := ⟨91, 37, 91, 48⟩))]) (pos := ⟨91, 26, 91, 48⟩))]) (pos := ⟨91, 11, 91, 48⟩))) (body := [ (PySem.Stmt.Assign (targets := [(PySem.Expr.Name "good" ⟨92, 12, 92, 16⟩)]) (value := (PySem.Expr.BoolOp (op := PySem.BoolOp.And) (values := [ (PySem.Expr.Compare (left := (PySem.Expr.Call (func := (PySem.Expr.Name "len" ⟨92, 19, 92, 22⟩)) (args := [(PySem.Expr.Name "step" ⟨92, 23, 92, 27⟩)]) (keywords := []) (pos := ⟨92, 19, 92, 28⟩))) (ops := [PySem.CmpOp.Eq]) (comparators := [(PySem.Expr.Constant (PySem.Const.int 2) 0 ⟨92, 32, 92, 33⟩)]) (pos := ⟨92, 19, 92, 33⟩)), (PySem.Expr.Call (func := (PySem.Expr.Name "isinstance" ⟨92, 38, 92, 48⟩)) (args := [ (PySem.Expr.Subscript (value := (PySem.Expr.Name "step" ⟨92, 49, 92, 53⟩)) (slice := (PySem.Expr.Constant (PySem.Const.int 1) 0 ⟨92, 54, 92, 55⟩)) (pos := ⟨92, 49, 92, 56⟩)), (PySem.Expr.Name "int" ⟨92, 58, 92, 61⟩)]) (keywords := []) (pos := ⟨92, 38, 92, 62⟩)), (PySem.Expr.UnaryOp (op := PySem.UnaryOp.Not) (operand := (PySem.Expr.Call (func := (PySem.Expr.Name "isinstance" ⟨92, 72, 92, 82⟩)) (args := [ (PySem.Expr.Subscript (value := (PySem.Expr.Name "step" ⟨92, 83, 92, 87⟩)) (slice := (PySem.Expr.Constant (PySem.Const.int 1) 0 ⟨92, 88, 92, 89⟩)) (pos := ⟨92, 83, 92, 90⟩)), (PySem.Expr.Name "bool" ⟨92, 92, 92, 96⟩)]) (keywords := []) (pos := ⟨92, 72, 92, 97⟩))) (pos := ⟨92, 68, 92, 97⟩))]) (pos := ⟨92, 19, 92, 98⟩))) (pos := ⟨92, 12, 92, 98⟩)), (PySem.Stmt.If (test := (PySem.Expr.BoolOp (op := PySem.BoolOp.Or) (values := [ (PySem.Expr.UnaryOp PySem.UnaryOp.Not (PySem.Expr.Name "good" ⟨93, 19, 93, 23⟩) ⟨93, 15, 93, 23⟩), (PySem.Expr.UnaryOp (op := PySem.UnaryOp.Not) (operand := (PySem.Expr.Compare (left := (PySem.Expr.Constant (PySem.Const.int 0) 0 ⟨93, 31, 93, 32⟩)) (ops := [PySem.CmpOp.LtE, PySem.CmpOp.Lt]) (comparators := [ (PySem.Expr.Subscript (value := (PySem.Expr.Name "step" ⟨93, 36, 93, 40⟩)) (slice := (PySem.Expr.Constant (PySem.Const.int 1) 0 ⟨93, 41, 93, 42⟩)) (pos := ⟨93, 36, 93, 43⟩)), (PySem.Expr.Call (func := (PySem.Expr.Name "len" ⟨93, 46, 93, 49⟩)) (args := [(PySem.Expr.Name "entries" ⟨93, 50, 93, 57⟩)]) (keywords := []) (pos := ⟨93, 46, 93, 58⟩))]) (pos := ⟨93, 31, 93, 58⟩))) (pos := ⟨93, 27, 93, 58⟩)), (PySem.Expr.Compare (left := (PySem.Expr.Subscript (value := (PySem.Expr.Subscript (value := (PySem.Expr.Name "entries" ⟨93, 62, 93, 69⟩)) (slice := (PySem.Expr.Subscript (value := (PySem.Expr.Name "step" ⟨93, 70, 93, 74⟩)) (slice := (PySem.Expr.Constant (PySem.Const.int 1) 0 ⟨93, 75, 93, 76⟩)) (pos := ⟨93, 70, 93, 77⟩))) (pos := ⟨93, 62, 93, 78⟩))) (slice := (PySem.Expr.Constant (PySem.Const.int 0) 0 ⟨93, 79, 93, 80⟩)) (pos := ⟨93, 62, 93, 81⟩))) (ops := [PySem.CmpOp.NotEq]) (comparators := [ (PySem.Expr.Subscript (value := (PySem.Expr.Name "kinds" ⟨93, 85, 93, 90⟩)) (slice := (PySem.Expr.Subscript (value := (PySem.Expr.Name "step" ⟨93, 91, 93, 95⟩)) (slice := (PySem.Expr.Constant (PySem.Const.int 0) 0 ⟨93, 96, 93, 97⟩)) (pos := ⟨93, 91, 93, 98⟩))) (pos := ⟨93, 85, 93, 99⟩))]) (pos := ⟨93, 62, 93, 99⟩))]) (pos := ⟨93, 15, 93, 99⟩))) (body := [ (PySem.Stmt.Return (value := (some (PySem.Expr.Tuple (elts := [ (PySem.Expr.Constant (PySem.Const.str "pooled") 0 ⟨94, 24, 94, 32⟩), (PySem.Expr.Name "index" ⟨94, 34, 94, 39⟩)]) (k := 0) (pos := ⟨94, 23, 94, 40⟩)))) (pos := ⟨94, 16, 94, 40⟩))]) (orelse := []) (pos := ⟨93, 12, 94, 40⟩)), (PySem.Stmt.Assign (targets := [(PySem.Expr.Name "step" ⟨95, 12, 95, 16⟩)]) (value := (PySem.Expr.BinOp (left := (PySem.Expr.Tuple (elts := [ (PySem.Expr.Subscript (value := (PySem.Expr.Name "step" ⟨95, 20, 95, 24⟩)) (slice := (PySem.Expr.Constant (PySem.Const.int 0) 0 ⟨95, 25, 95, 26⟩)) (pos := ⟨95, 20, 95, 27⟩))]) (k := 0) (pos := ⟨95, 19, 95, 29⟩))) (op := PySem.Operator.Add) (right := (PySem.Expr.Subscript (value := (PySem.Expr.Subscript (value := (PySem.Expr.Name "entries" ⟨95, 32, 95, 39⟩)) (slice := (PySem.Expr.Subscript (value := (PySem.Expr.Name "step" ⟨95, 40, 95, 44⟩)) (slice := (PySem.Expr.Constant (PySem.Const.int 1) 0 ⟨95, 45, 95, 46⟩)) (pos := ⟨95, 40, 95, 47⟩))) (pos := ⟨95, 32, 95, 48⟩))) (slice := (PySem.Expr.Slice (lower := (some (PySem.Expr.Constant (PySem.Const.int 1) 0 ⟨95, 49, 95, 50⟩))) (upper := none) (step := none) (pos := ⟨95, 49, 95, 51⟩))) (pos := ⟨95, 32, 95, 52⟩))) (pos := ⟨95, 19, 95, 52⟩))) (pos := ⟨95, 12, 95, 52⟩))]) (orelse := []) (pos := ⟨91, 8, 95, 52⟩)), (PySem.Stmt.Expr (value := (PySem.Expr.Call (func := (PySem.Expr.Attribute (PySem.Expr.Name "found" ⟨96, 8, 96, 13⟩) "append" ⟨96, 8, 96, 20⟩)) (args := [(PySem.Expr.Name "step" ⟨96, 21, 96, 25⟩)]) (keywords := []) (pos := ⟨96, 8, 96, 26⟩))) (pos := ⟨96, 8, 96, 26⟩))]) (orelse := []) (pos := ⟨89, 4, 96, 26⟩)), (PySem.Stmt.Return (value := (some (PySem.Expr.Call (func := (PySem.Expr.Name "tuple" ⟨97, 11, 97, 16⟩)) (args := [(PySem.Expr.Name "found" ⟨97, 17, 97, 22⟩)]) (keywords := []) (pos := ⟨97, 11, 97, 23⟩)))) (pos := ⟨97, 4, 97, 23⟩))]) (decorator_list := []) (returns := none) (type_params := []) (scope := { kind := PySem.ScopeKind.function, names := [ (PySem.Str.ofString "entries", PySem.NameKind.local), (PySem.Str.ofString "code", PySem.NameKind.local), (PySem.Str.ofString "kinds", PySem.NameKind.local), (PySem.Str.ofString "found", PySem.NameKind.local), (PySem.Str.ofString "index", PySem.NameKind.local), (PySem.Str.ofString "step", PySem.NameKind.local), (PySem.Str.ofString "good", PySem.NameKind.local), (PySem.Str.ofString "range", PySem.NameKind.globalImplicit), (PySem.Str.ofString "len", PySem.NameKind.globalImplicit), (PySem.Str.ofString "list", PySem.NameKind.globalImplicit), (PySem.Str.ofString "isinstance", PySem.NameKind.globalImplicit), (PySem.Str.ofString "int", PySem.NameKind.globalImplicit), (PySem.Str.ofString "bool", PySem.NameKind.globalImplicit), (PySem.Str.ofString "tuple", PySem.NameKind.globalImplicit)], isGenerator := false, isCoroutine := false, more := [] : PySem.Scope }) (tscope := none) (bind := "_law_due") (pos := ⟨86, 0, 97, 23⟩))
def s_law : Stmt := (PySem.Stmt.FunctionDef (name := "law") (args := { posonlyargs := [], args := [{ arg := "script", annotation := none, pos := ⟨98, 8, 98, 14⟩ : PySem.Arg }], vararg := none, kwonlyargs := [], kw_defaults := [], kwarg := none, defaults := [] : PySem.Arguments }) (body := [ (PySem.Stmt.Assign (targets := [(PySem.Expr.Name "row" ⟨99, 4, 99, 7⟩)]) (value := (PySem.Expr.List (elts := [ (PySem.Expr.Name "script" ⟨99, 11, 99, 17⟩), (PySem.Expr.Constant (PySem.Const.int 0) 0 ⟨99, 19, 99, 20⟩), (PySem.Expr.Constant (PySem.Const.int 2938) 0 ⟨99, 22, 99, 26⟩), (PySem.Expr.Constant (PySem.Const.int 0) 0 ⟨99, 28, 99, 29⟩)]) (pos := ⟨99, 10, 99, 30⟩))) (pos := ⟨99, 4, 99, 30⟩)), (PySem.Stmt.Assign (targets := [(PySem.Expr.Name "some" ⟨100, 4, 100, 8⟩)]) (value := (PySem.Expr.List (elts := [ (PySem.Expr.Tuple (elts := [ (PySem.Expr.Constant (PySem.Const.str "class") 0 ⟨100, 13, 100, 20⟩), (PySem.Expr.Constant (PySem.Const.str "box") 0 ⟨100, 22, 100, 27⟩)]) (k := 0) (pos := ⟨100, 12, 100, 28⟩)), (PySem.Expr.Tuple (elts := [ (PySem.Expr.Constant (PySem.Const.str "class") 0 ⟨100, 31, 100, 38⟩), (PySem.Expr.Constant (PySem.Const.str "top") 0 ⟨100, 40, 100, 45⟩)]) (k := 0) (pos := ⟨100, 30, 100, 46⟩)), (PySem.Expr.Tuple (elts := [ (PySem.Expr.Constant (PySem.Const.str "field") 0 ⟨100, 49, 100, 56⟩), (PySem.Expr.Constant (PySem.Const.str "box") 0 ⟨100, 58, 100, 63⟩), (PySem.Expr.Constant (PySem.Const.str "x") 0 ⟨100, 65, 100, 68⟩)]) (k := 0) (pos := ⟨100, 48, 100, 69⟩)), (PySem.Expr.Tuple (elts := [ (PySem.Expr.Constant (PySem.Const.str "method") 0 ⟨100, 72, 100, 80⟩), (PySem.Expr.Constant (PySem.Const.str "red") 0 ⟨100, 82, 100, 87⟩), (PySem.Expr.Constant (PySem.Const.str "show") 0 ⟨100, 89, 100, 95⟩)]) (k := 0) (pos := ⟨100, 71, 100, 96⟩)), (PySem.Expr.Tuple (elts := [ (PySem.Expr.Constant (PySem.Const.str "class") 0 ⟨100, 99, 100, 106⟩), (PySem.Expr.Constant (PySem.Const.str "num") 0 ⟨100, 108, 100, 113⟩)]) (k := 0) (pos := ⟨100, 98, 100, 114⟩))]) (pos := ⟨100, 11, 100, 115⟩))) (pos := ⟨100, 4, 100, 115⟩)), (PySem.Stmt.For (target := (PySem.Expr.Name "turn" ⟨101, 8, 101, 12⟩)) (iter := (PySem.Expr.Call (func := (PySem.Expr.Name "range" ⟨101, 16, 101, 21⟩)) (args := [(PySem.Expr.Constant (PySem.Const.int 3) 0 ⟨101, 22, 101, 23⟩)]) (keywords := []) (pos := ⟨101, 16, 101, 24⟩))) (body := [ (PySem.Stmt.Assign (targets := [(PySem.Expr.Name "entries" ⟨102, 8, 102, 15⟩)]) (value := (PySem.Expr.Call (func := (PySem.Expr.Name "tuple" ⟨102, 18, 102, 23⟩)) (args := [ (PySem.Expr.ListComp (elt := (PySem.Expr.Call (func := (PySem.Expr.Name "_law_pick" ⟨102, 25, 102, 34⟩)) (args := [(PySem.Expr.Name "row" ⟨102, 35, 102, 38⟩), (PySem.Expr.Name "some" ⟨102, 40, 102, 44⟩)]) (keywords := []) (pos := ⟨102, 25, 102, 45⟩))) (generators := [ { target := (PySem.Expr.Name "at" ⟨102, 50, 102, 52⟩), iter := (PySem.Expr.Call (func := (PySem.Expr.Name "range" ⟨102, 56, 102, 61⟩)) (args := [ (PySem.Expr.Call (func := (PySem.Expr.Name "_law_taken" ⟨102, 62, 102, 72⟩)) (args := [(PySem.Expr.Name "row" ⟨102, 73, 102, 76⟩), (PySem.Expr.Constant (PySem.Const.int 7) 0 ⟨102, 78, 102, 79⟩)]) (keywords := []) (pos := ⟨102, 62, 102, 80⟩))]) (keywords := []) (pos := ⟨102, 56, 102, 81⟩)), ifs := [], is_async := 0 : PySem.Comprehension }]) (scope := { kind := PySem.ScopeKind.function, names := [ (PySem.Str.ofString ".0", PySem.NameKind.local), (PySem.Str.ofString "at", PySem.NameKind.local), (PySem.Str.ofString "_law_pick", PySem.NameKind.globalImplicit), (PySem.Str.ofString "row", PySem.NameKind.free), (PySem.Str.ofString "some", PySem.NameKind.free)], isGenerator := false, isCoroutine := false, more := [] : PySem.Scope }) (pos := ⟨102, 24, 102, 82⟩))]) (keywords := []) (pos := ⟨102, 18, 102, 83⟩))) (pos := ⟨102, 8, 102, 83⟩)), (PySem.Stmt.Assign (targets := [ (PySem.Expr.Tuple (elts := [(PySem.Expr.Name "goods" ⟨103, 8, 103, 13⟩), (PySem.Expr.Name "code" ⟨103, 15, 103, 19⟩)]) (k := 0) (pos := ⟨103, 8, 103, 19⟩))]) (value := (PySem.Expr.Tuple (elts := [ (PySem.Expr.Dict (keys := [ (some (PySem.Expr.Constant (PySem.Const.str "class") 0 ⟨103, 24, 103, 31⟩)), (some (PySem.Expr.Constant (PySem.Const.str "field") 0 ⟨103, 56, 103, 63⟩)), (some (PySem.Expr.Constant (PySem.Const.str "method") 0 ⟨103, 81, 103, 89⟩))]) (values := [ (PySem.Expr.List (elts := [ (PySem.Expr.Constant (PySem.Const.str "new") 0 ⟨103, 34, 103, 39⟩), (PySem.Expr.Constant (PySem.Const.str "cast") 0 ⟨103, 41, 103, 47⟩), (PySem.Expr.Constant (PySem.Const.str "is") 0 ⟨103, 49, 103, 53⟩)]) (pos := ⟨103, 33, 103, 54⟩)), (PySem.Expr.List (elts := [ (PySem.Expr.Constant (PySem.Const.str "get") 0 ⟨103, 66, 103, 71⟩), (PySem.Expr.Constant (PySem.Const.str "put") 0 ⟨103, 73, 103, 78⟩)]) (pos := ⟨103, 65, 103, 79⟩)), (PySem.Expr.List [(PySem.Expr.Constant (PySem.Const.str "call") 0 ⟨103, 92, 103, 98⟩)] ⟨103, 91, 103, 99⟩)]) (pos := ⟨103, 23, 103, 100⟩)), (PySem.Expr.List [] ⟨103, 102, 103, 104⟩)]) (k := 0) (pos := ⟨103, 22, 103, 105⟩))) (pos := ⟨103, 8, 103, 105⟩)), (PySem.Stmt.For (target := (PySem.Expr.Name "at" ⟨104, 12, 104, 14⟩)) (iter := (PySem.Expr.Call (func := (PySem.Expr.Name "range" ⟨104, 18, 104, 23⟩)) (args := [ (PySem.Expr.Call (func := (PySem.Expr.Name "_law_taken" ⟨104, 24, 104, 34⟩)) (args := [ (PySem.Expr.Name "row" ⟨104, 35, 104, 38⟩), (PySem.Expr.Subscript (value := (PySem.Expr.List (elts := [ (PySem.Expr.Constant (PySem.Const.int 6) 0 ⟨104, 41, 104, 42⟩), (PySem.Expr.Constant (PySem.Const.int 21) 0 ⟨104, 44, 104, 46⟩)]) (pos := ⟨104, 40, 104, 47⟩))) (slice := (PySem.Expr.Call (func := (PySem.Expr.Name "_law_taken" ⟨104, 48, 104, 58⟩)) (args := [(PySem.Expr.Name "row" ⟨104, 59, 104, 62⟩), (PySem.Expr.Constant (PySem.Const.int 2) 0 ⟨104, 64, 104, 65⟩)]) (keywords := []) (pos := ⟨104, 48, 104, 66⟩))) (pos := ⟨104, 40, 104, 67⟩))]) (keywords := []) (pos := ⟨104, 24, 104, 68⟩))]) (keywords := []) (pos := ⟨104, 18, 104, 69⟩))) (body := [ (PySem.Stmt.If (test := (PySem.Expr.BoolOp (op := PySem.BoolOp.And) (values := [ (PySem.Expr.Compare (left := (PySem.Expr.Name "entries" ⟨105, 15, 105, 22⟩)) (ops := [PySem.CmpOp.NotEq]) (comparators := [(PySem.Expr.Tuple [] 0 ⟨105, 26, 105, 28⟩)]) (pos := ⟨105, 15, 105, 28⟩)), (PySem.Expr.Compare (left := (PySem.Expr.Call (func := (PySem.Expr.Name "_law_taken" ⟨105, 33, 105, 43⟩)) (args := [(PySem.Expr.Name "row" ⟨105, 44, 105, 47⟩), (PySem.Expr.Constant (PySem.Const.int 6) 0 ⟨105, 49, 105, 50⟩)]) (keywords := []) (pos := ⟨105, 33, 105, 51⟩))) (ops := [PySem.CmpOp.Gt]) (comparators := [(PySem.Expr.Constant (PySem.Const.int 0) 0 ⟨105, 54, 105, 55⟩)]) (pos := ⟨105, 33, 105, 55⟩))]) (pos := ⟨105, 15, 105, 55⟩))) (body := [ (PySem.Stmt.Assign (targets := [(PySem.Expr.Name "place" ⟨106, 16, 106, 21⟩)]) (value := (PySem.Expr.Call (func := (PySem.Expr.Name "_law_taken" ⟨106, 24, 106, 34⟩)) (args := [ (PySem.Expr.Name "row" ⟨106, 35, 106, 38⟩), (PySem.Expr.Call (func := (PySem.Expr.Name "len" ⟨106, 40, 106, 43⟩)) (args := [(PySem.Expr.Name "entries" ⟨106, 44, 106, 51⟩)]) (keywords := []) (pos := ⟨106, 40, 106, 52⟩))]) (keywords := []) (pos := ⟨106, 24, 106, 53⟩))) (pos := ⟨106, 16, 106, 53⟩)), (PySem.Stmt.Expr (value := (PySem.Expr.Call (func := (PySem.Expr.Attribute (PySem.Expr.Name "code" ⟨107, 16, 107, 20⟩) "append" ⟨107, 16, 107, 27⟩)) (args := [ (PySem.Expr.Tuple (elts := [ (PySem.Expr.Call (func := (PySem.Expr.Name "_law_pick" ⟨107, 29, 107, 38⟩)) (args := [ (PySem.Expr.Name "row" ⟨107, 39, 107, 42⟩), (PySem.Expr.Subscript (value := (PySem.Expr.Name "goods" ⟨107, 44, 107, 49⟩)) (slice := (PySem.Expr.Subscript (value := (PySem.Expr.Subscript (value := (PySem.Expr.Name "entries" ⟨107, 50, 107, 57⟩)) (slice := (PySem.Expr.Name "place" ⟨107, 58, 107, 63⟩)) (pos := ⟨107, 50, 107, 64⟩))) (slice := (PySem.Expr.Constant (PySem.Const.int 0) 0 ⟨107, 65, 107, 66⟩)) (pos := ⟨107, 50, 107, 67⟩))) (pos := ⟨107, 44, 107, 68⟩))]) (keywords := []) (pos := ⟨107, 29, 107, 69⟩)), (PySem.Expr.Name "place" ⟨107, 71, 107, 76⟩)]) (k := 0) (pos := ⟨107, 28, 107, 77⟩))]) (keywords := []) (pos := ⟨107, 16, 107, 78⟩))) (pos := ⟨107, 16, 107, 78⟩))]) (orelse := [ (PySem.Stmt.If (test := (PySem.Expr.Compare (left := (PySem.Expr.Call (func := (PySem.Expr.Name "_law_taken" ⟨108, 17, 108, 27⟩)) (args := [(PySem.Expr.Name "row" ⟨108, 28, 108, 31⟩), (PySem.Expr.Constant (PySem.Const.int 3) 0 ⟨108, 33, 108, 34⟩)]) (keywords := []) (pos := ⟨108, 17, 108, 35⟩))) (ops := [PySem.CmpOp.Gt]) (comparators := [(PySem.Expr.Constant (PySem.Const.int 0) 0 ⟨108, 38, 108, 39⟩)]) (pos := ⟨108, 17, 108, 39⟩))) (body := [ (PySem.Stmt.Expr (value := (PySem.Expr.Call (func := (PySem.Expr.Attribute (PySem.Expr.Name "code" ⟨109, 16, 109, 20⟩) "append" ⟨109, 16, 109, 27⟩)) (args := [ (PySem.Expr.Call (func := (PySem.Expr.Name "_law_pick" ⟨109, 28, 109, 37⟩)) (args := [ (PySem.Expr.Name "row" ⟨109, 38, 109, 41⟩), (PySem.Expr.List (elts := [ (PySem.Expr.Tuple (elts := [ (PySem.Expr.Constant (PySem.Const.str "push") 0 ⟨109, 45, 109, 51⟩), (PySem.Expr.Constant (PySem.Const.int 3) 0 ⟨109, 53, 109, 54⟩)]) (k := 0) (pos := ⟨109, 44, 109, 55⟩)), (PySem.Expr.Tuple [] 0 ⟨109, 57, 109, 59⟩), (PySem.Expr.Tuple (elts := [ (PySem.Expr.Constant (PySem.Const.str "go") 0 ⟨109, 62, 109, 66⟩), (PySem.Expr.Constant (PySem.Const.int 1) 0 ⟨109, 68, 109, 69⟩), (PySem.Expr.Constant (PySem.Const.int 2) 0 ⟨109, 71, 109, 72⟩)]) (k := 0) (pos := ⟨109, 61, 109, 73⟩)), (PySem.Expr.Tuple [(PySem.Expr.Constant (PySem.Const.int 5) 0 ⟨109, 76, 109, 77⟩)] 0 ⟨109, 75, 109, 79⟩), (PySem.Expr.Tuple [(PySem.Expr.Constant PySem.Const.none 0 ⟨109, 82, 109, 86⟩)] 0 ⟨109, 81, 109, 88⟩), (PySem.Expr.Tuple [(PySem.Expr.Constant (PySem.Const.str "give") 0 ⟨109, 91, 109, 97⟩)] 0 ⟨109, 90, 109, 99⟩), (PySem.Expr.Tuple (elts := [ (PySem.Expr.Constant (PySem.Const.str "New") 0 ⟨109, 102, 109, 107⟩), (PySem.Expr.Constant (PySem.Const.int 0) 0 ⟨109, 109, 109, 110⟩)]) (k := 0) (pos := ⟨109, 101, 109, 111⟩))]) (pos := ⟨109, 43, 109, 112⟩))]) (keywords := []) (pos := ⟨109, 28, 109, 113⟩))]) (keywords := []) (pos := ⟨109, 16, 109, 114⟩))) (pos := ⟨109, 16, 109, 114⟩))]) (orelse := [ (PySem.Stmt.Assign (targets := [ (PySem.Expr.Tuple (elts := [(PySem.Expr.Name "word" ⟨111, 16, 111, 20⟩), (PySem.Expr.Name "odd" ⟨111, 22, 111, 25⟩)]) (k := 0) (pos := ⟨111, 16, 111, 25⟩))]) (value := (PySem.Expr.Tuple (elts := [ (PySem.Expr.Call (func := (PySem.Expr.Name "_law_pick" ⟨111, 29, 111, 38⟩)) (args := [ (PySem.Expr.Name "row" ⟨111, 39, 111, 42⟩), (PySem.Expr.List (elts := [ (PySem.Expr.Constant (PySem.Const.str "new") 0 ⟨111, 45, 111, 50⟩), (PySem.Expr.Constant (PySem.Const.str "is") 0 ⟨111, 52, 111, 56⟩), (PySem.Expr.Constant (PySem.Const.str "get") 0 ⟨111, 58, 111, 63⟩), (PySem.Expr.Constant (PySem.Const.str "call") 0 ⟨111, 65, 111, 71⟩)]) (pos := ⟨111, 44, 111, 72⟩))]) (keywords := []) (pos := ⟨111, 29, 111, 73⟩)), (PySem.Expr.List (elts := [ (PySem.Expr.Constant (PySem.Const.int 0) 0 ⟨111, 76, 111, 77⟩), (PySem.Expr.Call (func := (PySem.Expr.Name "len" ⟨111, 79, 111, 82⟩)) (args := [(PySem.Expr.Name "entries" ⟨111, 83, 111, 90⟩)]) (keywords := []) (pos := ⟨111, 79, 111, 91⟩)), (PySem.Expr.UnaryOp (op := PySem.UnaryOp.USub) (operand := (PySem.Expr.Constant (PySem.Const.int 1) 0 ⟨111, 94, 111, 95⟩)) (pos := ⟨111, 93, 111, 95⟩)), (PySem.Expr.Constant (PySem.Const.bool true) 0 ⟨111, 97, 111, 101⟩), (PySem.Expr.Constant (PySem.Const.str "box") 0 ⟨111, 103, 111, 108⟩), (PySem.Expr.Constant PySem.Const.none 0 ⟨111, 110, 111, 114⟩)]) (pos := ⟨111, 75, 111, 115⟩))]) (k := 0) (pos := ⟨111, 28, 111, 116⟩))) (pos := ⟨111, 16, 111, 116⟩)), (PySem.Stmt.Expr (value := (PySem.Expr.Call (func := (PySem.Expr.Attribute (PySem.Expr.Name "code" ⟨112, 16, 112, 20⟩) "append" ⟨112, 16, 112, 27⟩)) (args := [ (PySem.Expr.Call (func := (PySem.Expr.Name "_law_pick" ⟨112, 28, 112, 37⟩)) (args := [ (PySem.Expr.Name "row" ⟨112, 38, 112, 41⟩), (PySem.Expr.List (elts := [ (PySem.Expr.Tuple (elts := [ (PySem.Expr.Name "word" ⟨112, 45, 112, 49⟩), (PySem.Expr.Call (func := (PySem.Expr.Name "_law_pick" ⟨112, 51, 112, 60⟩)) (args := [(PySem.Expr.Name "row" ⟨112, 61, 112, 64⟩), (PySem.Expr.Name "odd" ⟨112, 66, 112, 69⟩)]) (keywords := []) (pos := ⟨112, 51, 112, 70⟩))]) (k := 0) (pos := ⟨112, 44, 112, 71⟩)), (PySem.Expr.Tuple [(PySem.Expr.Name "word" ⟨112, 74, 112, 78⟩)] 0 ⟨112, 73, 112, 80⟩), (PySem.Expr.Tuple (elts := [ (PySem.Expr.Name "word" ⟨112, 83, 112, 87⟩), (PySem.Expr.Constant (PySem.Const.int 0) 0 ⟨112, 89, 112, 90⟩), (PySem.Expr.Constant (PySem.Const.int 0) 0 ⟨112, 92, 112, 93⟩)]) (k := 0) (pos := ⟨112, 82, 112, 94⟩))]) (pos := ⟨112, 43, 112, 95⟩))]) (keywords := []) (pos := ⟨112, 28, 112, 96⟩))]) (keywords := []) (pos := ⟨112, 16, 112, 97⟩))) (pos := ⟨112, 16, 112, 97⟩))]) (pos := ⟨108, 12, 112, 97⟩))]) (pos := ⟨105, 12, 112, 97⟩))]) (orelse := []) (pos := ⟨104, 8, 112, 97⟩)), (PySem.Stmt.If (test := (PySem.Expr.UnaryOp (op := PySem.UnaryOp.Not) (operand := (PySem.Expr.Call (func := (PySem.Expr.Name "_law_alike" ⟨113, 15, 113, 25⟩)) (args := [ (PySem.Expr.Call (func := (PySem.Expr.Name "_law_told" ⟨113, 26, 113, 35⟩)) (args := [ (PySem.Expr.Name "entries" ⟨113, 36, 113, 43⟩), (PySem.Expr.Call (func := (PySem.Expr.Name "tuple" ⟨113, 45, 113, 50⟩)) (args := [(PySem.Expr.Name "code" ⟨113, 51, 113, 55⟩)]) (keywords := []) (pos := ⟨113, 45, 113, 56⟩))]) (keywords := []) (pos := ⟨113, 26, 113, 57⟩)), (PySem.Expr.Call (func := (PySem.Expr.Name "_law_due" ⟨113, 59, 113, 67⟩)) (args := [(PySem.Expr.Name "entries" ⟨113, 68, 113, 75⟩), (PySem.Expr.Name "code" ⟨113, 77, 113, 81⟩)]) (keywords := []) (pos := ⟨113, 59, 113, 82⟩))]) (keywords := []) (pos := ⟨113, 15, 113, 83⟩))) (pos := ⟨113, 11, 113, 83⟩))) (body := [ (PySem.Stmt.Return (value := (some (PySem.Expr.Constant (PySem.Const.bool false) 0 ⟨114, 19, 114, 24⟩))) (pos := ⟨114, 12, 114, 24⟩))]) (orelse := []) (pos := ⟨113, 8, 114, 24⟩)), (PySem.Stmt.Assign (targets := [(PySem.Expr.Name "wrong" ⟨115, 8, 115, 13⟩)]) (value := (PySem.Expr.List (elts := [ (PySem.Expr.Constant PySem.Const.none 0 ⟨115, 17, 115, 21⟩), (PySem.Expr.Tuple [] 0 ⟨115, 23, 115, 25⟩), (PySem.Expr.Tuple [(PySem.Expr.Constant (PySem.Const.str "class") 0 ⟨115, 28, 115, 35⟩)] 0 ⟨115, 27, 115, 37⟩), (PySem.Expr.Tuple (elts := [ (PySem.Expr.Constant (PySem.Const.str "class") 0 ⟨115, 40, 115, 47⟩), (PySem.Expr.Constant (PySem.Const.str "box") 0 ⟨115, 49, 115, 54⟩), (PySem.Expr.Constant (PySem.Const.str "x") 0 ⟨115, 56, 115, 59⟩)]) (k := 0) (pos := ⟨115, 39, 115, 60⟩)), (PySem.Expr.Tuple (elts := [ (PySem.Expr.Constant (PySem.Const.str "field") 0 ⟨115, 63, 115, 70⟩), (PySem.Expr.Constant (PySem.Const.str "box") 0 ⟨115, 72, 115, 77⟩)]) (k := 0) (pos := ⟨115, 62, 115, 78⟩)), (PySem.Expr.Tuple (elts := [ (PySem.Expr.Constant (PySem.Const.str "thing") 0 ⟨115, 81, 115, 88⟩), (PySem.Expr.Constant (PySem.Const.str "box") 0 ⟨115, 90, 115, 95⟩)]) (k := 0) (pos := ⟨115, 80, 115, 96⟩)), (PySem.Expr.Tuple (elts := [ (PySem.Expr.Constant (PySem.Const.str "class") 0 ⟨115, 99, 115, 106⟩), (PySem.Expr.Constant (PySem.Const.str "Box") 0 ⟨115, 108, 115, 113⟩)]) (k := 0) (pos := ⟨115, 98, 115, 114⟩)), (PySem.Expr.Constant (PySem.Const.int 3) 0 ⟨115, 116, 115, 117⟩)]) (pos := ⟨115, 16, 115, 118⟩))) (pos := ⟨115, 8, 115, 118⟩)), (PySem.Stmt.Assign (targets := [(PySem.Expr.Name "wrong" ⟨116, 8, 116, 13⟩)]) (value := (PySem.Expr.BinOp (left := (PySem.Expr.Name "wrong" ⟨116, 16, 116, 21⟩)) (op := PySem.Operator.Add) (right := (PySem.Expr.List (elts := [ (PySem.Expr.Tuple (elts := [ (PySem.Expr.Constant (PySem.Const.str "class") 0 ⟨116, 26, 116, 33⟩), (PySem.Expr.Constant (PySem.Const.str "") 0 ⟨116, 35, 116, 37⟩)]) (k := 0) (pos := ⟨116, 25, 116, 38⟩)), (PySem.Expr.Tuple (elts := [ (PySem.Expr.Constant (PySem.Const.str "class") 0 ⟨116, 41, 116, 48⟩), (PySem.Expr.Constant (PySem.Const.str "toolong") 0 ⟨116, 50, 116, 59⟩)]) (k := 0) (pos := ⟨116, 40, 116, 60⟩)), (PySem.Expr.List (elts := [ (PySem.Expr.Constant (PySem.Const.str "class") 0 ⟨116, 63, 116, 70⟩), (PySem.Expr.Constant (PySem.Const.str "box") 0 ⟨116, 72, 116, 77⟩)]) (pos := ⟨116, 62, 116, 78⟩)), (PySem.Expr.Tuple (elts := [ (PySem.Expr.Constant (PySem.Const.str "class") 0 ⟨116, 81, 116, 88⟩), (PySem.Expr.Constant PySem.Const.none 0 ⟨116, 90, 116, 94⟩)]) (k := 0) (pos := ⟨116, 80, 116, 95⟩)), (PySem.Expr.Tuple (elts := [ (PySem.Expr.Constant PySem.Const.none 0 ⟨116, 98, 116, 102⟩), (PySem.Expr.Constant (PySem.Const.str "box") 0 ⟨116, 104, 116, 109⟩)]) (k := 0) (pos := ⟨116, 97, 116, 110⟩))]) (pos := ⟨116, 24, 116, 111⟩))) (pos := ⟨116, 16, 116, 111⟩))) (pos := ⟨116, 8, 116, 111⟩)), (PySem.Stmt.For (target := (PySem.Expr.Name "value" ⟨117, 12, 117, 17⟩)) (iter := (PySem.Expr.Name "wrong" ⟨117, 21, 117, 26⟩)) (body := [ (PySem.Stmt.If (test := (PySem.Expr.Compare (left := (PySem.Expr.Call (func := (PySem.Expr.Name "_law_told" ⟨118, 15, 118, 24⟩)) (args := [ (PySem.Expr.BinOp (left := (PySem.Expr.Name "entries" ⟨118, 25, 118, 32⟩)) (op := PySem.Operator.Add) (right := (PySem.Expr.Tuple (elts := [(PySem.Expr.Name "value" ⟨118, 36, 118, 41⟩), (PySem.Expr.Constant PySem.Const.none 0 ⟨118, 43, 118, 47⟩)]) (k := 0) (pos := ⟨118, 35, 118, 48⟩))) (pos := ⟨118, 25, 118, 48⟩)), (PySem.Expr.Tuple [] 0 ⟨118, 50, 118, 52⟩)]) (keywords := []) (pos := ⟨118, 15, 118, 53⟩))) (ops := [PySem.CmpOp.NotEq]) (comparators := [ (PySem.Expr.Tuple (elts := [ (PySem.Expr.Constant (PySem.Const.str "pool") 0 ⟨118, 58, 118, 64⟩), (PySem.Expr.Call (func := (PySem.Expr.Name "len" ⟨118, 66, 118, 69⟩)) (args := [(PySem.Expr.Name "entries" ⟨118, 70, 118, 77⟩)]) (keywords := []) (pos := ⟨118, 66, 118, 78⟩))]) (k := 0) (pos := ⟨118, 57, 118, 79⟩))]) (pos := ⟨118, 15, 118, 79⟩))) (body := [ (PySem.Stmt.Return (value := (some (PySem.Expr.Constant (PySem.Const.bool false) 0 ⟨119, 23, 119, 28⟩))) (pos := ⟨119, 16, 119, 28⟩))]) (orelse := []) (pos := ⟨118, 12, 119, 28⟩))]) (orelse := []) (pos := ⟨117, 8, 119, 28⟩))]) (orelse := []) (pos := ⟨101, 4, 119, 28⟩)), (PySem.Stmt.For (target := (PySem.Expr.Name "value" ⟨120, 8, 120, 13⟩)) (iter := (PySem.Expr.List (elts := [ (PySem.Expr.Constant PySem.Const.none 0 ⟨120, 18, 120, 22⟩), (PySem.Expr.Call (func := (PySem.Expr.Name "list" ⟨120, 24, 120, 28⟩)) (args := [(PySem.Expr.Name "some" ⟨120, 29, 120, 33⟩)]) (keywords := []) (pos := ⟨120, 24, 120, 34⟩)), (PySem.Expr.BinOp (left := (PySem.Expr.Tuple (elts := [ (PySem.Expr.Subscript (value := (PySem.Expr.Name "some" ⟨120, 37, 120, 41⟩)) (slice := (PySem.Expr.Constant (PySem.Const.int 0) 0 ⟨120, 42, 120, 43⟩)) (pos := ⟨120, 37, 120, 44⟩))]) (k := 0) (pos := ⟨120, 36, 120, 46⟩))) (op := PySem.Operator.Mult) (right := (PySem.Expr.Constant (PySem.Const.int 100) 0 ⟨120, 49, 120, 52⟩)) (pos := ⟨120, 36, 120, 52⟩)), (PySem.Expr.Constant (PySem.Const.int 3) 0 ⟨120, 54, 120, 55⟩), (PySem.Expr.Dict [] [] ⟨120, 57, 120, 59⟩)]) (pos := ⟨120, 17, 120, 60⟩))) (body := [ (PySem.Stmt.If (test := (PySem.Expr.Compare (left := (PySem.Expr.Call (func := (PySem.Expr.Name "_law_told" ⟨121, 11, 121, 20⟩)) (args := [(PySem.Expr.Name "value" ⟨121, 21, 121, 26⟩), (PySem.Expr.Tuple [] 0 ⟨121, 28, 121, 30⟩)]) (keywords := []) (pos := ⟨121, 11, 121, 31⟩))) (ops := [PySem.CmpOp.NotEq]) (comparators := [ (PySem.Expr.Tuple (elts := [ (PySem.Expr.Constant (PySem.Const.str "pool") 0 ⟨121, 36, 121, 42⟩), (PySem.Expr.Constant PySem.Const.none 0 ⟨121, 44, 121, 48⟩)]) (k := 0) (pos := ⟨121, 35, 121, 49⟩))]) (pos := ⟨121, 11, 121, 49⟩))) (body := [ (PySem.Stmt.Return (value := (some (PySem.Expr.Constant (PySem.Const.bool false) 0 ⟨122, 19, 122, 24⟩))) (pos := ⟨122, 12, 122, 24⟩))]) (orelse := []) (pos := ⟨121, 8, 122, 24⟩))]) (orelse := []) (pos := ⟨120, 4, 122, 24⟩)), (PySem.Stmt.For (target := (PySem.Expr.Name "value" ⟨123, 8, 123, 13⟩)) (iter := (PySem.Expr.List (elts := [ (PySem.Expr.Constant PySem.Const.none 0 ⟨123, 18, 123, 22⟩), (PySem.Expr.List (elts := [ (PySem.Expr.Tuple (elts := [ (PySem.Expr.Constant (PySem.Const.str "push") 0 ⟨123, 26, 123, 32⟩), (PySem.Expr.Constant (PySem.Const.int 3) 0 ⟨123, 34, 123, 35⟩)]) (k := 0) (pos := ⟨123, 25, 123, 36⟩))]) (pos := ⟨123, 24, 123, 37⟩)), (PySem.Expr.BinOp (left := (PySem.Expr.Tuple (elts := [ (PySem.Expr.Tuple (elts := [ (PySem.Expr.Constant (PySem.Const.str "push") 0 ⟨123, 41, 123, 47⟩), (PySem.Expr.Constant (PySem.Const.int 3) 0 ⟨123, 49, 123, 50⟩)]) (k := 0) (pos := ⟨123, 40, 123, 51⟩))]) (k := 0) (pos := ⟨123, 39, 123, 53⟩))) (op := PySem.Operator.Mult) (right := (PySem.Expr.Constant (PySem.Const.int 21) 0 ⟨123, 56, 123, 58⟩)) (pos := ⟨123, 39, 123, 58⟩)), (PySem.Expr.Tuple [(PySem.Expr.Constant PySem.Const.none 0 ⟨123, 61, 123, 65⟩)] 0 ⟨123, 60, 123, 67⟩), (PySem.Expr.Tuple (elts := [ (PySem.Expr.Tuple (elts := [ (PySem.Expr.Constant (PySem.Const.str "push") 0 ⟨123, 71, 123, 77⟩), (PySem.Expr.Constant (PySem.Const.int 3) 0 ⟨123, 79, 123, 80⟩)]) (k := 0) (pos := ⟨123, 70, 123, 81⟩)), (PySem.Expr.List (elts := [ (PySem.Expr.Constant (PySem.Const.str "push") 0 ⟨123, 84, 123, 90⟩), (PySem.Expr.Constant (PySem.Const.int 3) 0 ⟨123, 92, 123, 93⟩)]) (pos := ⟨123, 83, 123, 94⟩))]) (k := 0) (pos := ⟨123, 69, 123, 95⟩)), (PySem.Expr.Constant (PySem.Const.str "push") 0 ⟨123, 97, 123, 103⟩), (PySem.Expr.Constant (PySem.Const.int 3) 0 ⟨123, 105, 123, 106⟩)]) (pos := ⟨123, 17, 123, 107⟩))) (body := [ (PySem.Stmt.If (test := (PySem.Expr.Compare (left := (PySem.Expr.Call (func := (PySem.Expr.Name "_law_told" ⟨124, 11, 124, 20⟩)) (args := [(PySem.Expr.Tuple [] 0 ⟨124, 21, 124, 23⟩), (PySem.Expr.Name "value" ⟨124, 25, 124, 30⟩)]) (keywords := []) (pos := ⟨124, 11, 124, 31⟩))) (ops := [PySem.CmpOp.NotEq]) (comparators := [ (PySem.Expr.Tuple (elts := [ (PySem.Expr.Constant (PySem.Const.str "pooled") 0 ⟨124, 36, 124, 44⟩), (PySem.Expr.Constant PySem.Const.none 0 ⟨124, 46, 124, 50⟩)]) (k := 0) (pos := ⟨124, 35, 124, 51⟩))]) (pos := ⟨124, 11, 124, 51⟩))) (body := [ (PySem.Stmt.Return (value := (some (PySem.Expr.Constant (PySem.Const.bool false) 0 ⟨125, 19, 125, 24⟩))) (pos := ⟨125, 12, 125, 24⟩))]) (orelse := []) (pos := ⟨124, 8, 125, 24⟩))]) (orelse := []) (pos := ⟨123, 4, 125, 24⟩)), (PySem.Stmt.Return (value := (some (PySem.Expr.Compare (left := (PySem.Expr.Call (func := (PySem.Expr.Name "len" ⟨126, 11, 126, 14⟩)) (args := [ (PySem.Expr.Call (func := (PySem.Expr.Name "_law_told" ⟨126, 15, 126, 24⟩)) (args := [ (PySem.Expr.BinOp (left := (PySem.Expr.Tuple (elts := [ (PySem.Expr.Subscript (value := (PySem.Expr.Name "some" ⟨126, 26, 126, 30⟩)) (slice := (PySem.Expr.Constant (PySem.Const.int 0) 0 ⟨126, 31, 126, 32⟩)) (pos := ⟨126, 26, 126, 33⟩))]) (k := 0) (pos := ⟨126, 25, 126, 35⟩))) (op := PySem.Operator.Mult) (right := (PySem.Expr.Constant (PySem.Const.int 99) 0 ⟨126, 38, 126, 40⟩)) (pos := ⟨126, 25, 126, 40⟩)), (PySem.Expr.BinOp (left := (PySem.Expr.Tuple (elts := [ (PySem.Expr.Tuple (elts := [ (PySem.Expr.Constant (PySem.Const.str "new") 0 ⟨126, 44, 126, 49⟩), (PySem.Expr.Constant (PySem.Const.int 98) 0 ⟨126, 51, 126, 53⟩)]) (k := 0) (pos := ⟨126, 43, 126, 54⟩))]) (k := 0) (pos := ⟨126, 42, 126, 56⟩))) (op := PySem.Operator.Mult) (right := (PySem.Expr.Constant (PySem.Const.int 20) 0 ⟨126, 59, 126, 61⟩)) (pos := ⟨126, 42, 126, 61⟩))]) (keywords := []) (pos := ⟨126, 15, 126, 62⟩))]) (keywords := []) (pos := ⟨126, 11, 126, 63⟩))) (ops := [PySem.CmpOp.Eq]) (comparators := [(PySem.Expr.Constant (PySem.Const.int 20) 0 ⟨126, 67, 126, 69⟩)]) (pos := ⟨126, 11, 126, 69⟩)))) (pos := ⟨126, 4, 126, 69⟩))]) (decorator_list := []) (returns := none) (type_params := []) (scope := { kind := PySem.ScopeKind.function, names := [ (PySem.Str.ofString "script", PySem.NameKind.local), (PySem.Str.ofString "row", PySem.NameKind.cell), (PySem.Str.ofString "some", PySem.NameKind.cell), (PySem.Str.ofString "turn", PySem.NameKind.local), (PySem.Str.ofString "at", PySem.NameKind.local), (PySem.Str.ofString "entries", PySem.NameKind.local), (PySem.Str.ofString "goods", PySem.NameKind.local), (PySem.Str.ofString "code", PySem.NameKind.local), (PySem.Str.ofString "place", PySem.NameKind.local), (PySem.Str.ofString "word", PySem.NameKind.local), (PySem.Str.ofString "odd", PySem.NameKind.local), (PySem.Str.ofString "wrong", PySem.NameKind.local), (PySem.Str.ofString "value", PySem.NameKind.local), (PySem.Str.ofString "range", PySem.NameKind.globalImplicit), (PySem.Str.ofString "tuple", PySem.NameKind.globalImplicit), (PySem.Str.ofString "_law_taken", PySem.NameKind.globalImplicit), (PySem.Str.ofString "len", PySem.NameKind.globalImplicit), (PySem.Str.ofString "_law_pick", PySem.NameKind.globalImplicit), (PySem.Str.ofString "_law_alike", PySem.NameKind.globalImplicit), (PySem.Str.ofString "_law_told", PySem.NameKind.globalImplicit), (PySem.Str.ofString "_law_due", PySem.NameKind.globalImplicit), (PySem.Str.ofString "list", PySem.NameKind.globalImplicit)], isGenerator := false, isCoroutine := false, more := [ (PySem.Str.ofString "fast", (PySem.Const.str "script")), (PySem.Str.ofString "fast", (PySem.Const.str "row")), (PySem.Str.ofString "fast", (PySem.Const.str "some")), (PySem.Str.ofString "fast", (PySem.Const.str "turn")), (PySem.Str.ofString "fast", (PySem.Const.str "at")), (PySem.Str.ofString "fast", (PySem.Const.str "entries")), (PySem.Str.ofString "fast", (PySem.Const.str "goods")), (PySem.Str.ofString "fast", (PySem.Const.str "code")), (PySem.Str.ofString "fast", (PySem.Const.str "place")), (PySem.Str.ofString "fast", (PySem.Const.str "word")), (PySem.Str.ofString "fast", (PySem.Const.str "odd")), (PySem.Str.ofString "fast", (PySem.Const.str "wrong")), (PySem.Str.ofString "fast", (PySem.Const.str "value"))] : PySem.Scope }) (tscope := none) (bind := "law") (pos := ⟨98, 0, 126, 69⟩))
def c_LETTERS : MV := (.str "abcdefghijklmnopqrstuvwxyz")
def tb_NAMING : List (Str × MV) := [("new", (.str "class")), ("cast", (.str "class")), ("is", (.str "class")), ("get", (.str "field")), ("put", (.str "field")), ("call", (.str "method"))]
abbrev n_is_word : List Str := ["value", "letter"]
theorem sc_is_word : FnScope n_is_word ["value"] (defScope s_is_word) := ⟨rfl, rfl, rfl, by decide +kernel, rfl, by decide +kernel, by decide +kernel⟩
abbrev n_is_number : List Str := ["value", "most"]
theorem sc_is_number : FnScope n_is_number ["value", "most"] (defScope s_is_number) := ⟨rfl, rfl, rfl, by decide +kernel, rfl, by decide +kernel, by decide +kernel⟩
abbrev n_is_tuple : List Str := ["value", "least", "most"]
theorem sc_is_tuple : FnScope n_is_tuple ["value", "least", "most"] (defScope s_is_tuple) := ⟨rfl, rfl, rfl, by decide +kernel, rfl, by decide +kernel, by decide +kernel⟩
abbrev n_has_entry_form : List Str := ["value", "part"]
theorem sc_has_entry_form : FnScope n_has_entry_form ["value"] (defScope s_has_entry_form) := ⟨rfl, rfl, rfl, by decide +kernel, rfl, by decide +kernel, by decide +kernel⟩
abbrev n_check_pool : List Str := ["entries", "index", "value"]
theorem sc_check_pool : FnScope n_check_pool ["entries"] (defScope s_check_pool) := ⟨rfl, rfl, rfl, by decide +kernel, rfl, by decide +kernel, by decide +kernel⟩
abbrev n_is_naming : List Str := ["step"]
theorem sc_is_naming : FnScope n_is_naming ["step"] (defScope s_is_naming) := ⟨rfl, rfl, rfl, by decide +kernel, rfl, by decide +kernel, by decide +kernel⟩
abbrev n_goes_with_entry : List Str := ["entries", "step"]
theorem sc_goes_with_entry : FnScope n_goes_with_entry ["entries", "step"] (defScope s_goes_with_entry) := ⟨rfl, rfl, rfl, by decide +kernel, rfl, by decide +kernel, by decide +kernel⟩
abbrev n_check_pooled : List Str := ["entries", "code", "index", "step"]
theorem sc_check_pooled : FnScope n_check_pooled ["entries", "code"] (defScope s_check_pooled) := ⟨rfl, rfl, rfl, by decide +kernel, rfl, by decide +kernel, by decide +kernel⟩
abbrev n_unpooled : List Str := ["pool", "code", "step"]
theorem sc_unpooled : FnScope n_unpooled ["pool", "code"] (defScope s_unpooled) := ⟨rfl, rfl, rfl, by decide +kernel, rfl, by decide +kernel, by decide +kernel⟩
abbrev n__law_taken : List Str := ["row", "many", "cell", "found"]
theorem sc__law_taken : FnScope n__law_taken ["row", "many"] (defScope s__law_taken) := ⟨rfl, rfl, rfl, by decide +kernel, rfl, by decide +kernel, by decide +kernel⟩
abbrev n__law_pick : List Str := ["row", "things"]
theorem sc__law_pick : FnScope n__law_pick ["row", "things"] (defScope s__law_pick) := ⟨rfl, rfl, rfl, by decide +kernel, rfl, by decide +kernel, by decide +kernel⟩
abbrev n__law_alike : List Str := ["found", "due", "k"]
theorem sc__law_alike : FnScope n__law_alike ["found", "due"] (defScope s__law_alike) := ⟨rfl, rfl, rfl, by decide +kernel, rfl, by decide +kernel, by decide +kernel⟩
abbrev n__law_told : List Str := ["entries", "code", "e"]
theorem sc__law_told : FnScope n__law_told ["entries", "code"] (defScope s__law_told) := ⟨rfl, rfl, rfl, by decide +kernel, rfl, by decide +kernel, by decide +kernel⟩
abbrev n__law_due : List Str := ["entries", "code", "kinds", "found", "index", "step", "good"]
theorem sc__law_due : FnScope n__law_due ["entries", "code"] (defScope s__law_due) := ⟨rfl, rfl, rfl, by decide +kernel, rfl, by decide +kernel, by decide +kernel⟩
abbrev n_law : List Str := ["script", "row", "some", "turn", "value", "entries", "goods", "code", "at", "wrong", "place", "word", "odd"]
theorem sc_law : FnScope n_law ["script"] (defScope s_law) := ⟨rfl, rfl, rfl, by decide +kernel, rfl, by decide +kernel, by decide +kernel⟩
abbrev P : Program := PySem.Challenge.pw_classhouse_k38_whole_codes_with_names_ag
def fileS : Str := P.main.file
structure Txt (K : PySem.W.Frag) (mg : Str → Option Value) (w : World) where
  f_is_word : Addr
  d_is_word : FuncData
  F_is_word : Fun K "is_word" "is_word" s_is_word f_is_word d_is_word
  b_is_word : Binds K d_is_word ["value"] []
  m_is_word : mg "is_word" = some (.ref f_is_word)
  f_is_number : Addr
  d_is_number : FuncData
  F_is_number : Fun K "is_number" "is_number" s_is_number f_is_number d_is_number
  b_is_number : Binds K d_is_number ["value", "most"] []
  m_is_number : mg "is_number" = some (.ref f_is_number)
  f_is_tuple : Addr
  d_is_tuple : FuncData
  F_is_tuple : Fun K "is_tuple" "is_tuple" s_is_tuple f_is_tuple d_is_tuple
  b_is_tuple : Binds K d_is_tuple ["value", "least", "most"] []
  m_is_tuple : mg "is_tuple" = some (.ref f_is_tuple)
  f_has_entry_form : Addr
  d_has_entry_form : FuncData
  F_has_entry_form : Fun K "has_entry_form" "has_entry_form" s_has_entry_form f_has_entry_form d_has_entry_form
  b_has_entry_form : Binds K d_has_entry_form ["value"] []
  m_has_entry_form : mg "has_entry_form" = some (.ref f_has_entry_form)
  f_check_pool : Addr
  d_check_pool : FuncData
  F_check_pool : Fun K "check_pool" "check_pool" s_check_pool f_check_pool d_check_pool
  b_check_pool : Binds K d_check_pool ["entries"] []
  m_check_pool : mg "check_pool" = some (.ref f_check_pool)
  f_is_naming : Addr
  d_is_naming : FuncData
  F_is_naming : Fun K "is_naming" "is_naming" s_is_naming f_is_naming d_is_naming
  b_is_naming : Binds K d_is_naming ["step"] []
  m_is_naming : mg "is_naming" = some (.ref f_is_naming)
  f_goes_with_entry : Addr
  d_goes_with_entry : FuncData
  F_goes_with_entry : Fun K "goes_with_entry" "goes_with_entry" s_goes_with_entry f_goes_with_entry d_goes_with_entry
  b_goes_with_entry : Binds K d_goes_with_entry ["entries", "step"] []
  m_goes_with_entry : mg "goes_with_entry" = some (.ref f_goes_with_entry)
  f_check_pooled : Addr
  d_check_pooled : FuncData
  F_check_pooled : Fun K "check_pooled" "check_pooled" s_check_pooled f_check_pooled d_check_pooled
  b_check_pooled : Binds K d_check_pooled ["entries", "code"] []
  m_check_pooled : mg "check_pooled" = some (.ref f_check_pooled)
  f_unpooled : Addr
  d_unpooled : FuncData
  F_unpooled : Fun K "unpooled" "unpooled" s_unpooled f_unpooled d_unpooled
  b_unpooled : Binds K d_unpooled ["pool", "code"] []
  m_unpooled : mg "unpooled" = some (.ref f_unpooled)
  f__law_taken : Addr
  d__law_taken : FuncData
  F__law_taken : Fun K "_law_taken" "_law_taken" s__law_taken f__law_taken d__law_taken
  b__law_taken : Binds K d__law_taken ["row", "many"] []
  m__law_taken : mg "_law_taken" = some (.ref f__law_taken)
  f__law_pick : Addr
  d__law_pick : FuncData
  F__law_pick : Fun K "_law_pick" "_law_pick" s__law_pick f__law_pick d__law_pick
  b__law_pick : Binds K d__law_pick ["row", "things"] []
  m__law_pick : mg "_law_pick" = some (.ref f__law_pick)
  f__law_alike : Addr
  d__law_alike : FuncData
  F__law_alike : Fun K "_law_alike" "_law_alike" s__law_alike f__law_alike d__law_alike
  b__law_alike : Binds K d__law_alike ["found", "due"] []
  m__law_alike : mg "_law_alike" = some (.ref f__law_alike)
  f__law_told : Addr
  d__law_told : FuncData
  F__law_told : Fun K "_law_told" "_law_told" s__law_told f__law_told d__law_told
  b__law_told : Binds K d__law_told ["entries", "code"] []
  m__law_told : mg "_law_told" = some (.ref f__law_told)
  f__law_due : Addr
  d__law_due : FuncData
  F__law_due : Fun K "_law_due" "_law_due" s__law_due f__law_due d__law_due
  b__law_due : Binds K d__law_due ["entries", "code"] []
  m__law_due : mg "_law_due" = some (.ref f__law_due)
  f_law : Addr
  d_law : FuncData
  F_law : Fun K "law" "law" s_law f_law d_law
  b_law : Binds K d_law ["script"] []
  m_law : mg "law" = some (.ref f_law)
  u_LETTERS : Value
  v_LETTERS : V
  m_LETTERS : mg "LETTERS" = some u_LETTERS
  r_LETTERS : RelV v_LETTERS u_LETTERS
  k_LETTERS : ∀ ct os ow, KC ⟨K, ct, os, ow⟩ c_LETTERS v_LETTERS
  a_NAMING : Addr
  m_NAMING : mg "NAMING" = some (.ref a_NAMING)
  t_NAMING : ∀ ct os ow, WTab ⟨K, ct, os, ow⟩ w a_NAMING tb_NAMING
  z_len : mg "len" = none
  z_int : mg "int" = none
  z_str : mg "str" = none
  z_tuple : mg "tuple" = none
  z_list : mg "list" = none
  z_dict : mg "dict" = none
  z_bool : mg "bool" = none
  z_isinstance : mg "isinstance" = none
  z_all : mg "all" = none
  z_any : mg "any" = none
  z_range : mg "range" = none
  z_enumerate : mg "enumerate" = none
  z_zip : mg "zip" = none
  z_reversed : mg "reversed" = none
  z_sorted : mg "sorted" = none
  z_super : mg "super" = none
  C_BadPool : Addr
  m_BadPool : mg "BadPool" = some (.ref C_BadPool)
  fi_BadPool : Addr
  ef_BadPool : (errC K C_BadPool fi_BadPool ["index"] && initB fileS K C_BadPool fi_BadPool ["index"]) = true
  C_BadPooled : Addr
  m_BadPooled : mg "BadPooled" = some (.ref C_BadPooled)
  fi_BadPooled : Addr
  ef_BadPooled : (errC K C_BadPooled fi_BadPooled ["step"] && initB fileS K C_BadPooled fi_BadPooled ["step"]) = true
  x_BadPool_BadPool : decide (PySem.W.exmOne K (.ref C_BadPool) (.ref C_BadPool) = some true) = true
  x_BadPooled_BadPool : decide (PySem.W.exmOne K (.ref C_BadPooled) (.ref C_BadPool) = some false) = true
  x_BadPool_BadPooled : decide (PySem.W.exmOne K (.ref C_BadPool) (.ref C_BadPooled) = some false) = true
  x_BadPooled_BadPooled : decide (PySem.W.exmOne K (.ref C_BadPooled) (.ref C_BadPooled) = some true) = true
section
variable {P : Program} {w : World} {K : PySem.W.Frag} {mg : Str → Option Value} {base : Heap}
abbrev GG (T : Txt K mg w) : Gx := ⟨K, fun c => if c = "BadPool" then some T.C_BadPool else if c = "BadPooled" then some T.C_BadPooled else none, [], some w⟩
theorem ct_BadPool (T : Txt K mg w) : (GG T).ct "BadPool" = some T.C_BadPool := by
  dsimp only [GG]
  rw [if_pos rfl]
theorem ct_BadPooled (T : Txt K mg w) : (GG T).ct "BadPooled" = some T.C_BadPooled := by
  dsimp only [GG]
  rw [if_neg (by decide +kernel), if_pos rfl]
end
end K38
set_option Elab.async false
set_option linter.all false
set_option maxRecDepth 100000
set_option maxHeartbeats 4000000
namespace K38
open PySem PySem.Spec PyProof.Rows L2 MI
def df_is_word : Df := ⟨fun K => He.ga K "is_word", "is_word", "is_word", s_is_word⟩
def df_is_number : Df := ⟨fun K => He.ga K "is_number", "is_number", "is_number", s_is_number⟩
def df_is_tuple : Df := ⟨fun K => He.ga K "is_tuple", "is_tuple", "is_tuple", s_is_tuple⟩
def df_has_entry_form : Df := ⟨fun K => He.ga K "has_entry_form", "has_entry_form", "has_entry_form", s_has_entry_form⟩
def df_check_pool : Df := ⟨fun K => He.ga K "check_pool", "check_pool", "check_pool", s_check_pool⟩
def df_is_naming : Df := ⟨fun K => He.ga K "is_naming", "is_naming", "is_naming", s_is_naming⟩
def df_goes_with_entry : Df := ⟨fun K => He.ga K "goes_with_entry", "goes_with_entry", "goes_with_entry", s_goes_with_entry⟩
def df_check_pooled : Df := ⟨fun K => He.ga K "check_pooled", "check_pooled", "check_pooled", s_check_pooled⟩
def df_unpooled : Df := ⟨fun K => He.ga K "unpooled", "unpooled", "unpooled", s_unpooled⟩
def df__law_taken : Df := ⟨fun K => He.ga K "_law_taken", "_law_taken", "_law_taken", s__law_taken⟩
def df__law_pick : Df := ⟨fun K => He.ga K "_law_pick", "_law_pick", "_law_pick", s__law_pick⟩
def df__law_alike : Df := ⟨fun K => He.ga K "_law_alike", "_law_alike", "_law_alike", s__law_alike⟩
def df__law_told : Df := ⟨fun K => He.ga K "_law_told", "_law_told", "_law_told", s__law_told⟩
def df__law_due : Df := ⟨fun K => He.ga K "_law_due", "_law_due", "_law_due", s__law_due⟩
def df_law : Df := ⟨fun K => He.ga K "law", "law", "law", s_law⟩
def fs : List Df := [df_is_word, df_is_number, df_is_tuple, df_has_entry_form, df_check_pool, df_is_naming, df_goes_with_entry, df_check_pooled, df_unpooled, df__law_taken, df__law_pick, df__law_alike, df__law_told, df__law_due, df_law]
def tt_NAMING : He.Tab := (fun K => He.ga K "NAMING", ["new", "cast", "is", "get", "put", "call"])
def fa : List He.Fa := [.glo "is_word", .glo "is_number", .glo "is_tuple", .glo "has_entry_form", .glo "check_pool", .glo "is_naming", .glo "goes_with_entry", .glo "check_pooled", .glo "unpooled", .glo "_law_taken", .glo "_law_pick", .glo "_law_alike", .glo "_law_told", .glo "_law_due", .glo "law", .glo "NAMING", .free "len", .free "int", .free "str", .free "tuple", .free "list", .free "dict", .free "bool", .free "isinstance", .free "all", .free "any", .free "range", .free "enumerate", .free "zip", .free "reversed", .free "sorted", .free "super", .glo "BadPool", .glo "BadPooled"]
def ts : List He.Tab := [tt_NAMING]
def exs : List (Fr → Bool) := [fun K => conK K "LETTERS" c_LETTERS, fun K => tabK K (He.ga K "NAMING") tb_NAMING, fun K => errC K (He.ga K "BadPool") (He.ma K (He.ga K "BadPool") "__init__") ["index"] && initB fileS K (He.ga K "BadPool") (He.ma K (He.ga K "BadPool") "__init__") ["index"], fun K => errC K (He.ga K "BadPooled") (He.ma K (He.ga K "BadPooled") "__init__") ["step"] && initB fileS K (He.ga K "BadPooled") (He.ma K (He.ga K "BadPooled") "__init__") ["step"], fun K => decide (PySem.W.exmOne K (.ref (He.ga K "BadPool")) (.ref (He.ga K "BadPool")) = some true), fun K => decide (PySem.W.exmOne K (.ref (He.ga K "BadPooled")) (.ref (He.ga K "BadPool")) = some false), fun K => decide (PySem.W.exmOne K (.ref (He.ga K "BadPool")) (.ref (He.ga K "BadPooled")) = some false), fun K => decide (PySem.W.exmOne K (.ref (He.ga K "BadPooled")) (.ref (He.ga K "BadPooled")) = some true)]
def ex (K : Fr) : Bool := exs.all fun e => e K
theorem exs_at {K : Fr} (h : ex K = true) (i : Nat) {e : Fr → Bool} (hi : exs[i]? = some e) : e K = true := List.all_eq_true.mp h e (List.mem_of_getElem? hi)
theorem all_txt {h : Heap} {mg : Str → Option Value} {w : World} {K : Fr} (X : K.In h) (G : h.Ns mainGlobals mg) (c : Told fa ts ex fs w K) : ∃ T : Txt K mg w, T.f_law = He.ga K "law" := by
  obtain ⟨d_is_word, F_is_word⟩ := c.df 0 (d := df_is_word) rfl
  obtain ⟨d_is_number, F_is_number⟩ := c.df 1 (d := df_is_number) rfl
  obtain ⟨d_is_tuple, F_is_tuple⟩ := c.df 2 (d := df_is_tuple) rfl
  obtain ⟨d_has_entry_form, F_has_entry_form⟩ := c.df 3 (d := df_has_entry_form) rfl
  obtain ⟨d_check_pool, F_check_pool⟩ := c.df 4 (d := df_check_pool) rfl
  obtain ⟨d_is_naming, F_is_naming⟩ := c.df 5 (d := df_is_naming) rfl
  obtain ⟨d_goes_with_entry, F_goes_with_entry⟩ := c.df 6 (d := df_goes_with_entry) rfl
  obtain ⟨d_check_pooled, F_check_pooled⟩ := c.df 7 (d := df_check_pooled) rfl
  obtain ⟨d_unpooled, F_unpooled⟩ := c.df 8 (d := df_unpooled) rfl
  obtain ⟨d__law_taken, F__law_taken⟩ := c.df 9 (d := df__law_taken) rfl
  obtain ⟨d__law_pick, F__law_pick⟩ := c.df 10 (d := df__law_pick) rfl
  obtain ⟨d__law_alike, F__law_alike⟩ := c.df 11 (d := df__law_alike) rfl
  obtain ⟨d__law_told, F__law_told⟩ := c.df 12 (d := df__law_told) rfl
  obtain ⟨d__law_due, F__law_due⟩ := c.df 13 (d := df__law_due) rfl
  obtain ⟨d_law, F_law⟩ := c.df 14 (d := df_law) rfl
  obtain ⟨u_LETTERS, v_LETTERS, m_LETTERS, r_LETTERS, k_LETTERS⟩ := conK_ok (x := "LETTERS") (w := c_LETTERS) X G (exs_at c.ex 0 (e := fun K => conK K "LETTERS" c_LETTERS) rfl)
  have tb0 := c.t.tab 0 (t := tt_NAMING) rfl
  exact ⟨{ f_is_word := He.ga K "is_word", d_is_word := d_is_word, F_is_word := F_is_word, b_is_word := F_is_word.binds (ps := ["value"]) (fun _ _ _ _ _ _ us hl => match us, hl with | [_], _ => rfl),
              m_is_word := He.glo_ok X G (c.t.d.fact 0 (f := .glo "is_word") rfl),
              f_is_number := He.ga K "is_number", d_is_number := d_is_number, F_is_number := F_is_number, b_is_number := F_is_number.binds (ps := ["value", "most"]) (fun _ _ _ _ _ _ us hl => match us, hl with | [_, _], _ => rfl),
              m_is_number := He.glo_ok X G (c.t.d.fact 1 (f := .glo "is_number") rfl),
              f_is_tuple := He.ga K "is_tuple", d_is_tuple := d_is_tuple, F_is_tuple := F_is_tuple, b_is_tuple := F_is_tuple.binds (ps := ["value", "least", "most"]) (fun _ _ _ _ _ _ us hl => match us, hl with | [_, _, _], _ => rfl),
              m_is_tuple := He.glo_ok X G (c.t.d.fact 2 (f := .glo "is_tuple") rfl),
              f_has_entry_form := He.ga K "has_entry_form", d_has_entry_form := d_has_entry_form, F_has_entry_form := F_has_entry_form, b_has_entry_form := F_has_entry_form.binds (ps := ["value"]) (fun _ _ _ _ _ _ us hl => match us, hl with | [_], _ => rfl),
              m_has_entry_form := He.glo_ok X G (c.t.d.fact 3 (f := .glo "has_entry_form") rfl),
              f_check_pool := He.ga K "check_pool", d_check_pool := d_check_pool, F_check_pool := F_check_pool, b_check_pool := F_check_pool.binds (ps := ["entries"]) (fun _ _ _ _ _ _ us hl => match us, hl with | [_], _ => rfl),
              m_check_pool := He.glo_ok X G (c.t.d.fact 4 (f := .glo "check_pool") rfl),
              f_is_naming := He.ga K "is_naming", d_is_naming := d_is_naming, F_is_naming := F_is_naming, b_is_naming := F_is_naming.binds (ps := ["step"]) (fun _ _ _ _ _ _ us hl => match us, hl with | [_], _ => rfl),
              m_is_naming := He.glo_ok X G (c.t.d.fact 5 (f := .glo "is_naming") rfl),
              f_goes_with_entry := He.ga K "goes_with_entry", d_goes_with_entry := d_goes_with_entry, F_goes_with_entry := F_goes_with_entry, b_goes_with_entry := F_goes_with_entry.binds (ps := ["entries", "step"]) (fun _ _ _ _ _ _ us hl => match us, hl with | [_, _], _ => rfl),
              m_goes_with_entry := He.glo_ok X G (c.t.d.fact 6 (f := .glo "goes_with_entry") rfl),
              f_check_pooled := He.ga K "check_pooled", d_check_pooled := d_check_pooled, F_check_pooled := F_check_pooled, b_check_pooled := F_check_pooled.binds (ps := ["entries", "code"]) (fun _ _ _ _ _ _ us hl => match us, hl with | [_, _], _ => rfl),
              m_check_pooled := He.glo_ok X G (c.t.d.fact 7 (f := .glo "check_pooled") rfl),
              f_unpooled := He.ga K "unpooled", d_unpooled := d_unpooled, F_unpooled := F_unpooled, b_unpooled := F_unpooled.binds (ps := ["pool", "code"]) (fun _ _ _ _ _ _ us hl => match us, hl with | [_, _], _ => rfl),
              m_unpooled := He.glo_ok X G (c.t.d.fact 8 (f := .glo "unpooled") rfl),
              f__law_taken := He.ga K "_law_taken", d__law_taken := d__law_taken, F__law_taken := F__law_taken, b__law_taken := F__law_taken.binds (ps := ["row", "many"]) (fun _ _ _ _ _ _ us hl => match us, hl with | [_, _], _ => rfl),
              m__law_taken := He.glo_ok X G (c.t.d.fact 9 (f := .glo "_law_taken") rfl),
              f__law_pick := He.ga K "_law_pick", d__law_pick := d__law_pick, F__law_pick := F__law_pick, b__law_pick := F__law_pick.binds (ps := ["row", "things"]) (fun _ _ _ _ _ _ us hl => match us, hl with | [_, _], _ => rfl),
              m__law_pick := He.glo_ok X G (c.t.d.fact 10 (f := .glo "_law_pick") rfl),
              f__law_alike := He.ga K "_law_alike", d__law_alike := d__law_alike, F__law_alike := F__law_alike, b__law_alike := F__law_alike.binds (ps := ["found", "due"]) (fun _ _ _ _ _ _ us hl => match us, hl with | [_, _], _ => rfl),
              m__law_alike := He.glo_ok X G (c.t.d.fact 11 (f := .glo "_law_alike") rfl),
              f__law_told := He.ga K "_law_told", d__law_told := d__law_told, F__law_told := F__law_told, b__law_told := F__law_told.binds (ps := ["entries", "code"]) (fun _ _ _ _ _ _ us hl => match us, hl with | [_, _], _ => rfl),
              m__law_told := He.glo_ok X G (c.t.d.fact 12 (f := .glo "_law_told") rfl),
              f__law_due := He.ga K "_law_due", d__law_due := d__law_due, F__law_due := F__law_due, b__law_due := F__law_due.binds (ps := ["entries", "code"]) (fun _ _ _ _ _ _ us hl => match us, hl with | [_, _], _ => rfl),
              m__law_due := He.glo_ok X G (c.t.d.fact 13 (f := .glo "_law_due") rfl),
              f_law := He.ga K "law", d_law := d_law, F_law := F_law, b_law := F_law.binds (ps := ["script"]) (fun _ _ _ _ _ _ us hl => match us, hl with | [_], _ => rfl),
              m_law := He.glo_ok X G (c.t.d.fact 14 (f := .glo "law") rfl),
              u_LETTERS := u_LETTERS, v_LETTERS := v_LETTERS, m_LETTERS := m_LETTERS, r_LETTERS := r_LETTERS, k_LETTERS := k_LETTERS,
              a_NAMING := He.ga K "NAMING", m_NAMING := He.glo_ok X G (c.t.d.fact 15 (f := .glo "NAMING") rfl), t_NAMING := tabK_ok tb0 (exs_at c.ex 1 (e := fun K => tabK K (He.ga K "NAMING") tb_NAMING) rfl),
              z_len := He.free_ok X G (c.t.d.fact 16 (f := .free "len") rfl),
              z_int := He.free_ok X G (c.t.d.fact 17 (f := .free "int") rfl),
              z_str := He.free_ok X G (c.t.d.fact 18 (f := .free "str") rfl),
              z_tuple := He.free_ok X G (c.t.d.fact 19 (f := .free "tuple") rfl),
              z_list := He.free_ok X G (c.t.d.fact 20 (f := .free "list") rfl),
              z_dict := He.free_ok X G (c.t.d.fact 21 (f := .free "dict") rfl),
              z_bool := He.free_ok X G (c.t.d.fact 22 (f := .free "bool") rfl),
              z_isinstance := He.free_ok X G (c.t.d.fact 23 (f := .free "isinstance") rfl),
              z_all := He.free_ok X G (c.t.d.fact 24 (f := .free "all") rfl),
              z_any := He.free_ok X G (c.t.d.fact 25 (f := .free "any") rfl),
              z_range := He.free_ok X G (c.t.d.fact 26 (f := .free "range") rfl),
              z_enumerate := He.free_ok X G (c.t.d.fact 27 (f := .free "enumerate") rfl),
              z_zip := He.free_ok X G (c.t.d.fact 28 (f := .free "zip") rfl),
              z_reversed := He.free_ok X G (c.t.d.fact 29 (f := .free "reversed") rfl),
              z_sorted := He.free_ok X G (c.t.d.fact 30 (f := .free "sorted") rfl),
              z_super := He.free_ok X G (c.t.d.fact 31 (f := .free "super") rfl),
              C_BadPool := (He.ga K "BadPool"), m_BadPool := He.glo_ok X G (c.t.d.fact 32 (f := .glo "BadPool") rfl), fi_BadPool := (He.ma K (He.ga K "BadPool") "__init__"), ef_BadPool := (exs_at c.ex 2 (e := fun K => errC K (He.ga K "BadPool") (He.ma K (He.ga K "BadPool") "__init__") ["index"] && initB fileS K (He.ga K "BadPool") (He.ma K (He.ga K "BadPool") "__init__") ["index"]) rfl),
              C_BadPooled := (He.ga K "BadPooled"), m_BadPooled := He.glo_ok X G (c.t.d.fact 33 (f := .glo "BadPooled") rfl), fi_BadPooled := (He.ma K (He.ga K "BadPooled") "__init__"), ef_BadPooled := (exs_at c.ex 3 (e := fun K => errC K (He.ga K "BadPooled") (He.ma K (He.ga K "BadPooled") "__init__") ["step"] && initB fileS K (He.ga K "BadPooled") (He.ma K (He.ga K "BadPooled") "__init__") ["step"]) rfl),
              x_BadPool_BadPool := (exs_at c.ex 4 (e := fun K => decide (PySem.W.exmOne K (.ref (He.ga K "BadPool")) (.ref (He.ga K "BadPool")) = some true)) rfl),
              x_BadPooled_BadPool := (exs_at c.ex 5 (e := fun K => decide (PySem.W.exmOne K (.ref (He.ga K "BadPooled")) (.ref (He.ga K "BadPool")) = some false)) rfl),
              x_BadPool_BadPooled := (exs_at c.ex 6 (e := fun K => decide (PySem.W.exmOne K (.ref (He.ga K "BadPool")) (.ref (He.ga K "BadPooled")) = some false)) rfl),
              x_BadPooled_BadPooled := (exs_at c.ex 7 (e := fun K => decide (PySem.W.exmOne K (.ref (He.ga K "BadPooled")) (.ref (He.ga K "BadPooled")) = some true)) rfl) }, rfl⟩
def nm0 : List PySem.Str := ["__name__", "ClassError", "BadPool", "BadPooled", "LETTERS", "is_word", "is_number", "is_tuple", "NAMING", "has_entry_form", "check_pool", "is_naming", "goes_with_entry", "check_pooled", "unpooled", "_law_taken", "_law_pick", "_law_alike", "_law_told", "_law_due"]
def tnames : List PySem.Str := nm0
abbrev R : PySem.W.OpenRow := PySem.W.OpenLaw.row PySem.Challenge.rw_classhouse_k38_whole_codes_with_names_ag
abbrev qv : Program := PySem.W.view R.prog [23]
def asL : List Addr := [2, 3, 6, 4, 24, 46, 67, 74, 81, 88, 89, 94, 101, 108, 115, 120, 125, 132, 139, 144, 151, 158, 163, 0, 23, 45, 66, 73, 80, 87, 93, 100, 107, 114, 119, 124, 131, 138, 143, 150, 157, 162, 22, 25, 43, 44, 64, 65, 70, 71, 72, 75, 76, 77, 78, 79, 82, 83, 84, 85, 86, 90, 91, 92, 95, 96, 97, 98, 99, 102, 103, 104, 105, 106, 109, 110, 111, 112, 113, 116, 117, 118, 121, 122, 123, 126, 127, 128, 129, 130, 133, 134, 135, 136, 137, 140, 141, 142, 145, 146, 147, 148, 149, 152, 153, 154, 155, 156, 159, 160, 161, 42, 31, 63, 52, 37, 38, 39, 40, 41, 58, 59, 60, 61, 62]
abbrev hk : PySem.W.Hook := hookL asL fa ts ex fs
def lk (s : PySem.W.SharedT) : MI.Seen := lookL asL fa ts ex fs s
theorem comb3 {α A B C : Type} {e : Option α} {x : α → A} {y : α → B} {z : α → C} {a : A} {b : B} {c : C} (h1 : e.map (fun s => (x s, y s)) = some (a, b)) (h2 : e.map z = some c) : e.map (fun s => (x s, y s, z s)) = some (a, b, c) := by
  cases e with
  | none => cases h1
  | some s =>
    have h1 : some (x s, y s) = some (a, b) := h1
    have h2 : some (z s) = some c := h2
    cases h1
    cases h2
    rfl
section
open HandSHeadRun PySem PySem.W PySem.Calls PyProof.Rows
theorem rb_false (w : World) (os : OsState) : (endF (stepQ (denQ tabQ) R.prog (w.withFollow "special-get-raises" false)) 5600 R.prog (w.withFollow "special-get-raises" false) os).map lk = some (hk.val (w.withFollow "special-get-raises" false)) := by
  kernel_rfl
theorem rb_true (w : World) (os : OsState) : (endF (stepQ (denQ tabQ) R.prog (w.withFollow "special-get-raises" true)) 5600 R.prog (w.withFollow "special-get-raises" true) os).map lk = some (hk.val (w.withFollow "special-get-raises" true)) := by
  kernel_rfl
theorem ra_false (w : World) (os : OsState) : (endF (stepQ (denQ tabQ) R.prog (w.withFollow "special-get-raises" false)) 5600 R.prog (w.withFollow "special-get-raises" false) os).map (fun s => (looksF R.prog (boot_heap (w.withFollow "special-get-raises" false).params) s.abs, seenQ qv tnames (importedModules R.prog.main.body) (fun s => xlAt qv [] s && recOk R.toRowW.records s) s.abs)) = some (true, openGood qv tnames) := by
  kernel_rfl
theorem ra_true (w : World) (os : OsState) : (endF (stepQ (denQ tabQ) R.prog (w.withFollow "special-get-raises" true)) 5600 R.prog (w.withFollow "special-get-raises" true) os).map (fun s => (looksF R.prog (boot_heap (w.withFollow "special-get-raises" true).params) s.abs, seenQ qv tnames (importedModules R.prog.main.body) (fun s => xlAt qv [] s && recOk R.toRowW.records s) s.abs)) = some (true, openGood qv tnames) := by
  kernel_rfl
theorem run_false (w : World) : RunEq R qv hk lk 5600 tnames (w.withFollow "special-get-raises" false) := fun os => comb3 (ra_false w os) (rb_false w os)
theorem run_true (w : World) : RunEq R qv hk lk 5600 tnames (w.withFollow "special-get-raises" true) := fun os => comb3 (ra_true w os) (rb_true w os)
end
theorem run (w : World) : HandSHeadRun.RunEq R qv hk lk 5600 tnames w := PySem.W.byRow2 "special-get-raises" (P := fun w => HandSHeadRun.RunEq R qv hk lk 5600 tnames w) run_false run_true w
end K38
set_option Elab.async false
set_option linter.all false
set_option maxRecDepth 100000
set_option maxHeartbeats 1000000
namespace K38
open PySem PySem.Spec PyProof.Rows L2 MI
theorem nb_BadPool : NamesBind ["index"] := by
  intro a name qual body scope kV doc pm ct cdv an cc ha x us hl
  match a, us, ha, hl with
  | [⟨n0, _, _⟩, ⟨n1, _, _⟩], [u0], ha, _ =>
    injection ha with h0 ha
    injection ha with h1 ha
    simp only at h0 h1
    subst h0 h1
    rfl
theorem er_BadPool {w : World} {K : PySem.W.Frag} {mg : Str → Option Value} (T : Txt K mg w) : ErrF P K T.C_BadPool T.fi_BadPool ["index"] := errF_ok T.ef_BadPool nb_BadPool rfl (by rfl) (by decide) (by decide) (by decide) (by decide)
theorem nb_BadPooled : NamesBind ["step"] := by
  intro a name qual body scope kV doc pm ct cdv an cc ha x us hl
  match a, us, ha, hl with
  | [⟨n0, _, _⟩, ⟨n1, _, _⟩], [u0], ha, _ =>
    injection ha with h0 ha
    injection ha with h1 ha
    simp only at h0 h1
    subst h0 h1
    rfl
theorem er_BadPooled {w : World} {K : PySem.W.Frag} {mg : Str → Option Value} (T : Txt K mg w) : ErrF P K T.C_BadPooled T.fi_BadPooled ["step"] := errF_ok T.ef_BadPooled nb_BadPooled rfl (by rfl) (by decide) (by decide) (by decide) (by decide)
def ok_f_index : Str → Bool := fun c => (decide (c = "BadPool") || false)
theorem xo_index {w : World} {K : PySem.W.Frag} {mg : Str → Option Value} (T : Txt K mg w) : ∀ c C, (GG T).ct c = some C → ok_f_index c = true → XfC K C ∧ PySem.W.findIn K (.ref C) "index" = some none := fun c C h1 h2 => by
  unfold ok_f_index at h2
  simp only [Bool.or_eq_true, decide_eq_true_eq] at h2
  rcases h2 with z | z
  · subst z
    rw [ct_BadPool] at h1
    cases h1
    exact ⟨(er_BadPool T).xf, (er_BadPool T).no _ (by decide)⟩
  · cases z
def ok_f_step : Str → Bool := fun c => (decide (c = "BadPooled") || false)
theorem xo_step {w : World} {K : PySem.W.Frag} {mg : Str → Option Value} (T : Txt K mg w) : ∀ c C, (GG T).ct c = some C → ok_f_step c = true → XfC K C ∧ PySem.W.findIn K (.ref C) "step" = some none := fun c C h1 h2 => by
  unfold ok_f_step at h2
  simp only [Bool.or_eq_true, decide_eq_true_eq] at h2
  rcases h2 with z | z
  · subst z
    rw [ct_BadPooled] at h1
    cases h1
    exact ⟨(er_BadPooled T).xf, (er_BadPooled T).no _ (by decide)⟩
  · cases z
def tb_BadPool : Str → Option Bool := fun c => if c = "BadPool" then some true else if c = "BadPooled" then some false else none
theorem xt_BadPool {w : World} {K : PySem.W.Frag} {mg : Str → Option Value} (T : Txt K mg w) : ∀ (c : Str) (C : Addr) (b : Bool), (GG T).ct c = some C → tb_BadPool c = some b → PySem.W.exmOne K (.ref C) (.ref T.C_BadPool) = some b := fun c C b h1 h2 => by
  unfold tb_BadPool at h2
  by_cases z : c = "BadPool"
  · subst z
    rw [if_pos rfl] at h2
    cases h2
    rw [ct_BadPool] at h1
    cases h1
    exact exmB_ok T.x_BadPool_BadPool
  rw [if_neg z] at h2
  by_cases z : c = "BadPooled"
  · subst z
    rw [if_pos rfl] at h2
    cases h2
    rw [ct_BadPooled] at h1
    cases h1
    exact exmB_ok T.x_BadPooled_BadPool
  rw [if_neg z] at h2
  cases h2
def tb_BadPooled : Str → Option Bool := fun c => if c = "BadPool" then some false else if c = "BadPooled" then some true else none
theorem xt_BadPooled {w : World} {K : PySem.W.Frag} {mg : Str → Option Value} (T : Txt K mg w) : ∀ (c : Str) (C : Addr) (b : Bool), (GG T).ct c = some C → tb_BadPooled c = some b → PySem.W.exmOne K (.ref C) (.ref T.C_BadPooled) = some b := fun c C b h1 h2 => by
  unfold tb_BadPooled at h2
  by_cases z : c = "BadPool"
  · subst z
    rw [if_pos rfl] at h2
    cases h2
    rw [ct_BadPool] at h1
    cases h1
    exact exmB_ok T.x_BadPool_BadPooled
  rw [if_neg z] at h2
  by_cases z : c = "BadPooled"
  · subst z
    rw [if_pos rfl] at h2
    cases h2
    rw [ct_BadPooled] at h1
    cases h1
    exact exmB_ok T.x_BadPooled_BadPooled
  rw [if_neg z] at h2
  cases h2
def d_is_word : DenS :=
  (sSeq (sIf (bOr (bNot (bTru (dUn (fIsT "str") (dVar 0)))) (bNot (fun ρ S => ((dChain fLe fLe (dC (.int 1)) (dCall fLen (aCons (dVar 0) aNil)) (dC (.int 6))) ρ S).bind boolOf))) (sRet (dC (.bl false))) sNil)
  (sRet (dCall (fAllAny fun bs => bs.all id) (aCons (dLc 4096 (iAnyD (dVar 0)) (gN 1) bYes (dBin fIn (dVar 1) (dC c_LETTERS)) [1]) aNil))))
def D_is_word : FnM := mkFn (List.length (["value"] : List Str)) (List.length n_is_word) d_is_word
theorem ok_is_word {w : World} {K : PySem.W.Frag} {mg : Str → Option Value} {base : Heap} (T : Txt K mg w) : FnOk P w K mg base (L2.CX P w) 1 T.f_is_word T.d_is_word ["value"] (spF (GG T) D_is_word) :=
  fn_ok (N := n_is_word) (ps := ["value"]) (k := 0) (G := GG T) (body := d_is_word) T.F_is_word sc_is_word fun cdv A outer s H E hr => by
  unfold d_is_word
  exact (dss_cons (ds_if (dw_dt (dw_or (dt_not (dt_truth rfl (de_isT (T := "str") rfl (by rfl) T.z_isinstance (by rfl) T.z_str (by decide +kernel) kit_str (by decide) (by decide) (de_var 0)))) (dw_or1 (dt_not (dt_chain cmp_le cmp_le de_int (de_len rfl (by rfl) T.z_len (da_cons (de_var 0) da_nil)) de_int))))) (dss_one (ds_ret de_bl)) dss_nil)
    (dss_one (ds_ret (de_all rfl rfl (by rfl) T.z_all (da_cons (de_lc (f := 4096) (own := [("letter", 1)]) rfl sc_is_word.nd (di_any rfl (de_var 0)) (blkOk_by (own := [("letter", 1)]) (N := n_is_word) (sc := defScope s_is_word) (by decide +kernel)) (fun _ _ _ _ _ => (dg_name 1 sc_is_word.nd)) (fun _ _ _ _ _ => dts_nil) (fun _ _ _ _ _ => (de_cmp' (cmp_in rfl) (de_var 1) (de_glob (by rfl) T.m_LETTERS T.r_LETTERS (T.k_LETTERS _ _ _)) (by rfl)))) da_nil)))))
def d_is_number : DenS :=
  (sRet (dAnd (dUn (fIsT "int") (dVar 0)) (dAnd (dNot (dUn (fIsT "bool") (dVar 0))) (dChain fLe fLe (dC (.int 0)) (dVar 0) (dVar 1)))))
def D_is_number : FnM := mkFn (List.length (["value", "most"] : List Str)) (List.length n_is_number) d_is_number
theorem ok_is_number {w : World} {K : PySem.W.Frag} {mg : Str → Option Value} {base : Heap} (T : Txt K mg w) : FnOk P w K mg base (L2.CX P w) 1 T.f_is_number T.d_is_number ["value", "most"] (spF (GG T) D_is_number) :=
  fn_ok (N := n_is_number) (ps := ["value", "most"]) (k := 0) (G := GG T) (body := d_is_number) T.F_is_number sc_is_number fun cdv A outer s H E hr => by
  unfold d_is_number
  exact (dss_one (ds_ret (de_and (de_isT (T := "int") rfl (by rfl) T.z_isinstance (by rfl) T.z_int (by decide +kernel) kit_int (by decide) (by decide) (de_var 0)) (de_and (de_not (de_isT (T := "bool") rfl (by rfl) T.z_isinstance (by rfl) T.z_bool (by decide +kernel) kit_bool (by decide) (by decide) (de_var 0))) (de_one (de_chain cmp_le cmp_le de_int (de_var 0) (de_var 1)))))))
def d_is_tuple : DenS :=
  (sRet (dAnd (dUn (fIsT "tuple") (dVar 0)) (dChain fLe fLe (dVar 1) (dCall fLen (aCons (dVar 0) aNil)) (dVar 2))))
def D_is_tuple : FnM := mkFn (List.length (["value", "least", "most"] : List Str)) (List.length n_is_tuple) d_is_tuple
theorem ok_is_tuple {w : World} {K : PySem.W.Frag} {mg : Str → Option Value} {base : Heap} (T : Txt K mg w) : FnOk P w K mg base (L2.CX P w) 1 T.f_is_tuple T.d_is_tuple ["value", "least", "most"] (spF (GG T) D_is_tuple) :=
  fn_ok (N := n_is_tuple) (ps := ["value", "least", "most"]) (k := 0) (G := GG T) (body := d_is_tuple) T.F_is_tuple sc_is_tuple fun cdv A outer s H E hr => by
  unfold d_is_tuple
  exact (dss_one (ds_ret (de_and (de_isT (T := "tuple") rfl (by rfl) T.z_isinstance (by rfl) T.z_tuple (by decide +kernel) kit_tuple (by decide) (by decide) (de_var 0)) (de_one (de_chain cmp_le cmp_le (de_var 1) (de_len rfl (by rfl) T.z_len (da_cons (de_var 0) da_nil)) (de_var 2))))))
def d_has_entry_form : DenS :=
  (sSeq (sIf (bOr (bNot (bTru (dCall D_is_tuple (aCons (dVar 0) (aCons (dC (.int 2)) (aCons (dC (.int 3)) aNil)))))) (bNot (bTru (dCall (fAllAny fun bs => bs.all id) (aCons (dLc 4096 (iAnyD (dSl (dVar 0) (oSome (dC (.int 1))) oNone)) (gN 1) bYes (dCall D_is_word (aCons (dVar 1) aNil)) [1]) aNil))))) (sRet (dC (.bl false))) sNil)
  (sRet (dIf (bCmp fEq (dCall fLen (aCons (dVar 0) aNil)) (dC (.int 2))) (dBin fEq (dBin fIx (dVar 0) (dC (.int 0))) (dC (.str "class"))) (dBin fIn (dBin fIx (dVar 0) (dC (.int 0))) (dTup (aCons (dC (.str "field")) (aCons (dC (.str "method")) aNil)))))))
def D_has_entry_form : FnM := mkFn (List.length (["value"] : List Str)) (List.length n_has_entry_form) d_has_entry_form
theorem ok_has_entry_form {w : World} {K : PySem.W.Frag} {mg : Str → Option Value} {base : Heap} (T : Txt K mg w) : FnOk P w K mg base (L2.CX P w) 2 T.f_has_entry_form T.d_has_entry_form ["value"] (spF (GG T) D_has_entry_form) :=
  fn_ok (N := n_has_entry_form) (ps := ["value"]) (k := 1) (G := GG T) (body := d_has_entry_form) T.F_has_entry_form sc_has_entry_form fun cdv A outer s H E hr => by
  unfold d_has_entry_form
  exact (dss_cons (ds_if (dw_dt (dw_or (dt_not (dt_truth rfl (de_call (takes_of rfl rfl rfl rfl) (ok_is_tuple T) (hr.mono (by decide)) (by rfl) T.m_is_tuple T.F_is_tuple.kp T.b_is_tuple (da_cons (de_var 0) (da_cons de_int (da_cons de_int da_nil)))))) (dw_or1 (dt_not (dt_truth rfl (de_all rfl rfl (by rfl) T.z_all (da_cons (de_lc (f := 4096) (own := [("part", 1)]) rfl sc_has_entry_form.nd (di_any rfl (de_sl rfl (de_var 0) (do_some de_int) do_none)) (blkOk_by (own := [("part", 1)]) (N := n_has_entry_form) (sc := defScope s_has_entry_form) (by decide +kernel)) (fun _ _ _ _ _ => (dg_name 1 sc_has_entry_form.nd)) (fun _ _ _ _ _ => dts_nil) (fun _ _ _ _ _ => (de_call takes0 (ok_is_word T) (hr.mono (by decide)) (by rfl) T.m_is_word T.F_is_word.kp T.b_is_word (da_cons (de_var 1) da_nil)))) da_nil))))))) (dss_one (ds_ret de_bl)) dss_nil)
    (dss_one (ds_ret (de_if (dt_cmp (cmp_eq rfl hr.units) (de_len rfl (by rfl) T.z_len (da_cons (de_var 0) da_nil)) de_int (nomark _)) (de_cmp' (cmp_eq rfl hr.units) (de_ix rfl hr.units (de_var 0) de_int) de_str (nomark _)) (de_cmp' (cmp_in rfl) (de_ix rfl hr.units (de_var 0) de_int) (de_tup (da_cons de_str (da_cons de_str da_nil))) (by rfl))))))
def d_check_pool : DenS :=
  (sSeq (sIf (bNot (bTru (dCall D_is_tuple (aCons (dVar 0) (aCons (dC (.int 0)) (aCons (dC (.int 99)) aNil)))))) (sRaiseF "BadPool" ["index"] (aCons (dC .non) aNil)) sNil)
  (sFor 4096 (iRng enumOf (aCons (dVar 0) aNil)) (gT (gsCons (gN 1) (gsCons (gN 2) gsNil))) (sIf (bNot (bTru (dCall D_has_entry_form (aCons (dVar 2) aNil)))) (sRaiseF "BadPool" ["index"] (aCons (dVar 1) aNil)) sNil)))
def D_check_pool : FnM := mkFn (List.length (["entries"] : List Str)) (List.length n_check_pool) d_check_pool
theorem ok_check_pool {w : World} {K : PySem.W.Frag} {mg : Str → Option Value} {base : Heap} (T : Txt K mg w) : FnOk P w K mg base (L2.CX P w) 3 T.f_check_pool T.d_check_pool ["entries"] (spF (GG T) D_check_pool) :=
  fn_ok (N := n_check_pool) (ps := ["entries"]) (k := 2) (G := GG T) (body := d_check_pool) T.F_check_pool sc_check_pool fun cdv A outer s H E hr => by
  unfold d_check_pool
  exact (dss_cons (ds_if (dt_not (dt_truth rfl (de_call (takes_of rfl rfl rfl rfl) (ok_is_tuple T) (hr.mono (by decide)) (by rfl) T.m_is_tuple T.F_is_tuple.kp T.b_is_tuple (da_cons (de_var 0) (da_cons de_int (da_cons de_int da_nil)))))) (dss_one (ds_raiseF (k := 0) rfl (takes_of rfl rfl rfl rfl) (er_BadPool T).O (er_BadPool T).T (er_BadPool T).iC (er_BadPool T).tI T.z_super (hr.mono (by decide)) (da_cons de_non da_nil) (by rfl) T.m_BadPool (ct_BadPool T))) dss_nil)
    (dss_one (ds_for (f := 4096) (passes_of rfl) rfl (di_enum rfl (by rfl) T.z_enumerate (da_cons (de_var 0) da_nil)) (dg_tup rfl rfl (dgs_cons (dg_name 1 sc_check_pool.nd) (dgs_cons (dg_name 2 sc_check_pool.nd) dgs_nil)) (gs_len (gs_len gs_len0))) (dss_one (ds_if (dt_not (dt_truth rfl (de_call (takes_of rfl rfl rfl rfl) (ok_has_entry_form T) (hr.mono (by decide)) (by rfl) T.m_has_entry_form T.F_has_entry_form.kp T.b_has_entry_form (da_cons (de_var 2) da_nil)))) (dss_one (ds_raiseF (k := 0) rfl (takes_of rfl rfl rfl rfl) (er_BadPool T).O (er_BadPool T).T (er_BadPool T).iC (er_BadPool T).tI T.z_super (hr.mono (by decide)) (da_cons (de_var 1) da_nil) (by rfl) T.m_BadPool (ct_BadPool T))) dss_nil)))))
def d_is_naming : DenS :=
  (sRet (dAnd (dBin fGt (dCall fLen (aCons (dVar 0) aNil)) (dC (.int 0))) (dAnd (dUn (fIsT "str") (dBin fIx (dVar 0) (dC (.int 0)))) (dUn (fInK tb_NAMING) (dBin fIx (dVar 0) (dC (.int 0)))))))
def D_is_naming : FnM := mkFn (List.length (["step"] : List Str)) (List.length n_is_naming) d_is_naming
theorem ok_is_naming {w : World} {K : PySem.W.Frag} {mg : Str → Option Value} {base : Heap} (T : Txt K mg w) : FnOk P w K mg base (L2.CX P w) 1 T.f_is_naming T.d_is_naming ["step"] (spF (GG T) D_is_naming) :=
  fn_ok (N := n_is_naming) (ps := ["step"]) (k := 0) (G := GG T) (body := d_is_naming) T.F_is_naming sc_is_naming fun cdv A outer s H E hr => by
  unfold d_is_naming
  exact (dss_one (ds_ret (de_and (de_cmp' cmp_gt (de_len rfl (by rfl) T.z_len (da_cons (de_var 0) da_nil)) de_int (nomark _)) (de_and (de_isT (T := "str") rfl (by rfl) T.z_isinstance (by rfl) T.z_str (by decide +kernel) kit_str (by decide) (by decide) (de_ix rfl hr.units (de_var 0) de_int)) (de_one (de_inK rfl (T.t_NAMING _ _ _) (by rfl) T.m_NAMING (de_ix rfl hr.units (de_var 0) de_int)))))))
def d_goes_with_entry : DenS :=
  (sSeq (sIf (bOr (bCmp fNe (dCall fLen (aCons (dVar 1) aNil)) (dC (.int 2))) (bNot (bTru (dCall D_is_number (aCons (dBin fIx (dVar 1) (dC (.int 1))) (aCons (dBin fSub (dCall fLen (aCons (dVar 0) aNil)) (dC (.int 1))) aNil)))))) (sRet (dC (.bl false))) sNil)
  (sRet (dBin fEq (dBin fIx (dBin fIx (dVar 0) (dBin fIx (dVar 1) (dC (.int 1)))) (dC (.int 0))) (dUn (fIxK tb_NAMING) (dBin fIx (dVar 1) (dC (.int 0)))))))
def D_goes_with_entry : FnM := mkFn (List.length (["entries", "step"] : List Str)) (List.length n_goes_with_entry) d_goes_with_entry
theorem ok_goes_with_entry {w : World} {K : PySem.W.Frag} {mg : Str → Option Value} {base : Heap} (T : Txt K mg w) : FnOk P w K mg base (L2.CX P w) 2 T.f_goes_with_entry T.d_goes_with_entry ["entries", "step"] (spF (GG T) D_goes_with_entry) :=
  fn_ok (N := n_goes_with_entry) (ps := ["entries", "step"]) (k := 1) (G := GG T) (body := d_goes_with_entry) T.F_goes_with_entry sc_goes_with_entry fun cdv A outer s H E hr => by
  unfold d_goes_with_entry
  exact (dss_cons (ds_if (dw_dt (dw_or (dt_cmp (cmp_ne rfl hr.units) (de_len rfl (by rfl) T.z_len (da_cons (de_var 1) da_nil)) de_int (nomark _)) (dw_or1 (dt_not (dt_truth rfl (de_call (takes_of rfl rfl rfl rfl) (ok_is_number T) (hr.mono (by decide)) (by rfl) T.m_is_number T.F_is_number.kp T.b_is_number (da_cons (de_ix rfl hr.units (de_var 1) de_int) (da_cons (de_sub (de_len rfl (by rfl) T.z_len (da_cons (de_var 0) da_nil)) de_int) da_nil)))))))) (dss_one (ds_ret de_bl)) dss_nil)
    (dss_one (ds_ret (de_cmp' (cmp_eq rfl hr.units) (de_ix rfl hr.units (de_ix rfl hr.units (de_var 0) (de_ix rfl hr.units (de_var 1) de_int)) de_int) (de_ixK rfl (T.t_NAMING _ _ _) (by rfl) T.m_NAMING (de_ix rfl hr.units (de_var 1) de_int)) (nomark _)))))
def d_check_pooled : DenS :=
  (sSeq (sIf (bOr (bNot (bTru (dCall D_is_tuple (aCons (dVar 1) (aCons (dC (.int 0)) (aCons (dC (.int 20)) aNil)))))) (bNot (bTru (dCall (fAllAny fun bs => bs.all id) (aCons (dLc 4096 (iAnyD (dVar 1)) (gN 3) bYes (dUn (fIsT "tuple") (dVar 3)) [3]) aNil))))) (sRaiseF "BadPooled" ["step"] (aCons (dC .non) aNil)) sNil)
  (sFor 4096 (iRng enumOf (aCons (dVar 1) aNil)) (gT (gsCons (gN 2) (gsCons (gN 3) gsNil))) (sIf (bAnd (bTru (dCall D_is_naming (aCons (dVar 3) aNil))) (bNot (bTru (dCall D_goes_with_entry (aCons (dVar 0) (aCons (dVar 3) aNil)))))) (sRaiseF "BadPooled" ["step"] (aCons (dVar 2) aNil)) sNil)))
def D_check_pooled : FnM := mkFn (List.length (["entries", "code"] : List Str)) (List.length n_check_pooled) d_check_pooled
theorem ok_check_pooled {w : World} {K : PySem.W.Frag} {mg : Str → Option Value} {base : Heap} (T : Txt K mg w) : FnOk P w K mg base (L2.CX P w) 3 T.f_check_pooled T.d_check_pooled ["entries", "code"] (spF (GG T) D_check_pooled) :=
  fn_ok (N := n_check_pooled) (ps := ["entries", "code"]) (k := 2) (G := GG T) (body := d_check_pooled) T.F_check_pooled sc_check_pooled fun cdv A outer s H E hr => by
  unfold d_check_pooled
  exact (dss_cons (ds_if (dw_dt (dw_or (dt_not (dt_truth rfl (de_call (takes_of rfl rfl rfl rfl) (ok_is_tuple T) (hr.mono (by decide)) (by rfl) T.m_is_tuple T.F_is_tuple.kp T.b_is_tuple (da_cons (de_var 1) (da_cons de_int (da_cons de_int da_nil)))))) (dw_or1 (dt_not (dt_truth rfl (de_all rfl rfl (by rfl) T.z_all (da_cons (de_lc (f := 4096) (own := [("step", 3)]) rfl sc_check_pooled.nd (di_any rfl (de_var 1)) (blkOk_by (own := [("step", 3)]) (N := n_check_pooled) (sc := defScope s_check_pooled) (by decide +kernel)) (fun _ _ _ _ _ => (dg_name 3 sc_check_pooled.nd)) (fun _ _ _ _ _ => dts_nil) (fun _ _ _ _ _ => (de_isT (T := "tuple") rfl (by rfl) T.z_isinstance (by rfl) T.z_tuple (by decide +kernel) kit_tuple (by decide) (by decide) (de_var 3)))) da_nil))))))) (dss_one (ds_raiseF (k := 0) rfl (takes_of rfl rfl rfl rfl) (er_BadPooled T).O (er_BadPooled T).T (er_BadPooled T).iC (er_BadPooled T).tI T.z_super (hr.mono (by decide)) (da_cons de_non da_nil) (by rfl) T.m_BadPooled (ct_BadPooled T))) dss_nil)
    (dss_one (ds_for (f := 4096) (passes_of rfl) rfl (di_enum rfl (by rfl) T.z_enumerate (da_cons (de_var 1) da_nil)) (dg_tup rfl rfl (dgs_cons (dg_name 2 sc_check_pooled.nd) (dgs_cons (dg_name 3 sc_check_pooled.nd) dgs_nil)) (gs_len (gs_len gs_len0))) (dss_one (ds_if (dw_dt (dw_and (dt_truth rfl (de_call (takes_of rfl rfl rfl rfl) (ok_is_naming T) (hr.mono (by decide)) (by rfl) T.m_is_naming T.F_is_naming.kp T.b_is_naming (da_cons (de_var 3) da_nil))) (dw_and1 (dt_not (dt_truth rfl (de_call (takes_of rfl rfl rfl rfl) (ok_goes_with_entry T) (hr.mono (by decide)) (by rfl) T.m_goes_with_entry T.F_goes_with_entry.kp T.b_goes_with_entry (da_cons (de_var 0) (da_cons (de_var 3) da_nil)))))))) (dss_one (ds_raiseF (k := 0) rfl (takes_of rfl rfl rfl rfl) (er_BadPooled T).O (er_BadPooled T).T (er_BadPooled T).iC (er_BadPooled T).tI T.z_super (hr.mono (by decide)) (da_cons (de_var 2) da_nil) (by rfl) T.m_BadPooled (ct_BadPooled T))) dss_nil)))))
def d_unpooled : DenS :=
  (sSeq (sExpr (dCall D_check_pool (aCons (dVar 0) aNil)))
  (sSeq (sExpr (dCall D_check_pooled (aCons (dVar 0) (aCons (dVar 1) aNil))))
  (sRet (dUn fTupOf (dLc 4096 (iAnyD (dVar 1)) (gN 2) bYes (dIf (bTru (dCall D_is_naming (aCons (dVar 2) aNil))) (dTup (aCons (dBin fIx (dVar 2) (dC (.int 0))) (aStar (dSl (dBin fIx (dVar 0) (dBin fIx (dVar 2) (dC (.int 1)))) (oSome (dC (.int 1))) oNone) aNil))) (dVar 2)) [2])))))
def D_unpooled : FnM := mkFn (List.length (["pool", "code"] : List Str)) (List.length n_unpooled) d_unpooled
theorem ok_unpooled {w : World} {K : PySem.W.Frag} {mg : Str → Option Value} {base : Heap} (T : Txt K mg w) : FnOk P w K mg base (L2.CX P w) 4 T.f_unpooled T.d_unpooled ["pool", "code"] (spF (GG T) D_unpooled) :=
  fn_ok (N := n_unpooled) (ps := ["pool", "code"]) (k := 3) (G := GG T) (body := d_unpooled) T.F_unpooled sc_unpooled fun cdv A outer s H E hr => by
  unfold d_unpooled
  exact (dss_cons (ds_expr (de_call (takes_of rfl rfl rfl rfl) (ok_check_pool T) (hr.mono (by decide)) (by rfl) T.m_check_pool T.F_check_pool.kp T.b_check_pool (da_cons (de_var 0) da_nil)))
    (dss_cons (ds_expr (de_call (takes_of rfl rfl rfl rfl) (ok_check_pooled T) (hr.mono (by decide)) (by rfl) T.m_check_pooled T.F_check_pooled.kp T.b_check_pooled (da_cons (de_var 0) (da_cons (de_var 1) da_nil))))
    (dss_one (ds_ret (de_tupOf rfl (by rfl) T.z_tuple (de_lc (f := 4096) (own := [("step", 2)]) rfl sc_unpooled.nd (di_any rfl (de_var 1)) (blkOk_by (own := [("step", 2)]) (N := n_unpooled) (sc := defScope s_unpooled) (by decide +kernel)) (fun _ _ _ _ _ => (dg_name 2 sc_unpooled.nd)) (fun _ _ _ _ _ => dts_nil) (fun _ _ _ _ _ => (de_if (dt_truth rfl (de_call takes0 (ok_is_naming T) (hr.mono (by decide)) (by rfl) T.m_is_naming T.F_is_naming.kp T.b_is_naming (da_cons (de_var 2) da_nil))) (de_tup (da_cons (de_ix rfl hr.units (de_var 2) de_int) (da_star rfl (de_sl rfl (de_ix rfl hr.units (de_var 0) (de_ix rfl hr.units (de_var 2) de_int)) (do_some de_int) do_none) da_nil))) (de_var 2)))))))))
def d__law_taken : DenS :=
  (sSeq (sIf (bCmp fGt (dBin fIx (dVar 0) (dC (.int 3))) (dC (.int 0))) (sSeq (sAsg (dBin fMod (dCall fIntOf (aCons (dBin fIx (dVar 0) (dC (.int 3))) aNil)) (dVar 1)) (gN 3))
  (sSeq (sAsg (dBin fDiv (dBin fIx (dVar 0) (dC (.int 3))) (dVar 1)) (gS (dVar 0) (dC (.int 3))))
  (sRet (dVar 3)))) sNil)
  (sSeq (sAsg (dBin fAdd (dBin fIx (dVar 0) (dC (.int 1))) (dC (.int 1))) (gS (dVar 0) (dC (.int 1))))
  (sSeq (sIf (bCmp fGt (dBin fIx (dVar 0) (dC (.int 1))) (dCall fLen (aCons (dBin fIx (dVar 0) (dC (.int 0))) aNil))) (sSeq (sAsg (dBin fMod (dCall fIntOf (aCons (dBin fAdd (dBin fMul (dBin fIx (dVar 0) (dC (.int 2))) (dC (.int 48271))) (dC (.int 11))) aNil)) (dC (.int 2147483647))) (gS (dVar 0) (dC (.int 2))))
  (sRet (dBin fMod (dCall fIntOf (aCons (dBin fDiv (dBin fIx (dVar 0) (dC (.int 2))) (dC (.int 7))) aNil)) (dVar 1)))) sNil)
  (sSeq (sAsg (dBin fIx (dBin fIx (dVar 0) (dC (.int 0))) (dBin fSub (dBin fIx (dVar 0) (dC (.int 1))) (dC (.int 1)))) (gN 2))
  (sSeq (sAsg (dBin fMod (dCall fIntOf (aCons (dBin fAdd (dBin fAdd (dBin fMul (dBin fIx (dVar 0) (dC (.int 2))) (dC (.int 48271))) (dVar 2)) (dC (.int 11))) aNil)) (dC (.int 2147483647))) (gS (dVar 0) (dC (.int 2))))
  (sSeq (sIf (bCmp fGe (dVar 2) (dBin fPow (dC (.int 10)) (dC (.int 18)))) (sAsg (dBin fDiv (dVar 2) (dVar 1)) (gS (dVar 0) (dC (.int 3)))) sNil)
  (sRet (dBin fMod (dCall fIntOf (aCons (dVar 2) aNil)) (dVar 1)))))))))
def D__law_taken : FnM := mkFn (List.length (["row", "many"] : List Str)) (List.length n__law_taken) d__law_taken
theorem ok__law_taken {w : World} {K : PySem.W.Frag} {mg : Str → Option Value} {base : Heap} (T : Txt K mg w) : FnOk P w K mg base (L2.CX P w) 1 T.f__law_taken T.d__law_taken ["row", "many"] (spF (GG T) D__law_taken) :=
  fn_ok (N := n__law_taken) (ps := ["row", "many"]) (k := 0) (G := GG T) (body := d__law_taken) T.F__law_taken sc__law_taken fun cdv A outer s H E hr => by
  unfold d__law_taken
  exact (dss_cons (ds_if (dt_cmp cmp_gt (de_ix rfl hr.units (de_var 0) de_int) de_int (nomark _)) (dss_cons (ds_set 3 sc__law_taken.nd (de_mod (de_intOf (by rfl) T.z_int (da_cons (de_ix rfl hr.units (de_var 0) de_int) da_nil)) (de_var 1)))
    (dss_cons (ds_asg (de_div (de_ix rfl hr.units (de_var 0) de_int) (de_var 1)) (dg_sub (W := fun _ _ _ _ => False) hr.units (de_var 0) de_int))
    (dss_one (ds_ret (de_var 3))))) dss_nil)
    (dss_cons (ds_asg (de_add rfl (de_ix rfl hr.units (de_var 0) de_int) de_int) (dg_sub (W := fun _ _ _ _ => False) hr.units (de_var 0) de_int))
    (dss_cons (ds_if (dt_cmp cmp_gt (de_ix rfl hr.units (de_var 0) de_int) (de_len rfl (by rfl) T.z_len (da_cons (de_ix rfl hr.units (de_var 0) de_int) da_nil)) (nomark _)) (dss_cons (ds_asg (de_mod (de_intOf (by rfl) T.z_int (da_cons (de_add rfl (de_mul rfl (de_ix rfl hr.units (de_var 0) de_int) de_int) de_int) da_nil)) de_int) (dg_sub (W := fun _ _ _ _ => False) hr.units (de_var 0) de_int))
    (dss_one (ds_ret (de_mod (de_intOf (by rfl) T.z_int (da_cons (de_div (de_ix rfl hr.units (de_var 0) de_int) de_int) da_nil)) (de_var 1))))) dss_nil)
    (dss_cons (ds_set 2 sc__law_taken.nd (de_ix rfl hr.units (de_ix rfl hr.units (de_var 0) de_int) (de_sub (de_ix rfl hr.units (de_var 0) de_int) de_int)))
    (dss_cons (ds_asg (de_mod (de_intOf (by rfl) T.z_int (da_cons (de_add rfl (de_add rfl (de_mul rfl (de_ix rfl hr.units (de_var 0) de_int) de_int) (de_var 2)) de_int) da_nil)) de_int) (dg_sub (W := fun _ _ _ _ => False) hr.units (de_var 0) de_int))
    (dss_cons (ds_if (dt_cmp cmp_ge (de_var 2) (de_pow de_int de_int) (nomark _)) (dss_one (ds_asg (de_div (de_var 2) (de_var 1)) (dg_sub (W := fun _ _ _ _ => False) hr.units (de_var 0) de_int))) dss_nil)
    (dss_one (ds_ret (de_mod (de_intOf (by rfl) T.z_int (da_cons (de_var 2) da_nil)) (de_var 1))))))))))
def d__law_pick : DenS :=
  (sRet (dBin fIx (dVar 1) (dCall D__law_taken (aCons (dVar 0) (aCons (dCall fLen (aCons (dVar 1) aNil)) aNil)))))
def D__law_pick : FnM := mkFn (List.length (["row", "things"] : List Str)) (List.length n__law_pick) d__law_pick
theorem ok__law_pick {w : World} {K : PySem.W.Frag} {mg : Str → Option Value} {base : Heap} (T : Txt K mg w) : FnOk P w K mg base (L2.CX P w) 2 T.f__law_pick T.d__law_pick ["row", "things"] (spF (GG T) D__law_pick) :=
  fn_ok (N := n__law_pick) (ps := ["row", "things"]) (k := 1) (G := GG T) (body := d__law_pick) T.F__law_pick sc__law_pick fun cdv A outer s H E hr => by
  unfold d__law_pick
  exact (dss_one (ds_ret (de_ix rfl hr.units (de_var 1) (de_call (takes_of rfl rfl rfl rfl) (ok__law_taken T) (hr.mono (by decide)) (by rfl) T.m__law_taken T.F__law_taken.kp T.b__law_taken (da_cons (de_var 0) (da_cons (de_len rfl (by rfl) T.z_len (da_cons (de_var 1) da_nil)) da_nil))))))
def d__law_alike (R : FnM) : DenS :=
  (sSeq (sIf (bTru (dUn (fIsT2 "tuple" "list") (dVar 1))) (sSeq (sIf (bOr (bNot (bTru (dUn (fIsT2 "tuple" "list") (dVar 0)))) (bCmp fNe (dUn (fIsT "list") (dVar 0)) (dUn (fIsT "list") (dVar 1)))) (sRet (dC (.bl false))) sNil)
  (sSeq (sIf (bCmp fNe (dCall fLen (aCons (dVar 0) aNil)) (dCall fLen (aCons (dVar 1) aNil))) (sRet (dC (.bl false))) sNil)
  (sRet (dBin fEq (dLc 4096 (iRng rng1 (aCons (dCall fLen (aCons (dVar 1) aNil)) aNil)) (gN 2) (bNot (bTru (dCall R (aCons (dBin fIx (dVar 0) (dVar 2)) (aCons (dBin fIx (dVar 1) (dVar 2)) aNil))))) (dVar 2) [2]) (dLst aNil))))) sNil)
  (sSeq (sIf (bOr (bCmp fIs (dVar 1) (dC .non)) (bTru (dUn (fIsT "str") (dVar 1)))) (sRet (dAnd (dBin fEq (dVar 0) (dVar 1)) (dBin fEq (dUn (fIsT "str") (dVar 0)) (dUn (fIsT "str") (dVar 1))))) sNil)
  (sRet (dAnd (dUn (fIsT "int") (dVar 0)) (dAnd (dBin fEq (dUn (fIsT "bool") (dVar 0)) (dUn (fIsT "bool") (dVar 1))) (dBin fEq (dVar 0) (dVar 1)))))))
def R__law_alike : Nat → FnM
  | 0 => fun _ _ => .stuck
  | n + 1 => mkFn (List.length (["found", "due"] : List Str)) (List.length n__law_alike) (d__law_alike (R__law_alike n))
theorem rk__law_alike {w : World} {K : PySem.W.Frag} {mg : Str → Option Value} {base : Heap} (T : Txt K mg w) : ∀ n : Nat, FnOk P w K mg base (L2.CX P w) (n + 1) T.f__law_alike T.d__law_alike ["found", "due"] (spF (GG T) (R__law_alike n))
  | 0 => fn_stuck
  | n + 1 => by
    have ih := rk__law_alike (base := base) T n
    rw [show R__law_alike (n + 1) = mkFn (List.length (["found", "due"] : List Str)) (List.length n__law_alike) (d__law_alike (R__law_alike n)) from rfl]
    refine fn_ok (N := n__law_alike) (ps := ["found", "due"]) (k := n + 1) (G := GG T) (body := d__law_alike (R__law_alike n)) T.F__law_alike sc__law_alike fun cdv A outer s H E hr => ?_
    unfold d__law_alike
    exact (dss_cons (ds_if (dt_truth rfl (de_isT2 (T := "tuple") (U := "list") rfl (by rfl) T.z_isinstance (by rfl) T.z_tuple (by decide +kernel) kit_tuple (by decide) (by decide) (by rfl) T.z_list (by decide +kernel) kit_list (by decide) (by decide) (de_var 1))) (dss_cons (ds_if (dw_dt (dw_or (dt_not (dt_truth rfl (de_isT2 (T := "tuple") (U := "list") rfl (by rfl) T.z_isinstance (by rfl) T.z_tuple (by decide +kernel) kit_tuple (by decide) (by decide) (by rfl) T.z_list (by decide +kernel) kit_list (by decide) (by decide) (de_var 0)))) (dw_or1 (dt_cmp (cmp_ne rfl hr.units) (de_isT (T := "list") rfl (by rfl) T.z_isinstance (by rfl) T.z_list (by decide +kernel) kit_list (by decide) (by decide) (de_var 0)) (de_isT (T := "list") rfl (by rfl) T.z_isinstance (by rfl) T.z_list (by decide +kernel) kit_list (by decide) (by decide) (de_var 1)) (nomark _))))) (dss_one (ds_ret de_bl)) dss_nil)
    (dss_cons (ds_if (dt_cmp (cmp_ne rfl hr.units) (de_len rfl (by rfl) T.z_len (da_cons (de_var 0) da_nil)) (de_len rfl (by rfl) T.z_len (da_cons (de_var 1) da_nil)) (nomark _)) (dss_one (ds_ret de_bl)) dss_nil)
    (dss_one (ds_ret (de_cmp' (cmp_eq rfl hr.units) (de_lc (f := 4096) (own := [("k", 2)]) rfl sc__law_alike.nd (di_rng1 (by rfl) T.z_range (da_cons (de_len rfl (by rfl) T.z_len (da_cons (de_var 1) da_nil)) da_nil)) (blkOk_by (own := [("k", 2)]) (N := n__law_alike) (sc := defScope s__law_alike) (by decide +kernel)) (fun _ _ _ _ _ => (dg_name 2 sc__law_alike.nd)) (fun _ _ _ _ _ => (dts_one (dt_not (dt_truth rfl (de_call takes0 ih hr (by rfl) T.m__law_alike T.F__law_alike.kp T.b__law_alike (da_cons (de_ix rfl hr.units (de_var 0) (de_var 2)) (da_cons (de_ix rfl hr.units (de_var 1) (de_var 2)) da_nil))))))) (fun _ _ _ _ _ => (de_var 2))) (de_lst da_nil) (nomark _)))))) dss_nil)
    (dss_cons (ds_if (dw_dt (dw_or (dt_cmp cmp_is (de_var 1) de_non (nomark _)) (dw_or1 (dt_truth rfl (de_isT (T := "str") rfl (by rfl) T.z_isinstance (by rfl) T.z_str (by decide +kernel) kit_str (by decide) (by decide) (de_var 1)))))) (dss_one (ds_ret (de_and (de_cmp' (cmp_eq rfl hr.units) (de_var 0) (de_var 1) (nomark _)) (de_one (de_cmp' (cmp_eq rfl hr.units) (de_isT (T := "str") rfl (by rfl) T.z_isinstance (by rfl) T.z_str (by decide +kernel) kit_str (by decide) (by decide) (de_var 0)) (de_isT (T := "str") rfl (by rfl) T.z_isinstance (by rfl) T.z_str (by decide +kernel) kit_str (by decide) (by decide) (de_var 1)) (nomark _)))))) dss_nil)
    (dss_one (ds_ret (de_and (de_isT (T := "int") rfl (by rfl) T.z_isinstance (by rfl) T.z_int (by decide +kernel) kit_int (by decide) (by decide) (de_var 0)) (de_and (de_cmp' (cmp_eq rfl hr.units) (de_isT (T := "bool") rfl (by rfl) T.z_isinstance (by rfl) T.z_bool (by decide +kernel) kit_bool (by decide) (by decide) (de_var 0)) (de_isT (T := "bool") rfl (by rfl) T.z_isinstance (by rfl) T.z_bool (by decide +kernel) kit_bool (by decide) (by decide) (de_var 1)) (nomark _)) (de_one (de_cmp' (cmp_eq rfl hr.units) (de_var 0) (de_var 1) (nomark _)))))))))
abbrev D__law_alike : FnM := R__law_alike 8
theorem ok__law_alike {w : World} {K : PySem.W.Frag} {mg : Str → Option Value} {base : Heap} (T : Txt K mg w) : FnOk P w K mg base (L2.CX P w) 9 T.f__law_alike T.d__law_alike ["found", "due"] (spF (GG T) D__law_alike) := rk__law_alike T 8
def d__law_told : DenS :=
  (sTryM [.named tb_BadPool 2 (rvTup (rvCons (rvStr "pool") (rvCons (rvFld ok_f_index "index") rvNil))), .named tb_BadPooled 2 (rvTup (rvCons (rvStr "pooled") (rvCons (rvFld ok_f_step "step") rvNil)))] (sRet (dCall D_unpooled (aCons (dVar 0) (aCons (dVar 1) aNil)))))
def D__law_told : FnM := mkFn (List.length (["entries", "code"] : List Str)) (List.length n__law_told) d__law_told
theorem ok__law_told {w : World} {K : PySem.W.Frag} {mg : Str → Option Value} {base : Heap} (T : Txt K mg w) : FnOk P w K mg base (L2.CX P w) 5 T.f__law_told T.d__law_told ["entries", "code"] (spF (GG T) D__law_told) :=
  fn_ok (N := n__law_told) (ps := ["entries", "code"]) (k := 4) (G := GG T) (body := d__law_told) T.F__law_told sc__law_told fun cdv A outer s H E hr => by
  unfold d__law_told
  exact (dss_one (ds_tryM rfl rfl sc__law_told.nd (takes_of rfl rfl rfl rfl) (fun _ _ _ tk ps => (dss_one (ds_ret (de_call tk (ok_unpooled T) (hr.mono (by decide)) (by rfl) T.m_unpooled T.F_unpooled.kp T.b_unpooled (da_cons (de_var 0) (da_cons (de_var 1) da_nil))))))
    (ClaDs.named (i := 2) (tbl := tb_BadPool) rfl (by rfl) ⟨by rfl, by decide, .inl T.m_BadPool⟩ (xt_BadPool T) (dy_tup (dy_cons dy_str (dy_cons (dy_fld rfl (by first | exact Or.inl rfl | exact Or.inr (Or.inl rfl) | exact Or.inr (Or.inr rfl)) (xo_index T)) dy_nil)))
    (ClaDs.named (i := 2) (tbl := tb_BadPooled) rfl (by rfl) ⟨by rfl, by decide, .inl T.m_BadPooled⟩ (xt_BadPooled T) (dy_tup (dy_cons dy_str (dy_cons (dy_fld rfl (by first | exact Or.inl rfl | exact Or.inr (Or.inl rfl) | exact Or.inr (Or.inr rfl)) (xo_step T)) dy_nil)))
    ClaDs.nil))))
def d__law_due : DenS :=
  (sSeq (sAsg (dDisp [((dC (.str "new")), (dC (.str "class"))), ((dC (.str "cast")), (dC (.str "class"))), ((dC (.str "is")), (dC (.str "class"))), ((dC (.str "get")), (dC (.str "field"))), ((dC (.str "put")), (dC (.str "field"))), ((dC (.str "call")), (dC (.str "method")))]) (gN 2))
  (sSeq (sAsg (dLst aNil) (gN 3))
  (sSeq (sFor 4096 (iRng rng1 (aCons (dCall fLen (aCons (dVar 1) aNil)) aNil)) (gN 4) (sSeq (sAsg (dBin fIx (dVar 1) (dVar 4)) (gN 5))
  (sSeq (sIf (bAnd (bCmp fNe (dVar 5) (dTup aNil)) (bCmp fIn (dBin fIx (dVar 5) (dC (.int 0))) (dCall fListD (aCons (dVar 2) aNil)))) (sSeq (sAsg (dAnd (dBin fEq (dCall fLen (aCons (dVar 5) aNil)) (dC (.int 2))) (dAnd (dUn (fIsT "int") (dBin fIx (dVar 5) (dC (.int 1)))) (dNot (dUn (fIsT "bool") (dBin fIx (dVar 5) (dC (.int 1))))))) (gN 6))
  (sSeq (sIf (bOr (bNot (bTru (dVar 6))) (bOr (bNot (fun ρ S => ((dChain fLe fLt (dC (.int 0)) (dBin fIx (dVar 5) (dC (.int 1))) (dCall fLen (aCons (dVar 0) aNil))) ρ S).bind boolOf)) (bCmp fNe (dBin fIx (dBin fIx (dVar 0) (dBin fIx (dVar 5) (dC (.int 1)))) (dC (.int 0))) (dBin fIx (dVar 2) (dBin fIx (dVar 5) (dC (.int 0))))))) (sRet (dTup (aCons (dC (.str "pooled")) (aCons (dVar 4) aNil)))) sNil)
  (sAsg (dBin fAdd (dTup (aCons (dBin fIx (dVar 5) (dC (.int 0))) aNil)) (dSl (dBin fIx (dVar 0) (dBin fIx (dVar 5) (dC (.int 1)))) (oSome (dC (.int 1))) oNone)) (gN 5)))) sNil)
  (sExpr (dMet isLst fAppend (dVar 3) (aCons (dVar 5) aNil))))))
  (sRet (dUn fTupOf (dVar 3))))))
def D__law_due : FnM := mkFn (List.length (["entries", "code"] : List Str)) (List.length n__law_due) d__law_due
theorem ok__law_due {w : World} {K : PySem.W.Frag} {mg : Str → Option Value} {base : Heap} (T : Txt K mg w) : FnOk P w K mg base (L2.CX P w) 1 T.f__law_due T.d__law_due ["entries", "code"] (spF (GG T) D__law_due) :=
  fn_ok (N := n__law_due) (ps := ["entries", "code"]) (k := 0) (G := GG T) (body := d__law_due) T.F__law_due sc__law_due fun cdv A outer s H E hr => by
  unfold d__law_due
  exact (dss_cons (ds_set 2 sc__law_due.nd (de_disp (dps_cons de_str de_str (dps_cons de_str de_str (dps_cons de_str de_str (dps_cons de_str de_str (dps_cons de_str de_str (dps_cons de_str de_str dps_nil))))))))
    (dss_cons (ds_set 3 sc__law_due.nd (de_lst da_nil))
    (dss_cons (ds_for (f := 4096) (passes_of rfl) rfl (di_rng1 (by rfl) T.z_range (da_cons (de_len rfl (by rfl) T.z_len (da_cons (de_var 1) da_nil)) da_nil)) (dg_name 4 sc__law_due.nd) (dss_cons (ds_set 5 sc__law_due.nd (de_ix rfl hr.units (de_var 1) (de_var 4)))
    (dss_cons (ds_if (dw_dt (dw_and (dt_cmp (cmp_ne rfl hr.units) (de_var 5) (de_tup da_nil) (nomark _)) (dw_and1 (dt_cmp (cmp_in rfl) (de_ix rfl hr.units (de_var 5) de_int) (de_listD rfl (by rfl) T.z_list (da_cons (de_var 2) da_nil)) (by rfl))))) (dss_cons (ds_set 6 sc__law_due.nd (de_and (de_cmp' (cmp_eq rfl hr.units) (de_len rfl (by rfl) T.z_len (da_cons (de_var 5) da_nil)) de_int (nomark _)) (de_and (de_isT (T := "int") rfl (by rfl) T.z_isinstance (by rfl) T.z_int (by decide +kernel) kit_int (by decide) (by decide) (de_ix rfl hr.units (de_var 5) de_int)) (de_one (de_not (de_isT (T := "bool") rfl (by rfl) T.z_isinstance (by rfl) T.z_bool (by decide +kernel) kit_bool (by decide) (by decide) (de_ix rfl hr.units (de_var 5) de_int)))))))
    (dss_cons (ds_if (dw_dt (dw_or (dt_not (dt_truth rfl (de_var 6))) (dw_or (dt_not (dt_chain cmp_le cmp_lt de_int (de_ix rfl hr.units (de_var 5) de_int) (de_len rfl (by rfl) T.z_len (da_cons (de_var 0) da_nil)))) (dw_or1 (dt_cmp (cmp_ne rfl hr.units) (de_ix rfl hr.units (de_ix rfl hr.units (de_var 0) (de_ix rfl hr.units (de_var 5) de_int)) de_int) (de_ix rfl hr.units (de_var 2) (de_ix rfl hr.units (de_var 5) de_int)) (nomark _)))))) (dss_one (ds_ret (de_tup (da_cons de_str (da_cons (de_var 4) da_nil))))) dss_nil)
    (dss_one (ds_set 5 sc__law_due.nd (de_add rfl (de_tup (da_cons (de_ix rfl hr.units (de_var 5) de_int) da_nil)) (de_sl rfl (de_ix rfl hr.units (de_var 0) (de_ix rfl hr.units (de_var 5) de_int)) (do_some de_int) do_none)))))) dss_nil)
    (dss_one (ds_expr (de_append rfl (de_var 3) (da_cons (de_var 5) da_nil)))))))
    (dss_one (ds_ret (de_tupOf rfl (by rfl) T.z_tuple (de_var 3)))))))
def d_law : DenS :=
  (sSeq (sAsg (dLst (aCons (dVar 0) (aCons (dC (.int 0)) (aCons (dC (.int 2938)) (aCons (dC (.int 0)) aNil))))) (gN 1))
  (sSeq (sAsg (dLst (aCons (dTup (aCons (dC (.str "class")) (aCons (dC (.str "box")) aNil))) (aCons (dTup (aCons (dC (.str "class")) (aCons (dC (.str "top")) aNil))) (aCons (dTup (aCons (dC (.str "field")) (aCons (dC (.str "box")) (aCons (dC (.str "x")) aNil)))) (aCons (dTup (aCons (dC (.str "method")) (aCons (dC (.str "red")) (aCons (dC (.str "show")) aNil)))) (aCons (dTup (aCons (dC (.str "class")) (aCons (dC (.str "num")) aNil))) aNil)))))) (gN 2))
  (sSeq (sFor 4096 (iRng rng1 (aCons (dC (.int 3)) aNil)) (gN 3) (sSeq (sAsg (dUn fTupOf (dLc 4096 (iRng rng1 (aCons (dCall D__law_taken (aCons (dVar 1) (aCons (dC (.int 7)) aNil))) aNil)) (gN 8) bYes (dCall D__law_pick (aCons (dVar 1) (aCons (dVar 2) aNil))) [8])) (gN 5))
  (sSeq (sPar 6 7 (aCons (dDisp [((dC (.str "class")), (dLst (aCons (dC (.str "new")) (aCons (dC (.str "cast")) (aCons (dC (.str "is")) aNil))))), ((dC (.str "field")), (dLst (aCons (dC (.str "get")) (aCons (dC (.str "put")) aNil)))), ((dC (.str "method")), (dLst (aCons (dC (.str "call")) aNil)))]) (aCons (dLst aNil) aNil)))
  (sSeq (sFor 4096 (iRng rng1 (aCons (dCall D__law_taken (aCons (dVar 1) (aCons (dBin fIx (dLst (aCons (dC (.int 6)) (aCons (dC (.int 21)) aNil))) (dCall D__law_taken (aCons (dVar 1) (aCons (dC (.int 2)) aNil)))) aNil))) aNil)) (gN 8) (sIf (bAnd (bCmp fNe (dVar 5) (dTup aNil)) (bCmp fGt (dCall D__law_taken (aCons (dVar 1) (aCons (dC (.int 6)) aNil))) (dC (.int 0)))) (sSeq (sAsg (dCall D__law_taken (aCons (dVar 1) (aCons (dCall fLen (aCons (dVar 5) aNil)) aNil))) (gN 10))
  (sExpr (dMet isLst fAppend (dVar 7) (aCons (dTup (aCons (dCall D__law_pick (aCons (dVar 1) (aCons (dBin fIx (dVar 6) (dBin fIx (dBin fIx (dVar 5) (dVar 10)) (dC (.int 0)))) aNil))) (aCons (dVar 10) aNil))) aNil)))) (sIf (bCmp fGt (dCall D__law_taken (aCons (dVar 1) (aCons (dC (.int 3)) aNil))) (dC (.int 0))) (sExpr (dMet isLst fAppend (dVar 7) (aCons (dCall D__law_pick (aCons (dVar 1) (aCons (dLst (aCons (dTup (aCons (dC (.str "push")) (aCons (dC (.int 3)) aNil))) (aCons (dTup aNil) (aCons (dTup (aCons (dC (.str "go")) (aCons (dC (.int 1)) (aCons (dC (.int 2)) aNil)))) (aCons (dTup (aCons (dC (.int 5)) aNil)) (aCons (dTup (aCons (dC .non) aNil)) (aCons (dTup (aCons (dC (.str "give")) aNil)) (aCons (dTup (aCons (dC (.str "New")) (aCons (dC (.int 0)) aNil))) aNil)))))))) aNil))) aNil))) (sSeq (sPar 11 12 (aCons (dCall D__law_pick (aCons (dVar 1) (aCons (dLst (aCons (dC (.str "new")) (aCons (dC (.str "is")) (aCons (dC (.str "get")) (aCons (dC (.str "call")) aNil))))) aNil))) (aCons (dLst (aCons (dC (.int 0)) (aCons (dCall fLen (aCons (dVar 5) aNil)) (aCons (dUn fNeg (dC (.int 1))) (aCons (dC (.bl true)) (aCons (dC (.str "box")) (aCons (dC .non) aNil))))))) aNil)))
  (sExpr (dMet isLst fAppend (dVar 7) (aCons (dCall D__law_pick (aCons (dVar 1) (aCons (dLst (aCons (dTup (aCons (dVar 11) (aCons (dCall D__law_pick (aCons (dVar 1) (aCons (dVar 12) aNil))) aNil))) (aCons (dTup (aCons (dVar 11) aNil)) (aCons (dTup (aCons (dVar 11) (aCons (dC (.int 0)) (aCons (dC (.int 0)) aNil)))) aNil)))) aNil))) aNil)))))))
  (sSeq (sIf (bNot (bTru (dCall D__law_alike (aCons (dCall D__law_told (aCons (dVar 5) (aCons (dUn fTupOf (dVar 7)) aNil))) (aCons (dCall D__law_due (aCons (dVar 5) (aCons (dVar 7) aNil))) aNil))))) (sRet (dC (.bl false))) sNil)
  (sSeq (sAsg (dLst (aCons (dC .non) (aCons (dTup aNil) (aCons (dTup (aCons (dC (.str "class")) aNil)) (aCons (dTup (aCons (dC (.str "class")) (aCons (dC (.str "box")) (aCons (dC (.str "x")) aNil)))) (aCons (dTup (aCons (dC (.str "field")) (aCons (dC (.str "box")) aNil))) (aCons (dTup (aCons (dC (.str "thing")) (aCons (dC (.str "box")) aNil))) (aCons (dTup (aCons (dC (.str "class")) (aCons (dC (.str "Box")) aNil))) (aCons (dC (.int 3)) aNil))))))))) (gN 9))
  (sSeq (sAsg (dBin fAdd (dVar 9) (dLst (aCons (dTup (aCons (dC (.str "class")) (aCons (dC (.str "")) aNil))) (aCons (dTup (aCons (dC (.str "class")) (aCons (dC (.str "toolong")) aNil))) (aCons (dLst (aCons (dC (.str "class")) (aCons (dC (.str "box")) aNil))) (aCons (dTup (aCons (dC (.str "class")) (aCons (dC .non) aNil))) (aCons (dTup (aCons (dC .non) (aCons (dC (.str "box")) aNil))) aNil))))))) (gN 9))
  (sFor 4096 (iAnyD (dVar 9)) (gN 4) (sIf (bCmp fNe (dCall D__law_told (aCons (dBin fAdd (dVar 5) (dTup (aCons (dVar 4) (aCons (dC .non) aNil)))) (aCons (dTup aNil) aNil))) (dTup (aCons (dC (.str "pool")) (aCons (dCall fLen (aCons (dVar 5) aNil)) aNil)))) (sRet (dC (.bl false))) sNil)))))))))
  (sSeq (sFor 4096 (iAnyD (dLst (aCons (dC .non) (aCons (dCall fLstOf (aCons (dVar 2) aNil)) (aCons (dBin fMulX (dTup (aCons (dBin fIx (dVar 2) (dC (.int 0))) aNil)) (dC (.int 100))) (aCons (dC (.int 3)) (aCons dDic0 aNil))))))) (gN 4) (sIf (bCmp fNe (dCall D__law_told (aCons (dVar 4) (aCons (dTup aNil) aNil))) (dTup (aCons (dC (.str "pool")) (aCons (dC .non) aNil)))) (sRet (dC (.bl false))) sNil))
  (sSeq (sFor 4096 (iAnyD (dLst (aCons (dC .non) (aCons (dLst (aCons (dTup (aCons (dC (.str "push")) (aCons (dC (.int 3)) aNil))) aNil)) (aCons (dBin fMulX (dTup (aCons (dTup (aCons (dC (.str "push")) (aCons (dC (.int 3)) aNil))) aNil)) (dC (.int 21))) (aCons (dTup (aCons (dC .non) aNil)) (aCons (dTup (aCons (dTup (aCons (dC (.str "push")) (aCons (dC (.int 3)) aNil))) (aCons (dLst (aCons (dC (.str "push")) (aCons (dC (.int 3)) aNil))) aNil))) (aCons (dC (.str "push")) (aCons (dC (.int 3)) aNil))))))))) (gN 4) (sIf (bCmp fNe (dCall D__law_told (aCons (dTup aNil) (aCons (dVar 4) aNil))) (dTup (aCons (dC (.str "pooled")) (aCons (dC .non) aNil)))) (sRet (dC (.bl false))) sNil))
  (sRet (dBin fEq (dCall fLen (aCons (dCall D__law_told (aCons (dBin fMulX (dTup (aCons (dBin fIx (dVar 2) (dC (.int 0))) aNil)) (dC (.int 99))) (aCons (dBin fMulX (dTup (aCons (dTup (aCons (dC (.str "new")) (aCons (dC (.int 98)) aNil))) aNil)) (dC (.int 20))) aNil))) aNil)) (dC (.int 20)))))))))
def D_law : FnM := mkFn (List.length (["script"] : List Str)) (List.length n_law) d_law
theorem ok_law {w : World} {K : PySem.W.Frag} {mg : Str → Option Value} {base : Heap} (T : Txt K mg w) : FnOk P w K mg base (L2.CX P w) 10 T.f_law T.d_law ["script"] (spF (GG T) D_law) :=
  fn_ok (N := n_law) (ps := ["script"]) (k := 9) (G := GG T) (body := d_law) T.F_law sc_law fun cdv A outer s H E hr => by
  unfold d_law
  exact (dss_cons (ds_set 1 sc_law.nd (de_lst (da_cons (de_var 0) (da_cons de_int (da_cons de_int (da_cons de_int da_nil))))))
    (dss_cons (ds_set 2 sc_law.nd (de_lst (da_cons (de_tup (da_cons de_str (da_cons de_str da_nil))) (da_cons (de_tup (da_cons de_str (da_cons de_str da_nil))) (da_cons (de_tup (da_cons de_str (da_cons de_str (da_cons de_str da_nil)))) (da_cons (de_tup (da_cons de_str (da_cons de_str (da_cons de_str da_nil)))) (da_cons (de_tup (da_cons de_str (da_cons de_str da_nil))) da_nil)))))))
    (dss_cons (ds_for (f := 4096) (passes_of rfl) rfl (di_rng1 (by rfl) T.z_range (da_cons de_int da_nil)) (dg_name 3 sc_law.nd) (dss_cons (ds_set 5 sc_law.nd (de_tupOf rfl (by rfl) T.z_tuple (de_lc (f := 4096) (own := [("at", 8)]) rfl sc_law.nd (di_rng1 (by rfl) T.z_range (da_cons (de_call (takes_of rfl rfl rfl rfl) (ok__law_taken T) (hr.mono (by decide)) (by rfl) T.m__law_taken T.F__law_taken.kp T.b__law_taken (da_cons (de_var 1) (da_cons de_int da_nil))) da_nil)) (blkOk_by (own := [("at", 8)]) (N := n_law) (sc := defScope s_law) (by decide +kernel)) (fun _ _ _ _ _ => (dg_name 8 sc_law.nd)) (fun _ _ _ _ _ => dts_nil) (fun _ _ _ _ _ => (de_call takes0 (ok__law_pick T) (hr.mono (by decide)) (by rfl) T.m__law_pick T.F__law_pick.kp T.b__law_pick (da_cons (de_var 1) (da_cons (de_var 2) da_nil)))))))
    (dss_cons (ds_par (i := 6) (j := 7) rfl sc_law.nd rfl rfl (by decide) rfl rfl (da_cons (de_disp (dps_cons de_str (de_lst (da_cons de_str (da_cons de_str (da_cons de_str da_nil)))) (dps_cons de_str (de_lst (da_cons de_str (da_cons de_str da_nil))) (dps_cons de_str (de_lst (da_cons de_str da_nil)) dps_nil)))) (da_cons (de_lst da_nil) da_nil)) (by rfl))
    (dss_cons (ds_for (f := 4096) (passes_of rfl) rfl (di_rng1 (by rfl) T.z_range (da_cons (de_call (takes_of rfl rfl rfl rfl) (ok__law_taken T) (hr.mono (by decide)) (by rfl) T.m__law_taken T.F__law_taken.kp T.b__law_taken (da_cons (de_var 1) (da_cons (de_ix rfl hr.units (de_lst (da_cons de_int (da_cons de_int da_nil))) (de_call (takes_of rfl rfl rfl rfl) (ok__law_taken T) (hr.mono (by decide)) (by rfl) T.m__law_taken T.F__law_taken.kp T.b__law_taken (da_cons (de_var 1) (da_cons de_int da_nil)))) da_nil))) da_nil)) (dg_name 8 sc_law.nd) (dss_one (ds_if (dw_dt (dw_and (dt_cmp (cmp_ne rfl hr.units) (de_var 5) (de_tup da_nil) (nomark _)) (dw_and1 (dt_cmp cmp_gt (de_call (takes_of rfl rfl rfl rfl) (ok__law_taken T) (hr.mono (by decide)) (by rfl) T.m__law_taken T.F__law_taken.kp T.b__law_taken (da_cons (de_var 1) (da_cons de_int da_nil))) de_int (nomark _))))) (dss_cons (ds_set 10 sc_law.nd (de_call (takes_of rfl rfl rfl rfl) (ok__law_taken T) (hr.mono (by decide)) (by rfl) T.m__law_taken T.F__law_taken.kp T.b__law_taken (da_cons (de_var 1) (da_cons (de_len rfl (by rfl) T.z_len (da_cons (de_var 5) da_nil)) da_nil))))
    (dss_one (ds_expr (de_append rfl (de_var 7) (da_cons (de_tup (da_cons (de_call (takes_of rfl rfl rfl rfl) (ok__law_pick T) (hr.mono (by decide)) (by rfl) T.m__law_pick T.F__law_pick.kp T.b__law_pick (da_cons (de_var 1) (da_cons (de_ix rfl hr.units (de_var 6) (de_ix rfl hr.units (de_ix rfl hr.units (de_var 5) (de_var 10)) de_int)) da_nil))) (da_cons (de_var 10) da_nil))) da_nil))))) (dss_one (ds_if (dt_cmp cmp_gt (de_call (takes_of rfl rfl rfl rfl) (ok__law_taken T) (hr.mono (by decide)) (by rfl) T.m__law_taken T.F__law_taken.kp T.b__law_taken (da_cons (de_var 1) (da_cons de_int da_nil))) de_int (nomark _)) (dss_one (ds_expr (de_append rfl (de_var 7) (da_cons (de_call (takes_of rfl rfl rfl rfl) (ok__law_pick T) (hr.mono (by decide)) (by rfl) T.m__law_pick T.F__law_pick.kp T.b__law_pick (da_cons (de_var 1) (da_cons (de_lst (da_cons (de_tup (da_cons de_str (da_cons de_int da_nil))) (da_cons (de_tup da_nil) (da_cons (de_tup (da_cons de_str (da_cons de_int (da_cons de_int da_nil)))) (da_cons (de_tup (da_cons de_int da_nil)) (da_cons (de_tup (da_cons de_non da_nil)) (da_cons (de_tup (da_cons de_str da_nil)) (da_cons (de_tup (da_cons de_str (da_cons de_int da_nil))) da_nil)))))))) da_nil))) da_nil)))) (dss_cons (ds_par (i := 11) (j := 12) rfl sc_law.nd rfl rfl (by decide) rfl rfl (da_cons (de_call (takes_of rfl rfl rfl rfl) (ok__law_pick T) (hr.mono (by decide)) (by rfl) T.m__law_pick T.F__law_pick.kp T.b__law_pick (da_cons (de_var 1) (da_cons (de_lst (da_cons de_str (da_cons de_str (da_cons de_str (da_cons de_str da_nil))))) da_nil))) (da_cons (de_lst (da_cons de_int (da_cons (de_len rfl (by rfl) T.z_len (da_cons (de_var 5) da_nil)) (da_cons (de_neg de_int) (da_cons de_bl (da_cons de_str (da_cons de_non da_nil))))))) da_nil)) (by rfl))
    (dss_one (ds_expr (de_append rfl (de_var 7) (da_cons (de_call (takes_of rfl rfl rfl rfl) (ok__law_pick T) (hr.mono (by decide)) (by rfl) T.m__law_pick T.F__law_pick.kp T.b__law_pick (da_cons (de_var 1) (da_cons (de_lst (da_cons (de_tup (da_cons (de_var 11) (da_cons (de_call (takes_of rfl rfl rfl rfl) (ok__law_pick T) (hr.mono (by decide)) (by rfl) T.m__law_pick T.F__law_pick.kp T.b__law_pick (da_cons (de_var 1) (da_cons (de_var 12) da_nil))) da_nil))) (da_cons (de_tup (da_cons (de_var 11) da_nil)) (da_cons (de_tup (da_cons (de_var 11) (da_cons de_int (da_cons de_int da_nil)))) da_nil)))) da_nil))) da_nil))))))))))
    (dss_cons (ds_if (dt_not (dt_truth rfl (de_call (takes_of rfl rfl rfl rfl) (ok__law_alike T) (hr.mono (by decide)) (by rfl) T.m__law_alike T.F__law_alike.kp T.b__law_alike (da_cons (de_call (takes_of rfl rfl rfl rfl) (ok__law_told T) (hr.mono (by decide)) (by rfl) T.m__law_told T.F__law_told.kp T.b__law_told (da_cons (de_var 5) (da_cons (de_tupOf rfl (by rfl) T.z_tuple (de_var 7)) da_nil))) (da_cons (de_call (takes_of rfl rfl rfl rfl) (ok__law_due T) (hr.mono (by decide)) (by rfl) T.m__law_due T.F__law_due.kp T.b__law_due (da_cons (de_var 5) (da_cons (de_var 7) da_nil))) da_nil))))) (dss_one (ds_ret de_bl)) dss_nil)
    (dss_cons (ds_set 9 sc_law.nd (de_lst (da_cons de_non (da_cons (de_tup da_nil) (da_cons (de_tup (da_cons de_str da_nil)) (da_cons (de_tup (da_cons de_str (da_cons de_str (da_cons de_str da_nil)))) (da_cons (de_tup (da_cons de_str (da_cons de_str da_nil))) (da_cons (de_tup (da_cons de_str (da_cons de_str da_nil))) (da_cons (de_tup (da_cons de_str (da_cons de_str da_nil))) (da_cons de_int da_nil))))))))))
    (dss_cons (ds_set 9 sc_law.nd (de_add rfl (de_var 9) (de_lst (da_cons (de_tup (da_cons de_str (da_cons de_str da_nil))) (da_cons (de_tup (da_cons de_str (da_cons de_str da_nil))) (da_cons (de_lst (da_cons de_str (da_cons de_str da_nil))) (da_cons (de_tup (da_cons de_str (da_cons de_non da_nil))) (da_cons (de_tup (da_cons de_non (da_cons de_str da_nil))) da_nil))))))))
    (dss_one (ds_for (f := 4096) (passes_of rfl) rfl (di_any rfl (de_var 9)) (dg_name 4 sc_law.nd) (dss_one (ds_if (dt_cmp (cmp_ne rfl hr.units) (de_call (takes_of rfl rfl rfl rfl) (ok__law_told T) (hr.mono (by decide)) (by rfl) T.m__law_told T.F__law_told.kp T.b__law_told (da_cons (de_add rfl (de_var 5) (de_tup (da_cons (de_var 4) (da_cons de_non da_nil)))) (da_cons (de_tup da_nil) da_nil))) (de_tup (da_cons de_str (da_cons (de_len rfl (by rfl) T.z_len (da_cons (de_var 5) da_nil)) da_nil))) (nomark _)) (dss_one (ds_ret de_bl)) dss_nil)))))))))))
    (dss_cons (ds_for (f := 4096) (passes_of rfl) rfl (di_any rfl (de_lst (da_cons de_non (da_cons (de_lstOf rfl (by rfl) T.z_list (da_cons (de_var 2) da_nil)) (da_cons (de_mulX rfl (de_tup (da_cons (de_ix rfl hr.units (de_var 2) de_int) da_nil)) de_int) (da_cons de_int (da_cons de_dic0 da_nil))))))) (dg_name 4 sc_law.nd) (dss_one (ds_if (dt_cmp (cmp_ne rfl hr.units) (de_call (takes_of rfl rfl rfl rfl) (ok__law_told T) (hr.mono (by decide)) (by rfl) T.m__law_told T.F__law_told.kp T.b__law_told (da_cons (de_var 4) (da_cons (de_tup da_nil) da_nil))) (de_tup (da_cons de_str (da_cons de_non da_nil))) (nomark _)) (dss_one (ds_ret de_bl)) dss_nil)))
    (dss_cons (ds_for (f := 4096) (passes_of rfl) rfl (di_any rfl (de_lst (da_cons de_non (da_cons (de_lst (da_cons (de_tup (da_cons de_str (da_cons de_int da_nil))) da_nil)) (da_cons (de_mulX rfl (de_tup (da_cons (de_tup (da_cons de_str (da_cons de_int da_nil))) da_nil)) de_int) (da_cons (de_tup (da_cons de_non da_nil)) (da_cons (de_tup (da_cons (de_tup (da_cons de_str (da_cons de_int da_nil))) (da_cons (de_lst (da_cons de_str (da_cons de_int da_nil))) da_nil))) (da_cons de_str (da_cons de_int da_nil))))))))) (dg_name 4 sc_law.nd) (dss_one (ds_if (dt_cmp (cmp_ne rfl hr.units) (de_call (takes_of rfl rfl rfl rfl) (ok__law_told T) (hr.mono (by decide)) (by rfl) T.m__law_told T.F__law_told.kp T.b__law_told (da_cons (de_tup da_nil) (da_cons (de_var 4) da_nil))) (de_tup (da_cons de_str (da_cons de_non da_nil))) (nomark _)) (dss_one (ds_ret de_bl)) dss_nil)))
    (dss_one (ds_ret (de_cmp' (cmp_eq rfl hr.units) (de_len rfl (by rfl) T.z_len (da_cons (de_call (takes_of rfl rfl rfl rfl) (ok__law_told T) (hr.mono (by decide)) (by rfl) T.m__law_told T.F__law_told.kp T.b__law_told (da_cons (de_mulX rfl (de_tup (da_cons (de_ix rfl hr.units (de_var 2) de_int) da_nil)) de_int) (da_cons (de_mulX rfl (de_tup (da_cons (de_tup (da_cons de_str (da_cons de_int da_nil))) da_nil)) de_int) da_nil))) da_nil)) de_int (nomark _)))))))))
end K38
set_option Elab.async false
set_option linter.all false
set_option maxRecDepth 100000
set_option maxHeartbeats 1000000
namespace K38
open PySem PySem.Spec PyProof.Rows L2 MI
structure S3 where
  p : Nat
  x : Int
  y : Int
def rowO (s : S3) : MO := .lst [.ref 0, .int s.p, .int s.x, .int s.y]
abbrev mk (l : List Int) (s : S3) (r : Store) : Store := .rol (l.map MV.int) :: rowO s :: r
theorem wp_set {n j : Nat} {k : Int} {w : MV} {S : Store} {l : List MV} (h : S[n]? = some (.lst l)) (hk : ixN l.length k = some j) : fSet (.ref n) (.int k) w S = some (S.set n (.lst (l.set j w))) := by
  unfold fSet
  simp only [h, hk]
section
variable {l : List Int} {p : Nat} {x y : Int} {r : Store} {E : EX} {Q : MV → Store → Prop}
theorem at_row : (mk l ⟨p, x, y⟩ r)[1]? = some (.lst [.ref 0, .int p, .int x, .int y]) := rfl
theorem row0 : wp (fIx (.ref 1) (.int 0) (mk l ⟨p, x, y⟩ r)) E Q = Q (.ref 0) (mk l ⟨p, x, y⟩ r) := by
  rw [wp_ixL at_row]; simp [atI, ixN]
theorem row1 : wp (fIx (.ref 1) (.int 1) (mk l ⟨p, x, y⟩ r)) E Q = Q (.int p) (mk l ⟨p, x, y⟩ r) := by
  rw [wp_ixL at_row]; simp [atI, ixN]
theorem row2 : wp (fIx (.ref 1) (.int 2) (mk l ⟨p, x, y⟩ r)) E Q = Q (.int x) (mk l ⟨p, x, y⟩ r) := by
  rw [wp_ixL at_row]; simp [atI, ixN]
theorem row3 : wp (fIx (.ref 1) (.int 3) (mk l ⟨p, x, y⟩ r)) E Q = Q (.int y) (mk l ⟨p, x, y⟩ r) := by
  rw [wp_ixL at_row]; simp [atI, ixN]
theorem put1 : fSet (.ref 1) (.int 1) (.int (p + 1)) (mk l ⟨p, x, y⟩ r) = some (mk l ⟨p + 1, x, y⟩ r) := by
  rw [wp_set (l := [.ref 0, .int p, .int x, .int y]) at_row (j := 1) rfl]; rfl
theorem put2 {v : Int} : fSet (.ref 1) (.int 2) (.int v) (mk l ⟨p, x, y⟩ r) = some (mk l ⟨p, v, y⟩ r) := by
  rw [wp_set (l := [.ref 0, .int p, .int x, .int y]) at_row (j := 2) rfl]; rfl
theorem put3 {v : Int} : fSet (.ref 1) (.int 3) (.int v) (mk l ⟨p, x, y⟩ r) = some (mk l ⟨p, x, v⟩ r) := by
  rw [wp_set (l := [.ref 0, .int p, .int x, .int y]) at_row (j := 3) rfl]; rfl
theorem cell {i : Int} : wp (fIx (.ref 0) (.int i) (mk l ⟨p, x, y⟩ r)) E Q = ∃ w, atI (l.map MV.int) i = some w ∧ Q w (mk l ⟨p, x, y⟩ r) := wp_ixR rfl
theorem rlen : lenM (.ref 0) (mk l ⟨p, x, y⟩ r) = some l.length := by
  show ((some (l.map MV.int)).map List.length) = _
  simp
theorem wp_addI {i j : Int} {S : Store} : wp (fAdd (.int i) (.int j) S) E Q = Q (.int (i + j)) S := rfl
theorem wp_mulI {i j : Int} {S : Store} (hj : -(2 ^ 64) < j) (hk : j < 2 ^ 64) : wp (fMul (.int i) (.int j) S) E Q = Q (.int (i * j)) S := by
  unfold fMul
  dsimp only
  rw [if_pos (by rw [decide_eq_true hj, decide_eq_true hk]; simp)]
  rfl
theorem gc_row {w : MV} : wp (gc (r.length + 1 + 1) w (mk l ⟨p, x, y⟩ r)) E Q = Q w (mk l ⟨p, x, y⟩ r) := by
  rw [show gc (r.length + 1 + 1) w (mk l ⟨p, x, y⟩ r) = .ok w (mk l ⟨p, x, y⟩ r) from gc_same rfl]; rfl
theorem mulc {i : Int} {S : Store} : wp (fMul (.int i) (.int 48271) S) E Q = Q (.int (i * 48271)) S := wp_mulI (by decide) (by decide)
end
end K38
open PySem PySem.Spec PyProof.Rows L2 MI K38
local macro_rules | `(tactic| walk_at "run2") => `(tactic| simp only [wp_rng1, wp_rng2, wp_met, wp_neg, wp_bYes, if_true, row0, row1, row2, row3, put1, put2, put3, cell, rlen, wp_addI, mulc, wp_var, wp_c, wp_bin, wp_un, wp_call, wp_nil, wp_cons, wp_tup, wp_lst, wp_dic0, wp_int, wp_bcmp, wp_boolOf, wp_btru, wp_truB, wp_bnot, wp_band, wp_bor, wp_dif, wp_dand, wp_dor, wp_dnot, wp_len, wp_intOf, wp_ixT, wp_gN, wp_gS, wp_seq, wp_snil, wp_sexpr, wp_sret, wp_sif, wp_asg, wp_par, wp_par3, wp_for, wp_iany, wp_irng, wp_ok, wp_ite, wp_iteR,
  true_and, decide_eq_true_eq, Bool.and_eq_true, List.getElem?_cons_zero, List.getElem?_cons_succ, Option.some.injEq, exists_eq_left', List.set_cons_zero, List.set_cons_succ, List.map_cons, List.map_nil, List.cons_append, List.nil_append, List.replicate_succ, List.replicate_zero, List.length_cons, List.length_nil])
namespace K38
open PySem PySem.Spec PyProof.Rows L2 MI
theorem taken (l : List Int) (s : S3) (r : Store) {m : Int} (h0 : 0 < m) (h1 : m < 1073741824) {E : EX} {Q : MV → Store → Prop} (h : ∀ (k : Int) (s' : S3), 0 ≤ k → k < m → Q (.int k) (mk l s' r)) : wp (D__law_taken [.ref 1, .int m] (mk l s r)) E Q := by
  obtain ⟨p, x, y⟩ := s
  unfold D__law_taken
  rw [wp_fn (n := List.length [PySem.Str.ofString "row", PySem.Str.ofString "many"]) (ws := [MV.ref 1, MV.int m]) rfl]
  unfold d__law_taken
  simp only [List.map_cons, List.map_nil, n__law_taken, List.length_cons, List.length_nil]
  walk_at "run2"
  split
  · exact ⟨h0, ⟨h0, h1⟩, by rw [gc_row]; exact h _ _ (Int.emod_nonneg _ (by omega)) (Int.emod_lt_of_pos _ h0)⟩
  · split
    · exact ⟨by decide, by decide, h0, by rw [gc_row]; exact h _ _ (Int.emod_nonneg _ (by omega)) (Int.emod_lt_of_pos _ h0)⟩
    · rename_i hp
      have hlt : p < l.length := by omega
      refine ⟨.int l[p], ?_, ?_⟩
      · have e : ixN (l.map MV.int).length (((p + 1 : Nat) : Int) - 1) = some p := by
          unfold ixN
          rw [if_pos (by omega), if_pos (by rw [List.length_map]; omega)]
          congr 1
          omega
        unfold atI
        rw [e]
        show (l.map MV.int)[p]? = _
        rw [List.getElem?_map, List.getElem?_eq_getElem hlt]
        rfl
      · walk_at "run2"
        refine ⟨by decide, by decide, ?_⟩
        split
        · exact ⟨⟨h0, h1⟩, h0, by rw [gc_row]; exact h _ _ (Int.emod_nonneg _ (by omega)) (Int.emod_lt_of_pos _ h0)⟩
        · exact ⟨h0, by rw [gc_row]; exact h _ _ (Int.emod_nonneg _ (by omega)) (Int.emod_lt_of_pos _ h0)⟩
end K38
set_option Elab.async false
set_option linter.all false
set_option maxRecDepth 100000
set_option maxHeartbeats 1000000
namespace K38
open PySem PySem.Spec PyProof.Rows L2 MI
section
variable {l : List Int} {s : S3} {r : Store} {E : EX} {Q : MV → Store → Prop} {S : Store}
theorem atI_lt {α : Type} {xs : List α} {k : Int} (h0 : 0 ≤ k) (h1 : k < xs.length) : ∃ a, a ∈ xs ∧ atI xs k = some a := by
  have hl : k.toNat < xs.length := by omega
  refine ⟨xs[k.toNat], List.getElem_mem hl, ?_⟩
  unfold atI ixN
  rw [if_pos h0, if_pos h1]
  show xs[k.toNat]? = _
  rw [List.getElem?_eq_getElem hl]
theorem gc_mk {w : MV} : wp (gc (r.length + 1 + 1) w (mk l s r)) E Q = Q w (mk l s r) := gc_row
def SeqR (r : Store) (w : MV) (xs : List MV) : Prop := w = .tup xs ∨ ∃ n, w = .ref (n + 2) ∧ r[n]? = some (.lst xs)
theorem at_r {n : Nat} : (mk l s r)[n + 2]? = r[n]? := rfl
theorem lenL {n : Nat} {xs : List MV} (e : S[n]? = some (.lst xs)) : lenM (.ref n) S = some xs.length := by
  show (itemsOf (.ref n) S).map List.length = _
  have h : itemsOf (.ref n) S = some xs := by
    unfold itemsOf
    dsimp only
    rw [e]
  rw [h]
  rfl
theorem SeqR.len {w : MV} {xs : List MV} (h : SeqR r w xs) : lenM w (mk l s r) = some xs.length := by
  rcases h with rfl | ⟨n, rfl, e⟩
  · rfl
  · exact lenL (by rw [at_r]; exact e)
theorem SeqR.ix {w : MV} {xs : List MV} (h : SeqR r w xs) {i : Int} : wp (fIx w (.int i) (mk l s r)) E Q = ∃ w, atI xs i = some w ∧ Q w (mk l s r) := by
  rcases h with rfl | ⟨n, rfl, e⟩
  · exact wp_ixT
  · exact wp_ixL (by rw [at_r]; exact e)
theorem pick {w : MV} {xs : List MV} (h : SeqR r w xs) (h0 : xs ≠ []) (h1 : xs.length < 100000) (k : ∀ a s', a ∈ xs → Q a (mk l s' r)) : wp (D__law_pick [.ref 1, w] (mk l s r)) E Q := by
  unfold D__law_pick
  rw [wp_fn (n := List.length [PySem.Str.ofString "row", PySem.Str.ofString "things"]) (ws := [MV.ref 1, w]) rfl]
  unfold d__law_pick
  simp only [n__law_pick]
  walk_at "run2"
  refine ⟨_, h.len, ?_⟩
  have hp : 0 < xs.length := List.length_pos_iff.mpr h0
  refine taken l s r (by omega) (by omega) fun i s' h2 h3 => ?_
  rw [h.ix]
  obtain ⟨a, ha, e⟩ := atI_lt h2 h3
  refine ⟨a, e, ?_⟩
  rw [gc_mk]
  exact k a s' ha
end
def nm8 : List Str := ["egg", "box", "red", "blue", "cat", "dog", "sun", "moon"]
inductive Tree : List (Str × Str) → Prop where
  | nil : Tree []
  | snoc {xs : List (Str × Str)} {a u : Str} : Tree xs → nm8[xs.length]? = some a → u ∈ ("top" : Str) :: xs.map (·.1) → Tree (xs ++ [(a, u)])
section
variable {l : List Int} {s : S3} {r : Store} {E : EX} {Q : MV → Store → Prop} {S : Store} {QI : Src → Store → Prop}
theorem wp_srcL {n : Nat} {xs : List MV} (e : S[n]? = some (.lst xs)) : wp (srcOf (.ref n) S) E QI = QI (srcRef n) S := by
  unfold srcOf
  dsimp only
  rw [e]
  rfl
theorem wp_addL {a b : Nat} {x y : List MV} (ea : S[a]? = some (.lst x)) (eb : S[b]? = some (.lst y)) (h : x.length + y.length ≤ 1000) : wp (fAdd (.ref a) (.ref b) S) E Q = Q (.ref S.length) (S ++ [.lst (x ++ y)]) := by
  unfold fAdd
  simp only [ea, eb]
  rw [if_pos (by omega)]
  rfl
theorem getE_app {n : Nat} {o : MO} (e : S[n]? = some o) (t : Store) : (S ++ t)[n]? = some o := by
  have h := (List.getElem?_eq_some_iff.mp e).1
  rw [List.getElem?_append_left h]
  exact e
theorem mk_len : (mk l s r).length = r.length + 2 := rfl
theorem mk_app {t : Store} : mk l s r ++ t = mk l s (r ++ t) := rfl
theorem belows_ints (n : Nat) : ∀ l : List Int, belows n (l.map MV.int) = true
  | [] => rfl
  | i :: r => by
    show (below n (.int i) && belows n (r.map MV.int)) = true
    rw [belows_ints n r]
    rfl
theorem cl_mk {n : Nat} (hn : 0 < n) (cl : r.all (belowO n) = true) : (mk l s r).all (belowO n) = true := by
  show (belowO n (.rol (l.map MV.int)) && (belowO n (rowO s) && r.all (belowO n))) = true
  rw [cl]
  have h1 : belowO n (.rol (l.map MV.int)) = true := by first | rfl | exact belows_ints n l
  have h2 : belowO n (rowO s) = true := by
    simp [rowO, belowO, belows, below, hn]
  rw [h1, h2]
  rfl
end
end K38
set_option Elab.async false
set_option linter.all false
set_option maxRecDepth 100000
set_option maxHeartbeats 1000000
namespace K38
open PySem PySem.Spec PyProof.Rows L2 MI
section
variable {S : Store} {cs : List Cs} {E : EX} {Q : MV → Store → Prop}
theorem wp_isT2T {l : List MV} {T U : String} : wp (fIsT2 T U (.tup l) S) E Q = Q (.bl (isTy "tuple" T || isTy "tuple" U)) S := rfl
theorem wp_isT2S {z : Str} {T U : String} : wp (fIsT2 T U (.str z) S) E Q = Q (.bl (isTy "str" T || isTy "str" U)) S := rfl
theorem wp_isSN {z : Str} : wp (fIs (.str z) .non S) E Q = Q (.bl false) S := rfl
theorem wp_eqBB {a b : Bool} : wp (fEq (.bl a) (.bl b) S) E Q = Q (.bl (decide (a = b))) S := rfl
theorem wp_neBB {a b : Bool} : wp (fNe (.bl a) (.bl b) S) E Q = Q (.bl (!decide (a = b))) S := rfl
theorem alike_str (n : Nat) {x : Str} : R__law_alike (n + 1) [.str x, .str x] S = .ok (.bl true) S := by
  unfold R__law_alike
  refine fn_same rfl ?_
  unfold d__law_alike
  simp only [n__law_alike]
  walk_at "runp"
  simp only [wp_isT2S, ty_str_tuple, ty_str_list, Bool.or_false]
  walk_at "runp"
  simp only [wp_isSN]
  walk_at "runp"
  simp only [wp_eqBB]
  simp
theorem eq_nil {n m : Nat} (e1 : S[n]? = some (.lst [])) (e2 : S[m]? = some (.lst [])) : wp (fEq (.ref n) (.ref m) S) E Q = Q (.bl true) S := by
  have h : eqM (.ref n) (.ref m) S = some true := by
    unfold eqM
    rw [show scalM (.ref n) (.ref m) = none from rfl]
    dsimp only
    have p : ∀ k, S[k]? = some (.lst []) → toPy S (.ref k) = some (.list []) := fun k e => by
      show toPyR S 6 k = _
      unfold toPyR
      rw [e]
      rfl
    rw [p n e1, p m e2]
    rfl
  unfold fEq
  rw [h]
  rfl
theorem range_get {n i : Nat} {x : Nat} (e : (List.range n)[i]? = some x) : x = i ∧ i < n := by
  have hi : i < n := by
    have := (List.getElem?_eq_some_iff.mp e).1
    simpa using this
  rw [List.getElem?_range hi] at e
  cases e
  exact ⟨rfl, hi⟩
theorem rng_src {n i : Nat} {x : Nat} (e : (List.range n)[i]? = some x) {S' : Store} : srcRng 0 (n : Int) i S' = .yield (.int x) := by
  obtain ⟨rfl, hi⟩ := range_get e
  unfold srcRng
  rw [if_pos (by omega)]
  simp
theorem rng_stop {n : Nat} {S' : Store} : srcRng 0 (n : Int) (List.range n).length S' = .stop := by
  unfold srcRng
  rw [if_neg (by simp)]
theorem alike_int (n : Nat) {i : Int} : R__law_alike (n + 1) [.int i, .int i] S = .ok (.bl true) S := by
  unfold R__law_alike
  refine fn_same rfl ?_
  unfold d__law_alike
  simp only [n__law_alike]
  walk_at "runp"
  simp only [show ∀ S E Q, wp (fIsT2 "tuple" "list" (.int i) S) E Q = Q (.bl false) S from fun _ _ _ => rfl]
  walk_at "runp"
  simp only [show ∀ S E Q, wp (fIs (.int i) .non S) E Q = Q (.bl false) S from fun _ _ _ => rfl]
  walk_at "runp"
  simp only [wp_eqBB]
  simp
theorem alike_non (n : Nat) : R__law_alike (n + 1) [.non, .non] S = .ok (.bl true) S := by
  unfold R__law_alike
  refine fn_same rfl ?_
  unfold d__law_alike
  simp only [n__law_alike]
  walk_at "runp"
  simp only [show ∀ S E Q, wp (fIsT2 "tuple" "list" .non S) E Q = Q (.bl false) S from fun _ _ _ => rfl]
  walk_at "runp"
  simp only [show ∀ S E Q, wp (fEq .non .non S) E Q = Q (.bl true) S from fun _ _ _ => rfl]
  walk_at "runp"
  simp only [wp_eqBB]
  simp
def okA : Nat → MV → Prop
  | _ + 1, .int _ => True
  | _ + 1, .str _ => True
  | _ + 1, .non => True
  | n + 1, .tup l => l.length ≤ 4000 ∧ ∀ w ∈ l, okA n w
  | _, _ => False
theorem atL {l : List MV} {i : Nat} (hi : i < l.length) : atI l (i : Int) = some l[i] := by
  unfold atI ixN
  rw [if_pos (by omega), if_pos (by omega)]
  show l[(i : Int).toNat]? = _
  rw [Int.toNat_natCast, List.getElem?_eq_getElem hi]
theorem alike_ok : ∀ (n : Nat) (w : MV) (S : Store), MI.Cl S → okA n w → R__law_alike n [w, w] S = .ok (.bl true) S
  | 0, w, S, _, h => by unfold okA at h; exact h.elim
  | n + 1, .int i, S, _, _ => alike_int n
  | n + 1, .str i, S, _, _ => alike_str n
  | n + 1, .non, S, _, _ => alike_non n
  | n + 1, .bl b, S, _, h => by unfold okA at h; exact h.elim
  | n + 1, .ref b, S, _, h => by unfold okA at h; exact h.elim
  | n + 1, .tup A, S, c, h => by
    unfold okA at h
    obtain ⟨h, hA⟩ := h
    unfold R__law_alike
    refine fn_val rfl c rfl ?_
    unfold d__law_alike
    simp only [n__law_alike]
    walk_at "runp"
    simp only [wp_isT2T, ty_tuple_tuple, ty_tuple_list, Bool.or_false]
    walk_at "runp"
    simp only [wp_neBB]
    walk_at "runp"
    rw [if_neg (by simp), if_neg (by simp)]
    refine ⟨by omega, ?_⟩
    refine wp_lcG (fun i : Nat => .int i) (List.range A.length) (fun _ => false) (fun _ => .non) (by simp; omega) (by simp; omega) ?_ ?_ ?_ (by simp) ?_
    · intro i x S' e g
      exact rng_src e
    · intro S' g
      exact rng_stop
    · intro i hi S' g
      have hi' : i < A.length := List.mem_range.mp hi
      walk_at "runp"
      simp only [atL hi', Option.some.injEq, exists_eq_left']
      rw [alike_ok n A[i] S' (g.cl c) (hA _ (List.getElem_mem hi'))]
      walk_at "runp"
      walk_at "fin0"
    · intro S' g el
      rw [List.filter_eq_nil_iff.mpr (by simp)] at el
      have el' : S'[S.length]? = some (.lst []) := el
      refine ⟨by decide, ?_⟩
      rw [eq_nil ((Gr.refl.new (o := .lst []) rfl).at el') at_new]
      exact ⟨.inl rfl, g.new rfl⟩
theorem gc_bl {n : Nat} {b : Bool} (h : ∀ S', Q (.bl b) S') : wp (gc n (.bl b) S) E Q := by
  unfold gc
  split
  · exact h _
  · split
    · exact h _
    · exact h _
end
end K38
set_option Elab.async false
set_option linter.all false
set_option maxRecDepth 100000
set_option maxHeartbeats 1000000
namespace K38
open PySem PySem.Spec PyProof.Rows L2 MI
section
variable {S : Store} {E : EX} {Q : MV → Store → Prop}
def abc : List Nat := ("abcdefghijklmnopqrstuvwxyz" : Str).cps.toList
def letB (c : Nat) : Bool := decide (c ∈ abc)
def wordB : MV → Bool
  | .str z => decide (1 ≤ z.length) && (decide (z.length ≤ 6) && z.cps.toList.all letB)
  | _ => false
theorem wordB_str {z : Str} : wordB (.str z) = (decide (1 ≤ z.length) && (decide (z.length ≤ 6) && z.cps.toList.all letB)) := rfl
theorem is_tuple_eq {l : List MV} {a b : Int} : D_is_tuple [.tup l, .int a, .int b] S = .ok (.bl (decide (a ≤ l.length) && decide ((l.length : Int) ≤ b))) S := by
  unfold D_is_tuple
  refine fn_same rfl ?_
  unfold d_is_tuple
  simp only [n_is_tuple]
  walk_at "runp"
  split <;> simp [*]
theorem is_number_eq {i b : Int} : D_is_number [.int i, .int b] S = .ok (.bl (decide (0 ≤ i) && decide (i ≤ b))) S := by
  unfold D_is_number
  refine fn_same rfl ?_
  unfold d_is_number
  simp only [n_is_number]
  walk_at "runp"
  split <;> simp [*]
theorem is_word_str (c : MI.Cl S) (z : Str) (h0 : z.length ≤ 4000) : D_is_word [.str z] S = .ok (.bl (wordB (.str z))) S := by
  have hz : z.cps.toList.length = z.length := by rw [Array.length_toList]; rfl
  unfold D_is_word
  refine fn_val rfl c rfl ?_
  unfold d_is_word
  simp only [n_is_word]
  walk_at "runp"
  rw [wp_lenS (by omega)]
  walk_at "runp"
  rcases Decidable.em (1 ≤ z.length) with h1 | h1
  · rw [if_pos (by omega)]
    rcases Decidable.em (z.length ≤ 6) with h2 | h2
    · rw [show decide ((z.length : Int) ≤ 6) = true from decide_eq_true (by omega)]
      walk_at "runp"
      unfold c_LETTERS
      refine wp_lcS z (fun _ => true) (fun x => .bl (letB x)) (by omega) (by omega) ?_ (fun _ _ _ => rfl) ?_
      · intro x hx S' g
        walk_at "runp"
        exact ⟨rfl, Gr.refl⟩
      · intro S' g e
        rw [flt_true] at e
        rw [wp_allR (bs := z.cps.toList.map letB) (by rw [e, List.map_map]; rfl)]
        refine ⟨.inl ?_, g⟩
        rw [wordB_str, decide_eq_true h1, decide_eq_true h2, List.all_map]
        rfl
    · rw [show decide ((z.length : Int) ≤ 6) = false from decide_eq_false (by omega)]
      walk_at "runp"
      refine ⟨.inl ?_, Gr.refl⟩
      rw [wordB_str, decide_eq_false h2]
      simp
  · rw [if_neg (by omega)]
    refine ⟨.inl ?_, Gr.refl⟩
    rw [wordB_str, decide_eq_false h1]
    rfl
theorem is_word_non (c : MI.Cl S) : D_is_word [.non] S = .ok (.bl false) S := by
  unfold D_is_word
  refine fn_val rfl c rfl ?_
  unfold d_is_word
  simp only [n_is_word]
  walk_at "runp"
  walk_at "fin0"
theorem is_number_bl {i : Bool} {b : Int} : D_is_number [.bl i, .int b] S = .ok (.bl false) S := by
  unfold D_is_number
  refine fn_same rfl ?_
  unfold d_is_number
  simp only [n_is_number]
  walk_at "runp"
theorem is_number_str {i : Str} {b : Int} : D_is_number [.str i, .int b] S = .ok (.bl false) S := by
  unfold D_is_number
  refine fn_same rfl ?_
  unfold d_is_number
  simp only [n_is_number]
  walk_at "runp"
theorem is_number_non {b : Int} : D_is_number [.non, .int b] S = .ok (.bl false) S := by
  unfold D_is_number
  refine fn_same rfl ?_
  unfold d_is_number
  simp only [n_is_number]
  walk_at "runp"
theorem is_tuple_int {i a b : Int} : D_is_tuple [.int i, .int a, .int b] S = .ok (.bl false) S := by
  unfold D_is_tuple
  refine fn_same rfl ?_
  unfold d_is_tuple
  simp only [n_is_tuple]
  walk_at "runp"
theorem is_tuple_str {i : Str} {a b : Int} : D_is_tuple [.str i, .int a, .int b] S = .ok (.bl false) S := by
  unfold D_is_tuple
  refine fn_same rfl ?_
  unfold d_is_tuple
  simp only [n_is_tuple]
  walk_at "runp"
theorem is_tuple_non {a b : Int} : D_is_tuple [.non, .int a, .int b] S = .ok (.bl false) S := by
  unfold D_is_tuple
  refine fn_same rfl ?_
  unfold d_is_tuple
  simp only [n_is_tuple]
  walk_at "runp"
theorem is_tuple_ref {n : Nat} {a b : Int} (h : fIsT "tuple" (.ref n) S = .ok (.bl false) S) : D_is_tuple [.ref n, .int a, .int b] S = .ok (.bl false) S := by
  unfold D_is_tuple
  refine fn_same rfl ?_
  unfold d_is_tuple
  simp only [n_is_tuple]
  walk_at "runp"
  rw [h]
  walk_at "runp"
theorem fsl_tail {l : List MV} : fSl (.tup l) (some 1) none S = .ok (.tup (l.drop 1)) S := by
  show (Res.ok (.tup (cutM l (some 1) none)) S : Res MV) = _
  have : cutM l (some 1) none = l.drop 1 := by
    unfold cutM
    simp only [HT.sIx]
    cases l with
    | nil => rfl
    | cons a l => simp
  rw [this]
theorem fsl_tl {a : MV} {l : List MV} : fSl (.tup (a :: l)) (some 1) none S = .ok (.tup l) S := fsl_tail
inductive Atm : MV → Prop
  | str {z : Str} : z.length ≤ 4000 → Atm (.str z)
  | non : Atm .non
theorem is_word_atm (c : MI.Cl S) {w : MV} (h : Atm w) : D_is_word [w] S = .ok (.bl (wordB w)) S := by
  cases h with
  | str h => exact is_word_str c _ h
  | non => exact is_word_non c
def isS (x : Str) : MV → Bool
  | .str z => decide (z = x)
  | _ => false
def headB : List MV → Bool
  | a :: r => if r.length = 1 then isS "class" a else isS "field" a || isS "method" a
  | [] => false
theorem headB1 {a : MV} {r : List MV} (h : r.length = 1) : headB (a :: r) = isS "class" a := if_pos h
theorem headB2 {a : MV} {r : List MV} (h : ¬ r.length = 1) : headB (a :: r) = (isS "field" a || isS "method" a) := if_neg h
theorem wp_eqA {a : MV} {x : Str} (h : Atm a) : wp (fEq a (.str x) S) E Q = Q (.bl (isS x a)) S := by
  cases h with
  | str h => rfl
  | non => rfl
theorem wp_inA {a : MV} (h : Atm a) : wp (fIn a (.tup [.str "field", .str "method"]) S) E Q = Q (.bl (isS "field" a || isS "method" a)) S := by
  cases h with
  | @str z h =>
    rw [show ([.str "field", .str "method"] : List MV) = (["field", "method"] : List Str).map .str from rfl, wp_inT]
    unfold isS
    simp
  | non => rfl
def formB (l : List MV) : Bool := (decide (2 ≤ l.length) && decide (l.length ≤ 3)) && ((l.drop 1).all wordB && headB l)
theorem has_entry_form_eq (c : MI.Cl S) {l : List MV} (hl : l.length ≤ 4000) (ha : ∀ w ∈ l, Atm w) : D_has_entry_form [.tup l] S = .ok (.bl (formB l)) S := by
  unfold D_has_entry_form
  refine fn_val rfl c rfl ?_
  unfold d_has_entry_form
  simp only [n_has_entry_form]
  walk_at "runp"
  rw [is_tuple_eq]
  walk_at "runp"
  rcases Decidable.em (2 ≤ l.length) with h1 | h1
  · rcases Decidable.em (l.length ≤ 3) with h2 | h2
    · match l, hl, ha with
      | a :: r, hl, ha =>
        simp only [List.length_cons] at h1 h2 hl
        rw [show (decide ((2 : Int) ≤ ((a :: r).length : Int)) && decide (((a :: r).length : Int) ≤ 3)) = true from by simp only [List.length_cons, Bool.and_eq_true, decide_eq_true_eq]; omega]
        walk_at "runp"
        rw [fsl_tl]
        walk_at "runp"
        rw [show srcL r = srcL (r.map fun w : MV => w) by simp]
        refine wp_lcT (fun w : MV => w) r (fun _ => true) (fun w => .bl (wordB w)) (by omega) (by omega) ?_ (fun _ _ _ => rfl) ?_
        · intro z hz S2 g2
          walk_at "runp"
          rw [is_word_atm (g2.cl c) (ha z (List.mem_cons_of_mem _ hz))]
          walk_at "runp"
          walk_at "fin0"
        · intro S2 g2 el
          rw [flt_true] at el
          rw [wp_allR (bs := r.map wordB) (by rw [el, List.map_map]; rfl)]
          rw [List.all_map]
          have hf : formB (a :: r) = (r.all wordB && headB (a :: r)) := by
            unfold formB
            rw [show (decide (2 ≤ (a :: r).length) && decide ((a :: r).length ≤ 3)) = true from by simp only [List.length_cons, Bool.and_eq_true, decide_eq_true_eq]; omega]
            rfl
          rw [hf]
          rw [show r.all (id ∘ wordB) = r.all wordB from rfl]
          walk_at "runp"
          cases eW : r.all wordB with
          | false =>
            walk_at "runp"
            simp
            exact g2
          | true =>
            walk_at "runp"
            rcases Decidable.em (r.length = 1) with e1 | e1
            · rw [if_pos (by omega), headB1 e1, wp_eqA (ha a (List.mem_cons_self ..))]
              exact ⟨.inl (by simp), g2⟩
            · rw [if_neg (by omega), headB2 e1]
              refine ⟨by decide, ?_⟩
              rw [wp_inA (ha a (List.mem_cons_self ..))]
              exact ⟨.inl (by simp), g2⟩
      | [], hl, ha => simp at h1
    · rw [show (decide ((2 : Int) ≤ (l.length : Int)) && decide ((l.length : Int) ≤ 3)) = false from by rw [decide_eq_false (show ¬ (l.length : Int) ≤ 3 by omega), Bool.and_false]]
      walk_at "runp"
      refine ⟨.inl ?_, Gr.refl⟩
      unfold formB
      rw [decide_eq_false h2]
      simp
  · rw [show (decide ((2 : Int) ≤ (l.length : Int)) && decide ((l.length : Int) ≤ 3)) = false from by rw [decide_eq_false (show ¬ (2 : Int) ≤ (l.length : Int) by omega), Bool.false_and]]
    walk_at "runp"
    refine ⟨.inl ?_, Gr.refl⟩
    unfold formB
    rw [decide_eq_false h1]
    rfl
end
end K38
set_option Elab.async false
set_option linter.all false
set_option maxRecDepth 100000
set_option maxHeartbeats 1000000
namespace K38
open PySem PySem.Spec PyProof.Rows L2 MI
def firstBad {α : Type} (b : α → Bool) : List α → Option Nat
  | [] => none
  | x :: r => if b x then (firstBad b r).map (· + 1) else some 0
theorem fb_all {α : Type} {b : α → Bool} : ∀ {l : List α}, (∀ x ∈ l, b x = true) → firstBad b l = none
  | [], _ => rfl
  | x :: r, h => by
    unfold firstBad
    rw [if_pos (h x (List.mem_cons_self ..)), fb_all fun y hy => h y (List.mem_cons_of_mem _ hy)]
    rfl
theorem fb_at {α : Type} {b : α → Bool} {x : α} {post : List α} (hx : b x = false) : ∀ {pre : List α}, (∀ z ∈ pre, b z = true) → firstBad b (pre ++ x :: post) = some pre.length
  | [], _ => by
    show (if b x then _ else _) = _
    rw [if_neg (by rw [hx]; decide)]
    rfl
  | y :: r, h => by
    show (if b y then (firstBad b (r ++ x :: post)).map (· + 1) else _) = _
    rw [if_pos (h y (List.mem_cons_self ..)), fb_at hx fun z hz => h z (List.mem_cons_of_mem _ hz)]
    rfl
def Told (r : Res MV) (S : Store) (v : MV) (c f : Str) : Option Nat → Prop
  | none => r = .ok v S
  | some i => ∃ S', Gr S S' ∧ r = .err c [(f, .int i)] S'
def TellS (S : Store) (v : MV) (c f : Str) (o : Option Nat) (fl : Fl) (S' : Store) : Prop := Gr S S' ∧ match o with
  | none => fl = .ret v ∨ (v = .non ∧ ∃ ρ, fl = .next ρ)
  | some i => ∃ ρ, fl = .exc c [(f, .int i)] ρ
section
variable {S : Store} {E : EX} {Q : MV → Store → Prop}
theorem fmt_nat {n : Nat} (h : n ≤ 4000) : [MV.int (n : Int)].all fmtW = true := by
  show (decide ((n : Int).natAbs.log2 < 1920) && true) = true
  rw [Bool.and_true, decide_eq_true_eq, Int.natAbs_natCast]
  have : n.log2 ≤ n := Nat.log2_le_self n
  rcases Nat.eq_zero_or_pos n with h0 | h0
  · subst h0; decide
  · have h2 := Nat.log2_lt (n := n) (k := 13) (by omega)
    have := h2.mpr (by omega)
    omega
theorem fn_err {k N : Nat} {body : DenS} {ws : List MV} {cl : Str} {fs : List (Str × MV)} (hl : ws.length = k) (h : wp (body (ws.map some ++ List.replicate (N - k) none) S) NE fun f S' => Gr S S' ∧ ∃ ρ, f = .exc cl fs ρ) : ∃ S', Gr S S' ∧ mkFn k N body ws S = .err cl fs S' := by
  obtain ⟨f, S', e, h1, ρ, rfl⟩ := h.ex
  refine ⟨S', h1, ?_⟩
  unfold mkFn
  rw [if_pos hl, hl, e]
theorem fn_told {k N : Nat} {body : DenS} {ws : List MV} {v : MV} {c f : Str} {o : Option Nat} (hl : ws.length = k) (cl : MI.Cl S) (b : below 0 v = true) (h : wp (body (ws.map some ++ List.replicate (N - k) none) S) NE (TellS S v c f o)) : Told (mkFn k N body ws S) S v c f o := by
  cases o with
  | none => exact fn_val hl cl b (h.mono fun fl S' t => ⟨t.2, t.1⟩)
  | some i => exact fn_err hl (h.mono fun fl S' t => t)
theorem check_pool_eq (c : MI.Cl S) {vs : List MV} {b : MV → Bool} (hl : vs.length ≤ 99) (hB : ∀ w ∈ vs, ∀ S', Gr S S' → D_has_entry_form [w] S' = .ok (.bl (b w)) S') : Told (D_check_pool [.tup vs] S) S .non "BadPool" "index" (firstBad b vs) := by
  unfold D_check_pool
  refine fn_told rfl c rfl ?_
  unfold d_check_pool
  simp only [n_check_pool]
  walk_at "runp"
  rw [is_tuple_eq]
  rw [show (decide ((0 : Int) ≤ (vs.length : Int)) && decide ((vs.length : Int) ≤ 99)) = true from by rw [decide_eq_true (by omega : (0:Int) ≤ vs.length), decide_eq_true (by omega : (vs.length : Int) ≤ 99)]; rfl]
  generalize ho : firstBad b vs = o
  walk_at "runp"
  rw [show srcEnumL 0 vs = srcEnumL 0 (vs.map fun w : MV => w) by simp]
  refine wp_forE (f := 4096) (fun w : MV => w) vs (fun pre ρ S' => Gr S S' ∧ (∀ z ∈ pre, b z = true) ∧ ∃ v1 v2, ρ = [some (.tup vs), v1, v2]) (by omega) ⟨Gr.refl, by simp, _, _, rfl⟩ ?_ ?_
  · rintro pre e post ρ S' ep ⟨g, hp, v1, v2, rfl⟩
    walk_at "runp"
    rw [hB e (by rw [ep]; simp) S' g]
    walk_at "runp"
    cases eb : b e with
    | true =>
      walk_at "runp"
      simp only [keep]
      refine ⟨g, fun z hz => ?_, _, _, rfl⟩
      rcases List.mem_append.mp hz with hz | hz
      · exact hp z hz
      · rw [List.mem_singleton.mp hz]; exact eb
    | false =>
      walk_at "runp"
      rw [wp_raiseF]
      walk_at "runp"
      rw [if_pos (fmt_nat (by have := congrArg List.length ep; simp at this; omega))]
      rw [ep, fb_at eb hp] at ho
      subst ho
      exact ⟨g, _, rfl⟩
  · rintro ρ S' ⟨g, hp, v1, v2, rfl⟩
    rw [fb_all hp] at ho
    subst ho
    exact ⟨g, .inr ⟨rfl, _, rfl⟩⟩
end
end K38
set_option Elab.async false
set_option linter.all false
set_option maxRecDepth 100000
set_option maxHeartbeats 1000000
namespace K38
open PySem PySem.Spec PyProof.Rows L2 MI
def kinds6 : List (Str × Str) := [("new", "class"), ("cast", "class"), ("is", "class"), ("get", "field"), ("put", "field"), ("call", "method")]
def kindOf (a : Str) : Option Str := kinds6.lookup a
theorem lookup_map {α β : Type} (f : α → β) (a : Str) : ∀ l : List (Str × α), (l.map fun q => (q.1, f q.2)).lookup a = (l.lookup a).map f
  | [] => rfl
  | (k, v) :: l => by
    rw [List.map_cons]
    show (match a == k with | true => some (f v) | false => (l.map fun q => (q.1, f q.2)).lookup a) = (match a == k with | true => some v | false => l.lookup a).map f
    cases a == k with
    | true => rfl
    | false => exact lookup_map f a l
theorem naming_lookup (a : Str) : tb_NAMING.lookup a = (kindOf a).map MV.str := lookup_map MV.str a kinds6
def mvO (e : List Str) : MV := .tup (e.map .str)
inductive Ato : MV → Prop
  | str (z : Str) (h : PyData.strOk z = true) : Ato (.str z)
  | int (i : Int) : Ato (.int i)
  | bl (b : Bool) : Ato (.bl b)
  | non : Ato .non
def namK : List MV → Option Str
  | .str a :: _ => kindOf a
  | _ => none
def entA (es : List (List Str)) (i : Int) : List Str := es.getD i.toNat []
def goes (es : List (List Str)) : List MV → Bool
  | [.str a, .int i] => (decide (0 ≤ i) && decide (i ≤ (es.length : Int) - 1)) && decide ((entA es i).head? = kindOf a)
  | _ => false
def stB (es : List (List Str)) (l : List MV) : Bool := match namK l with
  | none => true
  | some _ => goes es l
def res (es : List (List Str)) (l : List MV) : MV := match namK l with
  | none => .tup l
  | some _ => match l with
    | [.str a, .int i] => .tup (.str a :: ((entA es i).drop 1).map .str)
    | _ => .tup l
section
variable {S : Store} {E : EX} {Q : MV → Store → Prop}
theorem wp_inK {tb : List (Str × MV)} {z : Str} : wp (fInK tb (.str z) S) E Q = Q (.bl (tb.lookup z).isSome) S := rfl
theorem wp_ixK {tb : List (Str × MV)} {z : Str} {w : MV} (h : tb.lookup z = some w) : wp (fIxK tb (.str z) S) E Q = Q w S := by
  unfold fIxK
  simp only [h]
  rfl
theorem fn_sameP {k N : Nat} {body : DenS} {ws : List MV} {v : MV} (hl : ws.length = k) (h : ∀ P : Fl → Store → Prop, P (.ret v) S → wp (body (ws.map some ++ List.replicate (N - k) none) S) NE P) : mkFn k N body ws S = .ok v S :=
  fn_same hl (h _ ⟨.inl rfl, rfl⟩)
theorem is_naming_eq {l : List MV} (h : ∀ w ∈ l, Ato w) : D_is_naming [.tup l] S = .ok (.bl (namK l).isSome) S := by
  unfold D_is_naming
  refine fn_sameP rfl fun P hP => ?_
  unfold d_is_naming
  simp only [n_is_naming]
  walk_at "runp"
  match l, h, hP with
  | [], h, hP =>
    walk_at "runp"
    rw [if_neg (by decide)]
    exact hP
  | a :: r, h, hP =>
    rw [if_pos (by rw [List.length_cons]; omega)]
    cases h a (List.mem_cons_self ..) with
    | str z =>
      walk_at "runp"
      rw [wp_inK, naming_lookup, Option.isSome_map]
      exact hP
    | int i =>
      walk_at "runp"
      exact hP
    | bl b =>
      walk_at "runp"
      exact hP
    | non =>
      walk_at "runp"
      exact hP
theorem goes_eq {es : List (List Str)} (hE : ∀ e ∈ es, e ≠ []) {a k : Str} {r : List MV} (hk : kindOf a = some k) (h : ∀ w ∈ r, Ato w) : D_goes_with_entry [.tup (es.map mvO), .tup (.str a :: r)] S = .ok (.bl (goes es (.str a :: r))) S := by
  unfold D_goes_with_entry
  refine fn_sameP rfl fun P hP => ?_
  unfold d_goes_with_entry
  simp only [n_goes_with_entry]
  walk_at "runp"
  match r, h, hP with
  | [], h, hP =>
    rw [if_pos (by decide)]
    exact hP
  | w1 :: w2 :: r, h, hP =>
    rw [if_pos (by simp only [List.length_cons, Bool.not_eq_true', decide_eq_false_iff_not]; omega)]
    cases h w1 (List.mem_cons_self ..) <;> exact hP
  | [w1], h, hP =>
    rw [if_neg (by simp)]
    refine ⟨w1, rfl, ?_⟩
    cases h w1 (List.mem_cons_self ..) with
    | str z => rw [is_number_str]; walk_at "runp"; exact hP
    | bl b => rw [is_number_bl]; walk_at "runp"; exact hP
    | non => rw [is_number_non]; walk_at "runp"; exact hP
    | int i =>
      rw [is_number_eq, List.length_map]
      rw [show goes es [.str a, .int i] = ((decide (0 ≤ i) && decide (i ≤ (es.length : Int) - 1)) && decide ((entA es i).head? = kindOf a)) from rfl] at hP
      cases hb : (decide (0 ≤ i) && decide (i ≤ (es.length : Int) - 1)) with
      | false =>
        rw [hb] at hP
        walk_at "runp"
        exact hP
      | true =>
        rw [hb] at hP
        rw [Bool.and_eq_true, decide_eq_true_eq, decide_eq_true_eq] at hb
        obtain ⟨h0, h1⟩ := hb
        have hi : i.toNat < es.length := by omega
        have ea : entA es i = es[i.toNat] := by
          unfold entA
          rw [List.getD_eq_getElem?_getD, List.getElem?_eq_getElem hi]
          rfl
        have ei : atI (es.map mvO) i = some (mvO es[i.toNat]) := by
          have := atL (l := es.map mvO) (i := i.toNat) (by simpa using hi)
          rw [List.getElem_map] at this
          rw [← this]
          congr 1
          omega
        walk_at "runp"
        rw [ei]
        refine ⟨_, rfl, ?_⟩
        rw [ea] at hP
        have hne := hE _ (List.getElem_mem hi)
        match e0 : es[i.toNat], hne with
        | x :: q, _ =>
        rw [e0] at hP
        unfold mvO
        rw [List.map_cons]
        walk_at "runp"
        rw [wp_ixK (by rw [naming_lookup, hk]; rfl)]
        walk_at "runp"
        rw [show decide ((x :: q).head? = kindOf a) = decide (x = k) from by rw [hk]; simp] at hP
        rw [Bool.true_and] at hP
        exact hP
end
end K38
set_option Elab.async false
set_option linter.all false
set_option maxRecDepth 100000
set_option maxHeartbeats 1000000
namespace K38
open PySem PySem.Spec PyProof.Rows L2 MI
section
variable {S : Store} {E : EX} {Q : MV → Store → Prop}
theorem fb_none {α : Type} {b : α → Bool} : ∀ {l : List α}, firstBad b l = none → ∀ x ∈ l, b x = true
  | [], _, _, h => by cases h
  | y :: r, e, x, h => by
    unfold firstBad at e
    split at e
    · rename_i hy
      rcases List.mem_cons.mp h with rfl | h
      · exact hy
      · refine fb_none ?_ x h
        cases e2 : firstBad b r with
        | none => rfl
        | some i => rw [e2] at e; cases e
    · cases e
theorem step_ok {es : List (List Str)} (hE : ∀ e ∈ es, e ≠ []) {l : List MV} (h : ∀ w ∈ l, Ato w) {k : Str} (hk : namK l = some k) : D_goes_with_entry [.tup (es.map mvO), .tup l] S = .ok (.bl (goes es l)) S := by
  match l, h, hk with
  | a :: r, h, hk =>
    cases h a (List.mem_cons_self ..) with
    | str z => exact goes_eq hE hk fun w hw => h w (List.mem_cons_of_mem _ hw)
    | int i => cases hk
    | bl b => cases hk
    | non => cases hk
theorem check_pooled_eq (c : MI.Cl S) {es : List (List Str)} (hE : ∀ e ∈ es, e ≠ []) {L : List (List MV)} (hl : L.length ≤ 20) (h : ∀ l ∈ L, ∀ w ∈ l, Ato w) : Told (D_check_pooled [.tup (es.map mvO), .tup (L.map .tup)] S) S .non "BadPooled" "step" (firstBad (stB es) L) := by
  unfold D_check_pooled
  refine fn_told rfl c rfl ?_
  generalize ho : firstBad (stB es) L = o
  have hfin : ∀ ρ S', Gr S S' → firstBad (stB es) L = none → TellS S .non "BadPooled" "step" o (.next ρ) S' := fun ρ S' g e => by
    rw [← ho, e]
    exact ⟨g, .inr ⟨rfl, _, rfl⟩⟩
  have hexc : ∀ ρ S' i, Gr S S' → firstBad (stB es) L = some i → TellS S .non "BadPooled" "step" o (.exc "BadPooled" [("step", .int (i : Nat))] ρ) S' := fun ρ S' i g e => by
    rw [← ho, e]
    exact ⟨g, _, rfl⟩
  generalize TellS S .non "BadPooled" "step" o = P at hfin hexc
  unfold d_check_pooled
  simp only [n_check_pooled]
  walk_at "runp"
  rw [is_tuple_eq, List.length_map]
  rw [show (decide ((0 : Int) ≤ (L.length : Int)) && decide ((L.length : Int) ≤ 20)) = true from by rw [decide_eq_true (by omega : (0:Int) ≤ L.length), decide_eq_true (by omega : (L.length : Int) ≤ 20)]; rfl]
  walk_at "runp"
  refine wp_lcT MV.tup L (fun _ => true) (fun _ => .bl true) (by omega) (by omega) ?_ (fun _ _ _ => rfl) ?_
  · intro x hx S' g
    walk_at "runp"
    exact Gr.refl
  · intro S1 g1 el
    rw [flt_true] at el
    rw [wp_allR (bs := L.map fun _ => true) (by rw [el, List.map_map]; rfl)]
    rw [show (L.map fun _ => true).all id = true from by simp]
    walk_at "runp"
    refine wp_forE (f := 4096) MV.tup L (fun pre ρ S' => Gr S S' ∧ (∀ z ∈ pre, stB es z = true) ∧ ∃ v1 v2, ρ = [some (.tup (es.map mvO)), some (.tup (L.map .tup)), v1, v2]) (by omega) ⟨g1, by simp, _, _, rfl⟩ ?_ ?_
    · rintro pre l post ρ S' ep ⟨g, hp, v1, v2, rfl⟩
      have hlL : l ∈ L := by rw [ep]; simp
      have more : stB es l = true → ∀ z ∈ pre ++ [l], stB es z = true := fun e z hz => by
        rcases List.mem_append.mp hz with hz | hz
        · exact hp z hz
        · rw [List.mem_singleton.mp hz]; exact e
      walk_at "runp"
      rw [is_naming_eq (h l hlL)]
      cases ek : namK l with
      | none =>
        walk_at "runp"
        simp only [keep]
        exact ⟨g, more (by unfold stB; rw [ek]), _, _, rfl⟩
      | some k =>
        have eb : stB es l = goes es l := by unfold stB; rw [ek]
        rw [Option.isSome_some]
        walk_at "runp"
        rw [step_ok hE (h l hlL) ek]
        cases eg : goes es l with
        | true =>
          walk_at "runp"
          simp only [keep]
          exact ⟨g, more (by rw [eb, eg]), _, _, rfl⟩
        | false =>
          walk_at "runp"
          rw [wp_raiseF]
          walk_at "runp"
          rw [if_pos (fmt_nat (by have := congrArg List.length ep; simp at this; omega))]
          exact hexc _ _ _ g (by rw [ep]; exact fb_at (by rw [eb, eg]) hp)
    · rintro ρ S' ⟨g, hp, v1, v2, rfl⟩
      exact hfin _ _ g (fb_all hp)
theorem below_res {es : List (List Str)} {l : List MV} (h : ∀ w ∈ l, Ato w) : below 0 (res es l) = true := by
  have hl : belows 0 l = true := by
    have := blws_map 0 (fun w : MV => w) l (fun w hw => by cases h w hw <;> rfl)
    simpa using this
  unfold res
  split
  · exact hl
  · split
    · show (true && belows 0 _) = true
      exact blws_str 0 _
    · exact hl
theorem laid {es : List (List Str)} (hE : ∀ e ∈ es, e ≠ []) {l : List MV} (hg : stB es l = true) {k : Str} (hk : namK l = some k) : ∃ a i e, e ∈ es ∧ l = [.str a, .int i] ∧ atI (es.map mvO) i = some (mvO e) ∧ entA es i = e ∧ res es l = .tup (.str a :: (e.drop 1).map .str) := by
  have eb : goes es l = true := by
    unfold stB at hg
    rw [hk] at hg
    exact hg
  unfold goes at eb
  split at eb
  · rename_i a i
    rw [Bool.and_eq_true, Bool.and_eq_true, decide_eq_true_eq, decide_eq_true_eq] at eb
    obtain ⟨⟨h0, h1⟩, _⟩ := eb
    have hi : i.toNat < es.length := by omega
    have ea : entA es i = es[i.toNat] := by
      unfold entA
      rw [List.getD_eq_getElem?_getD, List.getElem?_eq_getElem hi]
      rfl
    have ei : atI (es.map mvO) i = some (mvO es[i.toNat]) := by
      have := atL (l := es.map mvO) (i := i.toNat) (by simpa using hi)
      rw [List.getElem_map] at this
      rw [← this]
      congr 1
      omega
    refine ⟨a, i, _, List.getElem_mem hi, rfl, ei, ea, ?_⟩
    rw [← ea]
    unfold res
    rw [hk]
  · cases eb
theorem unpooled_eq (c : MI.Cl S) {es : List (List Str)} (h99 : es.length ≤ 99) (hE : ∀ e ∈ es, e ≠ []) (hE3 : ∀ e ∈ es, e.length ≤ 3) (hF : ∀ e ∈ es, ∀ S', MI.Cl S' → D_has_entry_form [mvO e] S' = .ok (.bl true) S') {L : List (List MV)} (hl : L.length ≤ 20) (h : ∀ l ∈ L, ∀ w ∈ l, Ato w) :
    Told (D_unpooled [.tup (es.map mvO), .tup (L.map .tup)] S) S (.tup (L.map (res es))) "BadPooled" "step" (firstBad (stB es) L) := by
  have hb : belows 0 (L.map (res es)) = true := blws_map 0 _ L fun l hl => below_res (h l hl)
  have k1 := check_pool_eq c (vs := es.map mvO) (b := fun _ => true) (by simpa using h99) (fun w hw S' g => by obtain ⟨e, he, rfl⟩ := List.mem_map.mp hw; exact hF e he S' (g.cl c))
  rw [fb_all (fun _ _ => rfl)] at k1
  have k1 : D_check_pool [.tup (es.map mvO)] S = .ok .non S := k1
  have k2 := check_pooled_eq c hE hl h
  unfold D_unpooled
  refine fn_told rfl c hb ?_
  generalize ho : firstBad (stB es) L = o at k2 ⊢
  have hret : ∀ S', Gr S S' → o = none → TellS S (.tup (L.map (res es))) "BadPooled" "step" o (.ret (.tup (L.map (res es)))) S' := fun S' g e => by
    subst e
    exact ⟨g, .inl rfl⟩
  have hexc : ∀ ρ S' i, Gr S S' → o = some i → TellS S (.tup (L.map (res es))) "BadPooled" "step" o (.exc "BadPooled" [("step", .int (i : Nat))] ρ) S' := fun ρ S' i g e => by
    subst e
    exact ⟨g, _, rfl⟩
  generalize TellS S (.tup (L.map (res es))) "BadPooled" "step" o = P at hret hexc
  unfold d_unpooled
  simp only [n_unpooled]
  walk_at "runp"
  rw [k1]
  walk_at "runp"
  cases o with
  | some i =>
    obtain ⟨S2, g2, e2⟩ := k2
    rw [e2]
    exact hexc _ _ _ g2 rfl
  | none =>
    have k2 : D_check_pooled [.tup (es.map mvO), .tup (L.map .tup)] S = .ok .non S := k2
    rw [k2]
    walk_at "runp"
    have hall : ∀ l ∈ L, stB es l = true := fb_none ho
    refine wp_lcT MV.tup L (fun _ => true) (res es) (by omega) (by omega) ?_ (fun l hl _ => below_res (h l hl)) ?_
    · intro l hlL S' g
      walk_at "runp"
      rw [is_naming_eq (h l hlL)]
      cases ek : namK l with
      | none =>
        walk_at "runp"
        have er : res es l = .tup l := by unfold res; rw [ek]
        exact ⟨er.symm, Gr.refl⟩
      | some k =>
        obtain ⟨a, i, e, he, rfl, ei, ea, er⟩ := laid hE (hall l hlL) ek
        rw [Option.isSome_some]
        walk_at "runp"
        rw [ei]
        refine ⟨_, rfl, ?_⟩
        unfold mvO
        rw [fsl_tail]
        walk_at "runp"
        have h3 := hE3 e he
        refine ⟨?_, ?_, Gr.refl⟩
        · simp
          omega
        · rw [er, List.append_nil, List.map_drop]
    · intro S1 g1 el
      rw [flt_true] at el
      rw [wp_tupR el]
      exact hret _ g1 rfl
end
end K38
set_option Elab.async false
set_option linter.all false
set_option maxRecDepth 100000
set_option maxHeartbeats 1000000
namespace K38
open PySem PySem.Spec PyProof.Rows L2 MI
section
variable {S : Store} {E : EX} {Q : MV → Store → Prop}
theorem told_ok (c : MI.Cl S) {u v w : MV} (h : D_unpooled [u, v] S = .ok w S) (hb : below 0 w = true) : D__law_told [u, v] S = .ok w S := by
  unfold D__law_told
  refine fn_val rfl c hb ?_
  unfold d__law_told
  simp only [n__law_told]
  refine wp_tryM ?_
  walk_at "runp"
  rw [h]
  exact ⟨.inl rfl, Gr.refl⟩
theorem told_pool (c : MI.Cl S) {u v x : MV} (h : ∃ S', Gr S S' ∧ D_unpooled [u, v] S = .err "BadPool" [("index", x)] S') (hb : below 0 x = true) : D__law_told [u, v] S = .ok (.tup [.str "pool", x]) S := by
  obtain ⟨S2, g2, e2⟩ := h
  unfold D__law_told
  refine fn_val rfl c (show (true && (below 0 x && true)) = true by rw [hb]; rfl) ?_
  unfold d__law_told
  simp only [n__law_told]
  refine wp_tryM ?_
  walk_at "runp"
  rw [e2]
  have t : tb_BadPool "BadPool" = some true := by
    unfold tb_BadPool
    rw [if_pos rfl]
  have ok : ok_f_index "BadPool" = true := by unfold ok_f_index; simp
  unfold wp clauses
  dsimp only [ClaM.tbl, ClaM.does]
  rw [t]
  unfold rvTup rvCons rvStr rvFld rvNil
  rw [if_pos ok]
  exact ⟨.inl rfl, g2⟩
theorem told_pooled (c : MI.Cl S) {u v x : MV} (h : ∃ S', Gr S S' ∧ D_unpooled [u, v] S = .err "BadPooled" [("step", x)] S') (hb : below 0 x = true) : D__law_told [u, v] S = .ok (.tup [.str "pooled", x]) S := by
  obtain ⟨S2, g2, e2⟩ := h
  unfold D__law_told
  refine fn_val rfl c (show (true && (below 0 x && true)) = true by rw [hb]; rfl) ?_
  unfold d__law_told
  simp only [n__law_told]
  refine wp_tryM ?_
  walk_at "runp"
  rw [e2]
  have t : tb_BadPool "BadPooled" = some false := by
    unfold tb_BadPool
    rw [if_neg (by decide +kernel), if_pos rfl]
  have t2 : tb_BadPooled "BadPooled" = some true := by
    unfold tb_BadPooled
    rw [if_neg (by decide +kernel), if_pos rfl]
  have ok : ok_f_step "BadPooled" = true := by unfold ok_f_step; simp
  unfold wp clauses
  dsimp only [ClaM.tbl, ClaM.does]
  rw [t]
  dsimp only
  unfold clauses
  dsimp only [ClaM.tbl, ClaM.does]
  rw [t2]
  unfold rvTup rvCons rvStr rvFld rvNil
  rw [if_pos ok]
  exact ⟨.inl rfl, g2⟩
def tellV (word : Str) (v : MV) : Option Nat → MV
  | none => v
  | some i => .tup [.str word, .int i]
theorem law_told_eq (c : MI.Cl S) {es : List (List Str)} (h99 : es.length ≤ 99) (hE : ∀ e ∈ es, e ≠ []) (hE3 : ∀ e ∈ es, e.length ≤ 3) (hF : ∀ e ∈ es, ∀ S', MI.Cl S' → D_has_entry_form [mvO e] S' = .ok (.bl true) S') {L : List (List MV)} (hl : L.length ≤ 20) (h : ∀ l ∈ L, ∀ w ∈ l, Ato w) :
    D__law_told [.tup (es.map mvO), .tup (L.map .tup)] S = .ok (tellV "pooled" (.tup (L.map (res es))) (firstBad (stB es) L)) S := by
  have k := unpooled_eq c h99 hE hE3 hF hl h
  cases e : firstBad (stB es) L with
  | none =>
    rw [e] at k
    exact told_ok c k (blws_map 0 _ L fun l hl => below_res (h l hl))
  | some i =>
    rw [e] at k
    exact told_pooled c k rfl
theorem told_bad (c : MI.Cl S) {vs : List MV} {b : MV → Bool} {v : MV} {i : Nat} (hl : vs.length ≤ 99) (hB : ∀ w ∈ vs, ∀ S', Gr S S' → D_has_entry_form [w] S' = .ok (.bl (b w)) S') (hi : firstBad b vs = some i) : D__law_told [.tup vs, v] S = .ok (.tup [.str "pool", .int i]) S := by
  refine told_pool c ?_ rfl
  have k := check_pool_eq c hl hB
  rw [hi] at k
  obtain ⟨S2, g2, e2⟩ := k
  unfold D_unpooled
  refine fn_err rfl ?_
  unfold d_unpooled
  simp only [n_unpooled]
  walk_at "runp"
  rw [e2]
  exact ⟨g2, _, rfl⟩
theorem told_none (c : MI.Cl S) {w v : MV} (h : D_is_tuple [w, .int 0, .int 99] S = .ok (.bl false) S) : D__law_told [w, v] S = .ok (.tup [.str "pool", .non]) S := by
  refine told_pool c ?_ rfl
  unfold D_unpooled
  refine fn_err rfl ?_
  unfold d_unpooled
  simp only [n_unpooled]
  walk_at "runp"
  have : ∃ S', Gr S S' ∧ D_check_pool [w] S = .err "BadPool" [("index", .non)] S' := by
    unfold D_check_pool
    refine fn_err rfl ?_
    unfold d_check_pool
    simp only [n_check_pool]
    walk_at "runp"
    rw [h]
    walk_at "runp"
    rw [wp_raiseF]
    walk_at "runp"
    rw [if_pos (by decide)]
    exact ⟨Gr.refl, _, rfl⟩
  obtain ⟨S2, g2, e2⟩ := this
  rw [e2]
  exact ⟨g2, _, rfl⟩
theorem pool_nil (c : MI.Cl S) : D_check_pool [.tup []] S = .ok .non S :=
  check_pool_eq c (vs := []) (b := fun _ => true) (by simp) (fun w hw => by cases hw)
theorem told_code (c : MI.Cl S) {w : MV} (h : ∃ S', Gr S S' ∧ D_check_pooled [.tup [], w] S = .err "BadPooled" [("step", .non)] S') : D__law_told [.tup [], w] S = .ok (.tup [.str "pooled", .non]) S := by
  refine told_pooled c ?_ rfl
  unfold D_unpooled
  refine fn_err rfl ?_
  unfold d_unpooled
  simp only [n_unpooled]
  walk_at "runp"
  rw [pool_nil c]
  walk_at "runp"
  obtain ⟨S2, g2, e2⟩ := h
  rw [e2]
  exact ⟨g2, _, rfl⟩
theorem told_notup (c : MI.Cl S) {w : MV} (h : D_is_tuple [w, .int 0, .int 20] S = .ok (.bl false) S) : D__law_told [.tup [], w] S = .ok (.tup [.str "pooled", .non]) S := by
  refine told_code c ?_
  unfold D_check_pooled
  refine fn_err rfl ?_
  unfold d_check_pooled
  simp only [n_check_pooled]
  walk_at "runp"
  rw [h]
  walk_at "runp"
  rw [wp_raiseF]
  walk_at "runp"
  rw [if_pos (by decide)]
  exact ⟨Gr.refl, _, rfl⟩
theorem told_steps (c : MI.Cl S) {vs : List MV} {t : MV → Bool} (hl : vs.length ≤ 20) (ht : ∀ x ∈ vs, ∀ S', Gr S S' → fIsT "tuple" x S' = .ok (.bl (t x)) S') (hf : vs.all t = false) : D__law_told [.tup [], .tup vs] S = .ok (.tup [.str "pooled", .non]) S := by
  refine told_code c ?_
  unfold D_check_pooled
  refine fn_err rfl ?_
  unfold d_check_pooled
  simp only [n_check_pooled]
  walk_at "runp"
  rw [is_tuple_eq]
  rw [show (decide ((0 : Int) ≤ (vs.length : Int)) && decide ((vs.length : Int) ≤ 20)) = true from by rw [decide_eq_true (by omega : (0:Int) ≤ vs.length), decide_eq_true (by omega : (vs.length : Int) ≤ 20)]; rfl]
  walk_at "runp"
  rw [show srcL vs = srcL (vs.map fun w : MV => w) by simp]
  refine wp_lcT (fun w : MV => w) vs (fun _ => true) (fun w => .bl (t w)) (by omega) (by omega) ?_ (fun _ _ _ => rfl) ?_
  · intro x hx S' g
    walk_at "runp"
    rw [ht x hx S' g]
    exact ⟨rfl, Gr.refl⟩
  · intro S1 g1 el
    rw [flt_true] at el
    rw [wp_allR (bs := vs.map t) (by rw [el, List.map_map]; rfl)]
    rw [List.all_map, show vs.all (id ∘ t) = vs.all t from rfl, hf]
    walk_at "runp"
    rw [wp_raiseF]
    walk_at "runp"
    rw [if_pos (by decide)]
    exact ⟨g1, _, rfl⟩
end
end K38
set_option Elab.async false
set_option linter.all false
set_option maxRecDepth 100000
set_option maxHeartbeats 1000000
namespace K38
open PySem PySem.Spec PyProof.Rows L2 MI
def kindsK : List (Key × MV) := kinds6.map fun q => (.inr q.1, .str q.2)
section
variable {S : Store} {E : EX} {Q : MV → Store → Prop}
theorem wp_ixD {n : Nat} {kvs : List (Key × MV)} {x : Str} {v : MV} (h : S[n]? = some (.dic kvs)) (hv : valM kvs (.inr x) = some v) : wp (fIx (.ref n) (.str x) S) E Q = Q v S := by
  unfold fIx keyM
  simp only [h, hv]
  rfl
theorem wp_addT {x y : List MV} (h : x.length + y.length ≤ 100000) : wp (fAdd (.tup x) (.tup y) S) E Q = Q (.tup (x ++ y)) S := by
  unfold fAdd
  dsimp only
  rw [if_pos h]
  rfl
theorem valM_kinds (a : Str) : valM kindsK (.inr a) = (kindOf a).map MV.str := by
  have key : ∀ l : List (Str × Str), valM (l.map fun q => ((Sum.inr q.1 : Key), MV.str q.2)) (.inr a) = (l.lookup a).map MV.str := by
    intro l
    induction l with
    | nil => rfl
    | cons q l ih =>
      obtain ⟨k, v⟩ := q
      unfold valM at ih ⊢
      rw [List.map_cons, List.find?_cons]
      show _ = (match a == k with | true => some v | false => l.lookup a).map MV.str
      by_cases h : k = a
      · subst h
        simp
      · have h1 : ¬ a = k := fun e => h e.symm
        have h2 : (a == k) = false := by simpa using h1
        rw [h2]
        simp only [Sum.inr.injEq, h, decide_false]
        exact ih
  exact key kinds6
theorem disp_kinds {ρ : Env'} (h : Q (.ref S.length) (S ++ [.dic kindsK])) : wp (dDisp [(dC (.str "new"), dC (.str "class")), (dC (.str "cast"), dC (.str "class")), (dC (.str "is"), dC (.str "class")), (dC (.str "get"), dC (.str "field")), (dC (.str "put"), dC (.str "field")), (dC (.str "call"), dC (.str "method"))] ρ S) E Q := by
  rw [wp_disp]
  simp only [wp_ps1, wp_ps0, wp_c]
  rw [at_new]
  dsimp only [keysP, keyM]
  rw [if_pos (by decide)]
  rw [set_new]
  exact h
def pyA : MV → PyData
  | .bl b => .bool b
  | .int i => .int i
  | .str s => .str s
  | _ => .none
theorem toPyA {f : Nat → Option PyData} {w : MV} (h : Ato w) : toPyW f w = some (pyA w) := by
  cases h <;> rfl
theorem toPyAs {f : Nat → Option PyData} : ∀ {l : List MV}, (∀ w ∈ l, Ato w) → toPyWs f l = some (l.map pyA)
  | [], _ => rfl
  | w :: l, h => by
    unfold toPyWs
    rw [toPyA (h w (List.mem_cons_self ..)), toPyAs fun x hx => h x (List.mem_cons_of_mem _ hx)]
    rfl
theorem layA {w : MV} (h : Ato w) : (pyA w).canLay0 = true ∧ (pyA w).depth = 0 := by
  cases h with
  | str z h => exact ⟨h, rfl⟩
  | int i => exact ⟨rfl, rfl⟩
  | bl b => exact ⟨rfl, rfl⟩
  | non => exact ⟨rfl, rfl⟩
theorem layAs : ∀ {l : List MV}, (∀ w ∈ l, Ato w) → PyData.canLayAll0 (l.map pyA) = true ∧ PyData.depthAll (l.map pyA) = 0
  | [], _ => ⟨rfl, rfl⟩
  | w :: l, h => by
    obtain ⟨h1, h2⟩ := layA (h w (List.mem_cons_self ..))
    obtain ⟨h3, h4⟩ := layAs (l := l) fun x hx => h x (List.mem_cons_of_mem _ hx)
    rw [List.map_cons]
    unfold PyData.canLayAll0 PyData.depthAll
    rw [h1, h3, h2, h4]
    exact ⟨rfl, rfl⟩
theorem wp_neT0 {l : List MV} (h : ∀ w ∈ l, Ato w) : wp (fNe (.tup l) (.tup []) S) E Q = Q (.bl (!l.isEmpty)) S := by
  have e : eqM (.tup l) (.tup []) S = some l.isEmpty := by
    have e1 : toPy S (.tup l) = some (.tuple (l.map pyA)) := by
      show (toPyWs _ l).map PyData.tuple = _
      rw [toPyAs h]
      rfl
    have e2 : toPy S (.tup []) = some (.tuple []) := rfl
    obtain ⟨h3, h4⟩ := layAs h
    have s1 : SeqAt.shaped (.tuple (l.map pyA)) = true := by
      show (PyData.canLayAll0 (l.map pyA) && decide (PyData.depthAll (l.map pyA) + 1 ≤ 64)) = true
      rw [h3, h4]
      rfl
    unfold eqM
    show (match toPy S (.tup l), toPy S (.tup []) with
      | some d, some e => if SeqAt.shaped d && SeqAt.shaped e then some (PyData.eqv d e) else none
      | _, _ => none) = _
    rw [e1, e2]
    dsimp only
    rw [s1, if_pos (by decide +kernel)]
    cases l <;> rfl
  unfold fNe
  rw [e]
  rfl
def inStrs (l : List Str) : MV → Bool
  | .str z => decide (z ∈ l)
  | _ => false
theorem any_atm {w : MV} (l : List Str) (h : Ato w) : ((l.map MV.str).any fun y => eqF y w) = inStrs l w := by
  cases h with
  | str z h => exact any_strs z l
  | int i => show _ = false; rw [List.any_map, List.any_eq_false]; intro x _; exact Bool.false_ne_true
  | bl b => show _ = false; rw [List.any_map, List.any_eq_false]; intro x _; exact Bool.false_ne_true
  | non => show _ = false; rw [List.any_map, List.any_eq_false]; intro x _; exact Bool.false_ne_true
theorem wp_inRA {w : MV} {l : List Str} {n : Nat} (h : Ato w) (e : S[n]? = some (.lst (l.map .str))) : wp (fIn w (.ref n) S) E Q = Q (.bl (inStrs l w)) S := by
  have e2 : inM w (.ref n) S = some (inStrs l w) := by
    have hf : flatM w = true := by cases h <;> rfl
    cases h with
    | str z h => unfold inM; simp only [itemsOf, e, MI.flat_strs, any_strs]; rfl
    | int i => have := any_atm l (.int i); unfold inM; simp only [itemsOf, e, MI.flat_strs, this]; rfl
    | bl b => have := any_atm l (.bl b); unfold inM; simp only [itemsOf, e, MI.flat_strs, this]; rfl
    | non => have := any_atm l .non; unfold inM; simp only [itemsOf, e, MI.flat_strs, this]; rfl
  unfold fIn
  rw [e2]
  rfl
def words6 : List Str := kinds6.map (·.1)
theorem in_words {a : Str} : decide (a ∈ words6) = (kindOf a).isSome := by
  have key : ∀ l : List (Str × Str), decide (a ∈ l.map (·.1)) = (l.lookup a).isSome := by
    intro l
    induction l with
    | nil => rfl
    | cons q l ih =>
      obtain ⟨k, v⟩ := q
      rw [List.map_cons]
      by_cases h : a = k
      · subst h
        simp [List.lookup]
      · have h2 : (a == k) = false := by simpa using h
        unfold List.lookup
        rw [h2]
        rw [← ih]
        simp [h]
  exact key kinds6
theorem keys_words : (kindsK.map fun kv => mvKy kv.1) = words6.map .str := rfl
def dueBody : DenS :=
  (sSeq (sAsg (dBin fIx (dVar 1) (dVar 4)) (gN 5))
  (sSeq (sIf (bAnd (bCmp fNe (dVar 5) (dTup aNil)) (bCmp fIn (dBin fIx (dVar 5) (dC (.int 0))) (dCall fListD (aCons (dVar 2) aNil)))) (sSeq (sAsg (dAnd (dBin fEq (dCall fLen (aCons (dVar 5) aNil)) (dC (.int 2))) (dAnd (dUn (fIsT "int") (dBin fIx (dVar 5) (dC (.int 1)))) (dNot (dUn (fIsT "bool") (dBin fIx (dVar 5) (dC (.int 1))))))) (gN 6))
  (sSeq (sIf (bOr (bNot (bTru (dVar 6))) (bOr (bNot (fun ρ S => ((dChain fLe fLt (dC (.int 0)) (dBin fIx (dVar 5) (dC (.int 1))) (dCall fLen (aCons (dVar 0) aNil))) ρ S).bind boolOf)) (bCmp fNe (dBin fIx (dBin fIx (dVar 0) (dBin fIx (dVar 5) (dC (.int 1)))) (dC (.int 0))) (dBin fIx (dVar 2) (dBin fIx (dVar 5) (dC (.int 0))))))) (sRet (dTup (aCons (dC (.str "pooled")) (aCons (dVar 4) aNil)))) sNil)
  (sAsg (dBin fAdd (dTup (aCons (dBin fIx (dVar 5) (dC (.int 0))) aNil)) (dSl (dBin fIx (dVar 0) (dBin fIx (dVar 5) (dC (.int 1)))) (oSome (dC (.int 1))) oNone)) (gN 5)))) sNil)
  (sExpr (dMet isLst fAppend (dVar 3) (aCons (dVar 5) aNil)))))
structure DueI (es : List (List Str)) (L : List (List MV)) (S : Store) (m k n i : Nat) (ρ : Env') (S' : Store) : Prop where
  g : Gr S S'
  d : S'[k]? = some (.dic kindsK)
  l : S'[n]? = some (.lst ((L.take i).map (res es)))
  p : ∀ l ∈ L.take i, stB es l = true
  r : ∃ v4 v5 v6, ρ = [some (.tup (es.map mvO)), some (.ref m), some (.ref k), some (.ref n), v4, v5, v6]
theorem due_turn {es : List (List Str)} (hE : ∀ e ∈ es, e ≠ []) (hE3 : ∀ e ∈ es, e.length ≤ 3) {m k n i : Nat} {L : List (List MV)} (hl : L.length ≤ 20) (h : ∀ l ∈ L, ∀ w ∈ l, Ato w) (e0 : S[m]? = some (.lst (L.map .tup))) (hk : S.length ≤ k) (hn : S.length ≤ n) (hkn : k ≠ n) (hi : i < L.length) {S' : Store} {v5 v6 : Option MV} {QF : Fl → Store → Prop}
    (I : DueI es L S m k n i [some (.tup (es.map mvO)), some (.ref m), some (.ref k), some (.ref n), some (.int i), v5, v6] S')
    (next : ∀ ρ S2, DueI es L S m k n (i + 1) ρ S2 → QF (.next ρ) S2) (bad : ∀ S2, Gr S S2 → firstBad (stB es) L = some i → QF (.ret (.tup [.str "pooled", .int i])) S2) : wp (dueBody [some (.tup (es.map mvO)), some (.ref m), some (.ref k), some (.ref n), some (.int i), v5, v6] S') NE QF := by
  obtain ⟨g, f1, f2, hp, _⟩ := I
  have hLi : L[i] ∈ L := List.getElem_mem hi
  have hA := h _ hLi
  have hm : S.length > m := by
    rcases Nat.lt_or_ge m S.length with h | h
    · exact h
    · rw [List.getElem?_eq_none h] at e0; cases e0
  have ei : atI (L.map MV.tup) (i : Int) = some (.tup L[i]) := by
    have := atL (l := L.map MV.tup) (i := i) (by simpa using hi)
    rw [List.getElem_map] at this
    exact this
  -- what is left when the step is told
  have fin : ∀ (w : MV) (S2 : Store) (v6 : Option MV), Gr S S2 → S2[k]? = some (.dic kindsK) → S2[n]? = some (.lst ((L.take i).map (res es))) → stB es L[i] = true → w = res es L[i] → ∀ (E' : EX), isLst (.ref n) S2 = true ∧ wp (fAppend (.ref n) [w] S2) E' fun x S1 => QF (.next [some (.tup (es.map mvO)), some (.ref m), some (.ref k), some (.ref n), some (.int i), some w, v6]) S1 := by
    intro w S2 v6 g2 h1 h2 hs hw E'
    subst hw
    have hlt : n < S2.length := by
      rcases Nat.lt_or_ge n S2.length with h | h
      · exact h
      · rw [List.getElem?_eq_none h] at h2; cases h2
    have e4 : (L.take i).map (res es) ++ [res es L[i]] = (L.take (i + 1)).map (res es) := by
      rw [List.take_succ_eq_append_getElem hi, List.map_append]
      rfl
    rw [wp_appR h2 (by simp; omega), e4]
    refine ⟨isLst_ref h2, ?_⟩
    refine next _ _ ⟨g2.set hn ?_, ?_, ?_, ?_, _, _, _, rfl⟩
    · show belows 0 _ = true
      exact blws_map 0 _ _ fun l hl => below_res (h l (List.mem_of_mem_take hl))
    · rw [List.getElem?_set_ne (Ne.symm hkn)]
      exact h1
    · rw [List.getElem?_set_self hlt]
    · intro l hl
      rw [List.take_succ_eq_append_getElem hi] at hl
      rcases List.mem_append.mp hl with hl | hl
      · exact hp l hl
      · rw [List.mem_singleton.mp hl]; exact hs
  have bad' : stB es L[i] = false → ∀ S2, Gr S S2 → QF (.ret (.tup [.str "pooled", .int i])) S2 := by
    intro hs S2 g2
    refine bad S2 g2 ?_
    have e4 : L = L.take i ++ L[i] :: L.drop (i + 1) := by
      rw [List.getElem_cons_drop, List.take_append_drop]
    rw [e4, fb_at hs hp, List.length_take, Nat.min_eq_left (by omega)]
  unfold dueBody
  walk_at "runp"
  rw [wp_ixL (g.at e0), ei]
  refine ⟨_, rfl, by decide, ?_⟩
  rw [wp_neT0 hA]
  walk_at "runp"
  match e : L[i], hA with
  | [], hA =>
    rw [e] at fin
    rw [if_neg (by simp)]
    exact fin _ _ _ g f1 f2 rfl rfl _
  | a :: r, hA =>
    rw [e] at fin bad'
    rw [if_pos (by simp)]
    have ha := hA a (List.mem_cons_self ..)
    refine ⟨a, atL (l := a :: r) (i := 0) (by simp), ?_⟩
    rw [wp_listD f1, keys_words]
    have g' : Gr S' (S' ++ [MO.lst (words6.map .str)]) := Gr.refl.new (by decide +kernel)
    have e5 : (S' ++ [MO.lst (words6.map .str)])[S'.length]? = some (.lst (words6.map .str)) := at_new
    generalize (S' ++ [MO.lst (words6.map .str)] : Store) = S3 at g' e5
    rw [wp_inRA ha e5]
    walk_at "runp"
    cases ha with
    | int z => exact fin _ _ _ (g.trans g') (g'.at f1) (g'.at f2) rfl rfl _
    | bl b => exact fin _ _ _ (g.trans g') (g'.at f1) (g'.at f2) rfl rfl _
    | non => exact fin _ _ _ (g.trans g') (g'.at f1) (g'.at f2) rfl rfl _
    | str z hz =>
      rw [show inStrs words6 (.str z) = (kindOf z).isSome from in_words]
      cases ek : kindOf z with
      | none =>
        rw [if_neg (by decide)]
        refine fin _ _ _ (g.trans g') (g'.at f1) (g'.at f2) ?_ ?_ _
        · unfold stB; rw [show namK (.str z :: r) = kindOf z from rfl, ek]
        · unfold res; rw [show namK (.str z :: r) = kindOf z from rfl, ek]
      | some kk =>
        have eb : stB es (.str z :: r) = goes es (.str z :: r) := by unfold stB; rw [show namK (.str z :: r) = kindOf z from rfl, ek]
        rw [eb] at bad' fin
        rw [if_pos (show (some kk).isSome = true from rfl)]
        match r, hA with
        | [], hA =>
          rw [if_neg (by simp)]
          exact ⟨by decide, bad' rfl _ (g.trans g')⟩
        | w1 :: w2 :: r, hA =>
          rw [if_neg (by simp only [List.length_cons]; omega)]
          exact ⟨by decide, bad' (by cases hA w1 (by simp) <;> rfl) _ (g.trans g')⟩
        | [w1], hA =>
          rw [if_pos (by simp)]
          have e1 : atI [MV.str z, w1] 1 = some w1 := atL (l := [MV.str z, w1]) (i := 1) (by simp)
          refine ⟨w1, e1, ?_⟩
          cases hA w1 (by simp) with
          | str y hy =>
            walk_at "runp"
            exact ⟨by decide, bad' rfl _ (g.trans g')⟩
          | non =>
            walk_at "runp"
            exact ⟨by decide, bad' rfl _ (g.trans g')⟩
          | bl b =>
            walk_at "runp"
            exact ⟨by decide, bad' rfl _ (g.trans g')⟩
          | int j =>
            have gd : goes es [.str z, .int j] = ((decide (0 ≤ j) && decide (j ≤ (es.length : Int) - 1)) && decide ((entA es j).head? = kindOf z)) := rfl
            rw [gd] at bad' fin
            walk_at "runp"
            rcases Decidable.em (0 ≤ j) with h0 | h0
            · rw [if_pos h0]
              rcases Decidable.em (j < (es.length : Int)) with h1 | h1
              · have hj : j.toNat < es.length := by omega
                have ea : entA es j = es[j.toNat] := by
                  unfold entA
                  rw [List.getD_eq_getElem?_getD, List.getElem?_eq_getElem hj]
                  rfl
                have ej : atI (es.map mvO) j = some (mvO es[j.toNat]) := by
                  have := atL (l := es.map mvO) (i := j.toNat) (by simpa using hj)
                  rw [List.getElem_map] at this
                  rw [← this]
                  congr 1
                  omega
                rw [if_neg (by rw [List.length_map]; simp; omega)]
                refine ⟨_, ej, ?_⟩
                have hne := hE _ (List.getElem_mem hj)
                have h3 := hE3 _ (List.getElem_mem hj)
                rw [decide_eq_true h0, decide_eq_true (by omega : j ≤ (es.length : Int) - 1), ea] at bad' fin
                have er : res es [.str z, .int j] = .tup (.str z :: (es[j.toNat].drop 1).map .str) := by
                  unfold res
                  rw [show namK [.str z, .int j] = kindOf z from rfl, ek, ← ea]
                rw [er] at fin
                generalize es[j.toNat] = o at hne h3 bad' fin ej ⊢
                match o, hne with
                | x :: q, _ =>
                unfold mvO
                rw [List.map_cons]
                walk_at "runp"
                rw [wp_ixD (g'.at f1) (by rw [valM_kinds, ek]; rfl)]
                walk_at "runp"
                rcases Decidable.em (x = kk) with hx | hx
                · subst hx
                  rw [if_neg (by simp)]
                  refine ⟨by decide, _, ej, ?_⟩
                  unfold mvO
                  rw [fsl_tail]
                  walk_at "runp"
                  rw [wp_addT (by simp at h3 ⊢; omega)]
                  refine fin _ _ _ (g.trans g') (g'.at f1) (g'.at f2) ?_ ?_ _
                  · rw [ek]; simp
                  · simp
                · rw [if_pos (by simp [hx])]
                  exact ⟨by decide, bad' (by rw [ek]; simp [hx]) _ (g.trans g')⟩
              · rw [if_pos (by rw [List.length_map]; simp; omega)]
                exact ⟨by decide, bad' (by rw [decide_eq_false (show ¬ j ≤ (es.length : Int) - 1 by omega)]; simp) _ (g.trans g')⟩
            · rw [if_neg h0]
              exact ⟨by decide, bad' (by rw [decide_eq_false h0]; simp) _ (g.trans g')⟩
theorem law_due_eq (c : MI.Cl S) {es : List (List Str)} (hE : ∀ e ∈ es, e ≠ []) (hE3 : ∀ e ∈ es, e.length ≤ 3) {m : Nat} {L : List (List MV)} (hl : L.length ≤ 20) (h : ∀ l ∈ L, ∀ w ∈ l, Ato w) (e0 : S[m]? = some (.lst (L.map .tup))) :
    D__law_due [.tup (es.map mvO), .ref m] S = .ok (tellV "pooled" (.tup (L.map (res es))) (firstBad (stB es) L)) S := by
  have hb : below 0 (tellV "pooled" (.tup (L.map (res es))) (firstBad (stB es) L)) = true := by
    cases firstBad (stB es) L with
    | none =>
      show belows 0 (L.map (res es)) = true
      exact blws_map 0 _ L fun l hl => below_res (h l hl)
    | some i => rfl
  unfold D__law_due
  refine fn_val rfl c hb ?_
  generalize hv : tellV "pooled" (.tup (L.map (res es))) (firstBad (stB es) L) = v
  have hret : ∀ S', Gr S S' → (fun f S' => (f = Fl.ret v ∨ v = .non ∧ ∃ ρ, f = Fl.next ρ) ∧ Gr S S') (.ret v) S' := fun S' g => ⟨.inl rfl, g⟩
  generalize (fun (f : Fl) (S' : Store) => (f = Fl.ret v ∨ v = .non ∧ ∃ ρ, f = Fl.next ρ) ∧ Gr S S') = P at hret
  unfold d__law_due
  (try simp only [n__law_due])
  walk_at "runp"
  refine disp_kinds ?_
  have g1 : Gr S (S ++ [MO.dic kindsK]) := Gr.refl.new (by decide +kernel)
  have e1 : (S ++ [MO.dic kindsK])[S.length]? = some (.dic kindsK) := at_new
  generalize hT : (S ++ [MO.dic kindsK] : Store) = T at g1 e1
  have hTl : T.length = S.length + 1 := by rw [← hT]; simp
  generalize hk : S.length = k at e1 hTl
  refine ⟨by decide, ?_⟩
  have g2 : Gr S (T ++ [MO.lst []]) := g1.new rfl
  have e2 : (T ++ [MO.lst []])[k]? = some (.dic kindsK) := (Gr.refl.new (o := .lst []) rfl).at e1
  have e3 : (T ++ [MO.lst []])[T.length]? = some (.lst []) := at_new
  rw [wp_len]
  refine ⟨L.length, ?_, ?_⟩
  · rw [lenL (g2.at e0), List.length_map]
  generalize hU : (T ++ [MO.lst []] : Store) = U at g2 e2 e3 ⊢
  generalize hn : T.length = n at e3 hTl ⊢
  walk_at "runp"
  refine ⟨by omega, ?_⟩
  refine wp_forN (body := dueBody) L.length (fun i ρ S' => DueI es L S m k n i ρ S') (by omega) ⟨g2, e2, e3, by simp, _, _, _, rfl⟩ ?_ ?_
  · rintro i ρ S' hi I
    obtain ⟨v4, v5, v6, rfl⟩ := I.r
    walk_at "runp"
    refine due_turn hE hE3 hl h e0 (by omega) (by omega) (by omega) hi ⟨I.g, I.d, I.l, I.p, _, _, _, rfl⟩ (fun ρ S2 I2 => I2) fun S2 g2 hf => ?_
    rw [hf] at hv
    subst hv
    exact hret _ g2
  · rintro ρ S' ⟨g, f1, f2, hp, v4, v5, v6, rfl⟩
    walk_at "runp"
    rw [List.take_length] at f2 hp
    rw [fb_all hp] at hv
    subst hv
    rw [wp_tupR f2]
    exact hret _ g
end
end K38
set_option Elab.async false
set_option linter.all false
set_option maxRecDepth 100000
set_option maxHeartbeats 1000000
namespace K38
open PySem PySem.Spec PyProof.Rows L2 MI
def cA : DenS := (sAsg (dUn fTupOf (dLc 4096 (iRng rng1 (aCons (dCall D__law_taken (aCons (dVar 1) (aCons (dC (.int 7)) aNil))) aNil)) (gN 8) bYes (dCall D__law_pick (aCons (dVar 1) (aCons (dVar 2) aNil))) [8])) (gN 5))
def cB : DenS := (sPar 6 7 (aCons (dDisp [((dC (.str "class")), (dLst (aCons (dC (.str "new")) (aCons (dC (.str "cast")) (aCons (dC (.str "is")) aNil))))), ((dC (.str "field")), (dLst (aCons (dC (.str "get")) (aCons (dC (.str "put")) aNil)))), ((dC (.str "method")), (dLst (aCons (dC (.str "call")) aNil)))]) (aCons (dLst aNil) aNil)))
def cOther : DenS := (sIf (bCmp fGt (dCall D__law_taken (aCons (dVar 1) (aCons (dC (.int 3)) aNil))) (dC (.int 0))) (sExpr (dMet isLst fAppend (dVar 7) (aCons (dCall D__law_pick (aCons (dVar 1) (aCons (dLst (aCons (dTup (aCons (dC (.str "push")) (aCons (dC (.int 3)) aNil))) (aCons (dTup aNil) (aCons (dTup (aCons (dC (.str "go")) (aCons (dC (.int 1)) (aCons (dC (.int 2)) aNil)))) (aCons (dTup (aCons (dC (.int 5)) aNil)) (aCons (dTup (aCons (dC .non) aNil)) (aCons (dTup (aCons (dC (.str "give")) aNil)) (aCons (dTup (aCons (dC (.str "New")) (aCons (dC (.int 0)) aNil))) aNil)))))))) aNil))) aNil))) (sSeq (sPar 11 12 (aCons (dCall D__law_pick (aCons (dVar 1) (aCons (dLst (aCons (dC (.str "new")) (aCons (dC (.str "is")) (aCons (dC (.str "get")) (aCons (dC (.str "call")) aNil))))) aNil))) (aCons (dLst (aCons (dC (.int 0)) (aCons (dCall fLen (aCons (dVar 5) aNil)) (aCons (dUn fNeg (dC (.int 1))) (aCons (dC (.bl true)) (aCons (dC (.str "box")) (aCons (dC .non) aNil))))))) aNil)))
  (sExpr (dMet isLst fAppend (dVar 7) (aCons (dCall D__law_pick (aCons (dVar 1) (aCons (dLst (aCons (dTup (aCons (dVar 11) (aCons (dCall D__law_pick (aCons (dVar 1) (aCons (dVar 12) aNil))) aNil))) (aCons (dTup (aCons (dVar 11) aNil)) (aCons (dTup (aCons (dVar 11) (aCons (dC (.int 0)) (aCons (dC (.int 0)) aNil)))) aNil)))) aNil))) aNil)))))
def cCb : DenS := (sIf (bAnd (bCmp fNe (dVar 5) (dTup aNil)) (bCmp fGt (dCall D__law_taken (aCons (dVar 1) (aCons (dC (.int 6)) aNil))) (dC (.int 0)))) (sSeq (sAsg (dCall D__law_taken (aCons (dVar 1) (aCons (dCall fLen (aCons (dVar 5) aNil)) aNil))) (gN 10))
  (sExpr (dMet isLst fAppend (dVar 7) (aCons (dTup (aCons (dCall D__law_pick (aCons (dVar 1) (aCons (dBin fIx (dVar 6) (dBin fIx (dBin fIx (dVar 5) (dVar 10)) (dC (.int 0)))) aNil))) (aCons (dVar 10) aNil))) aNil)))) cOther)
def cC : DenS := (sFor 4096 (iRng rng1 (aCons (dCall D__law_taken (aCons (dVar 1) (aCons (dBin fIx (dLst (aCons (dC (.int 6)) (aCons (dC (.int 21)) aNil))) (dCall D__law_taken (aCons (dVar 1) (aCons (dC (.int 2)) aNil)))) aNil))) aNil)) (gN 8) cCb)
def cD : DenS := (sIf (bNot (bTru (dCall D__law_alike (aCons (dCall D__law_told (aCons (dVar 5) (aCons (dUn fTupOf (dVar 7)) aNil))) (aCons (dCall D__law_due (aCons (dVar 5) (aCons (dVar 7) aNil))) aNil))))) (sRet (dC (.bl false))) sNil)
def cE : DenS := (sAsg (dLst (aCons (dC .non) (aCons (dTup aNil) (aCons (dTup (aCons (dC (.str "class")) aNil)) (aCons (dTup (aCons (dC (.str "class")) (aCons (dC (.str "box")) (aCons (dC (.str "x")) aNil)))) (aCons (dTup (aCons (dC (.str "field")) (aCons (dC (.str "box")) aNil))) (aCons (dTup (aCons (dC (.str "thing")) (aCons (dC (.str "box")) aNil))) (aCons (dTup (aCons (dC (.str "class")) (aCons (dC (.str "Box")) aNil))) (aCons (dC (.int 3)) aNil))))))))) (gN 9))
def cE2 : DenS := (sAsg (dBin fAdd (dVar 9) (dLst (aCons (dTup (aCons (dC (.str "class")) (aCons (dC (.str "")) aNil))) (aCons (dTup (aCons (dC (.str "class")) (aCons (dC (.str "toolong")) aNil))) (aCons (dLst (aCons (dC (.str "class")) (aCons (dC (.str "box")) aNil))) (aCons (dTup (aCons (dC (.str "class")) (aCons (dC .non) aNil))) (aCons (dTup (aCons (dC .non) (aCons (dC (.str "box")) aNil))) aNil))))))) (gN 9))
def cFb : DenS := (sIf (bCmp fNe (dCall D__law_told (aCons (dBin fAdd (dVar 5) (dTup (aCons (dVar 4) (aCons (dC .non) aNil)))) (aCons (dTup aNil) aNil))) (dTup (aCons (dC (.str "pool")) (aCons (dCall fLen (aCons (dVar 5) aNil)) aNil)))) (sRet (dC (.bl false))) sNil)
def cF : DenS := (sFor 4096 (iAnyD (dVar 9)) (gN 4) cFb)
def cTail : DenS := sSeq cD (sSeq cE (sSeq cE2 cF))
def cTurn : DenS := sSeq cA (sSeq cB (sSeq cC cTail))
def cL1b : DenS := (sIf (bCmp fNe (dCall D__law_told (aCons (dVar 4) (aCons (dTup aNil) aNil))) (dTup (aCons (dC (.str "pool")) (aCons (dC .non) aNil)))) (sRet (dC (.bl false))) sNil)
def cL1 : DenS := (sFor 4096 (iAnyD (dLst (aCons (dC .non) (aCons (dCall fLstOf (aCons (dVar 2) aNil)) (aCons (dBin fMulX (dTup (aCons (dBin fIx (dVar 2) (dC (.int 0))) aNil)) (dC (.int 100))) (aCons (dC (.int 3)) (aCons dDic0 aNil))))))) (gN 4) cL1b)
def cL2b : DenS := (sIf (bCmp fNe (dCall D__law_told (aCons (dTup aNil) (aCons (dVar 4) aNil))) (dTup (aCons (dC (.str "pooled")) (aCons (dC .non) aNil)))) (sRet (dC (.bl false))) sNil)
def cL2 : DenS := (sFor 4096 (iAnyD (dLst (aCons (dC .non) (aCons (dLst (aCons (dTup (aCons (dC (.str "push")) (aCons (dC (.int 3)) aNil))) aNil)) (aCons (dBin fMulX (dTup (aCons (dTup (aCons (dC (.str "push")) (aCons (dC (.int 3)) aNil))) aNil)) (dC (.int 21))) (aCons (dTup (aCons (dC .non) aNil)) (aCons (dTup (aCons (dTup (aCons (dC (.str "push")) (aCons (dC (.int 3)) aNil))) (aCons (dLst (aCons (dC (.str "push")) (aCons (dC (.int 3)) aNil))) aNil))) (aCons (dC (.str "push")) (aCons (dC (.int 3)) aNil))))))))) (gN 4) cL2b)
def cL3 : DenS := (sRet (dBin fEq (dCall fLen (aCons (dCall D__law_told (aCons (dBin fMulX (dTup (aCons (dBin fIx (dVar 2) (dC (.int 0))) aNil)) (dC (.int 99))) (aCons (dBin fMulX (dTup (aCons (dTup (aCons (dC (.str "new")) (aCons (dC (.int 98)) aNil))) aNil)) (dC (.int 20))) aNil))) aNil)) (dC (.int 20))))
def cEnd : DenS := sSeq cL1 (sSeq cL2 cL3)
theorem d_law_eq : d_law = sSeq (sAsg (dLst (aCons (dVar 0) (aCons (dC (.int 0)) (aCons (dC (.int 2938)) (aCons (dC (.int 0)) aNil))))) (gN 1)) (sSeq (sAsg (dLst (aCons (dTup (aCons (dC (.str "class")) (aCons (dC (.str "box")) aNil))) (aCons (dTup (aCons (dC (.str "class")) (aCons (dC (.str "top")) aNil))) (aCons (dTup (aCons (dC (.str "field")) (aCons (dC (.str "box")) (aCons (dC (.str "x")) aNil)))) (aCons (dTup (aCons (dC (.str "method")) (aCons (dC (.str "red")) (aCons (dC (.str "show")) aNil)))) (aCons (dTup (aCons (dC (.str "class")) (aCons (dC (.str "num")) aNil))) aNil)))))) (gN 2)) (sSeq (sFor 4096 (iRng rng1 (aCons (dC (.int 3)) aNil)) (gN 3) cTurn) cEnd)) := rfl
section
variable {l : List Int} {s : S3} {r R : Store} {E : EX} {Q : MV → Store → Prop} {S : Store}
theorem lc_draw {n : Nat} {d : Den} {i : Nat} {ρ0 : Env'} {P : MV → Prop} (hn : n < 4096)
    (turn : ∀ (at_ : Nat) (s1 : S3) (R1 : Store), Gr R R1 → wp (d (ρ0.set i (some (.int at_))) (mk l s1 R1)) NE fun w S3 => P w ∧ below 0 w = true ∧ ∃ s2 R2, S3 = mk l s2 R2 ∧ Gr R1 R2)
    (done : ∀ ws s2 R2, ws.length = n → (∀ w ∈ ws, P w) → Gr R R2 → R2[R.length]? = some (.lst ws) → Q (.ref (R.length + 2)) (mk l s2 R2)) :
    wp (match lcM (srcRng 0 (n : Int)) (gN i) bYes d ρ0 (R.length + 2) 4096 0 (mk l s (R ++ [.lst []])) with
    | some S2 => (.ok (.ref (R.length + 2)) S2 : Res MV)
    | none => .stuck) E Q := by
  have key := lcM_inv (nx := srcRng 0 (n : Int)) (g := gN i) (t := bYes) (d := d) (ρ0 := ρ0) (m := R.length + 2) n
    (fun t acc S' => acc.length = t ∧ (∀ w ∈ acc, P w ∧ below 0 w = true) ∧ ∃ s1 R1, S' = mk l s1 R1 ∧ Gr R R1 ∧ R1[R.length]? = some (.lst acc)) ?_ ?_ ?_
    n 4096 0 [] (mk l s (R ++ [.lst []])) (by omega) hn ⟨rfl, by simp, s, _, rfl, Gr.refl.new rfl, at_new⟩
  · obtain ⟨acc, S', e, h1, h2, s1, R1, rfl, h3, h4⟩ := key
    rw [e]
    exact done acc s1 R1 h1 (fun w hw => (h2 w hw).1) h3 h4
  · rintro t acc S' ⟨_, _, s1, R1, rfl, _, h⟩
    exact h
  · rintro acc S' _
    unfold srcRng
    rw [if_neg (by omega)]
  · rintro t acc S' ht ⟨h1, h2, s1, R1, rfl, h3, h4⟩
    refine ⟨.int t, ?_, ?_⟩
    · unfold srcRng
      rw [if_pos (by omega)]
      simp
    · walk_at "runp"
      refine (turn t s1 R1 h3).mono fun w S3 hw => ?_
      obtain ⟨hP, hb, s2, R2, rfl, g⟩ := hw
      have hall : ∀ x ∈ acc ++ [w], P x ∧ below 0 x = true := fun x hx => by
        rcases List.mem_append.mp hx with hx | hx
        · exact h2 x hx
        · rw [List.mem_singleton.mp hx]; exact ⟨hP, hb⟩
      refine ⟨g.at h4, by omega, by simp [h1], hall, s2, R2.set R.length (.lst (acc ++ [w])), rfl, (h3.trans g).set (Nat.le_refl _) ((blws_all 0 _).mpr fun x hx => (hall x hx).2), at_set (g.at h4)⟩
def RC (R : Store) : Prop := R.all (belowO (R.length + 2)) = true
theorem RC.cl (h : RC R) : MI.Cl (mk l s R) := by
  unfold MI.Cl
  have : (mk l s R).length = R.length + 2 := rfl
  rw [this]
  exact cl_mk (by omega) h
theorem RC.gr {R' : Store} (h : RC R) (g : Gr R R') : RC R' := by
  have hl := g.len
  obtain ⟨J, rfl, hJ⟩ := g
  unfold RC at h ⊢
  rw [List.all_append, Bool.and_eq_true]
  exact ⟨blwA_le (by omega) h, blwA_le (by omega) hJ⟩
theorem RC.app {o : MO} (h : RC R) (b : belowO (R.length + 2) o = true) : RC (R ++ [o]) := by
  unfold RC at h ⊢
  rw [List.all_append, Bool.and_eq_true, List.length_append]
  refine ⟨blwA_le (by omega) h, ?_⟩
  simp only [List.all_cons, List.all_nil, Bool.and_true]
  exact blwO_le (by omega) o b
theorem RC.set {o : MO} {n : Nat} (h : RC R) (b : belowO (R.length + 2) o = true) : RC (R.set n o) := by
  unfold RC at h ⊢
  rw [List.length_set]
  refine List.all_eq_true.mpr fun x hx => ?_
  rcases List.mem_or_eq_of_mem_set hx with h1 | rfl
  · exact List.all_eq_true.mp h x h1
  · exact b
def es5 : List (List Str) := [["class", "box"], ["class", "top"], ["field", "box", "x"], ["method", "red", "show"], ["class", "num"]]
theorem as_ents {P : List Str → Prop} : ∀ {ws : List MV}, (∀ w ∈ ws, ∃ e, P e ∧ w = mvO e) → ∃ es : List (List Str), ws = es.map mvO ∧ ∀ e ∈ es, P e
  | [], _ => ⟨[], rfl, by simp⟩
  | w :: ws, h => by
    obtain ⟨e, he, rfl⟩ := h w (List.mem_cons_self ..)
    obtain ⟨es, rfl, h2⟩ := as_ents (ws := ws) fun x hx => h x (List.mem_cons_of_mem _ hx)
    refine ⟨e :: es, rfl, fun y hy => ?_⟩
    rcases List.mem_cons.mp hy with rfl | hy
    · exact he
    · exact h2 y hy
theorem cA_ok (c : RC R) (h0 : R[0]? = some (.lst (es5.map mvO))) {v3 v4 v5 v6 v7 v8 v9 v10 v11 v12 : Option MV} {QF : Fl → Store → Prop}
    (done : ∀ (es : List (List Str)) s2 R2, es.length ≤ 6 → (∀ e ∈ es, e ∈ es5) → Gr R R2 → QF (.next [some (.ref 0), some (.ref 1), some (.ref 2), v3, v4, some (.tup (es.map mvO)), v6, v7, v8, v9, v10, v11, v12]) (mk l s2 R2)) :
    wp (cA [some (.ref 0), some (.ref 1), some (.ref 2), v3, v4, v5, v6, v7, v8, v9, v10, v11, v12] (mk l s R)) NE QF := by
  unfold cA
  walk_at "runp"
  refine taken l s R (by decide) (by decide) fun k s1 k0 k1 => ?_
  obtain ⟨n, rfl⟩ := Int.eq_ofNat_of_zero_le k0
  walk_at "runp"
  refine ⟨by omega, ?_⟩
  refine lc_draw (n := n) (P := fun w => ∃ e, e ∈ es5 ∧ w = mvO e) (by omega) ?_ ?_
  · intro at_ s1 R1 g
    walk_at "runp"
    refine pick (xs := es5.map mvO) (.inr ⟨0, rfl, g.at h0⟩) (by decide) (by decide) fun a s' ha => ?_
    obtain ⟨e, he, rfl⟩ := List.mem_map.mp ha
    exact ⟨⟨e, he, rfl⟩, blws_str 0 _, _, _, rfl, Gr.refl⟩
  · intro ws s2 R2 hl hP g e
    obtain ⟨es, rfl, h2⟩ := as_ents hP
    rw [wp_tupR (l := es.map mvO) (by exact e)]
    exact done es s2 R2 (by simp at hl; omega) h2 g
structure Goods (R : Store) (gd : Nat) : Prop where
  ex : ∃ a b c, R[gd]? = some (.dic [(.inr "class", .ref (a + 2)), (.inr "field", .ref (b + 2)), (.inr "method", .ref (c + 2))]) ∧ R[a]? = some (.lst ((["new", "cast", "is"] : List Str).map .str)) ∧ R[b]? = some (.lst ((["get", "put"] : List Str).map .str)) ∧ R[c]? = some (.lst ((["call"] : List Str).map .str))
theorem em3 {x y z : MV} : mergeP [] [(.inr "class", x), (.inr "field", y), (.inr "method", z)] = [(.inr "class", x), (.inr "field", y), (.inr "method", z)] := rfl
theorem set_app {o o' : MO} {X : Store} : (R ++ o :: X).set R.length o' = R ++ o' :: X := by simp
theorem cB_ok (c : RC R) {v3 v4 v5 v6 v7 v8 v9 v10 v11 v12 : Option MV} {QF : Fl → Store → Prop}
    (done : ∀ gd cd R2, (∃ J, R2 = R ++ J) → RC R2 → Goods R2 gd → gd ≠ cd → R.length ≤ cd → R2[cd]? = some (.lst []) → QF (.next [some (.ref 0), some (.ref 1), some (.ref 2), v3, v4, v5, some (.ref (gd + 2)), some (.ref (cd + 2)), v8, v9, v10, v11, v12]) (mk l s R2)) :
    wp (cB [some (.ref 0), some (.ref 1), some (.ref 2), v3, v4, v5, v6, v7, v8, v9, v10, v11, v12] (mk l s R)) NE QF := by
  unfold cB
  walk_at "runp"
  rw [wp_disp]
  simp only [wp_ps1, wp_ps0, wp_c]
  walk_at "runp"
  refine ⟨by decide, by decide, by decide, ?_⟩
  simp only [List.append_assoc, List.cons_append, List.nil_append, List.length_append, List.length_cons, List.length_nil]
  rw [show (R ++ [MO.dic [], MO.lst [MV.str "new", MV.str "cast", MV.str "is"], MO.lst [MV.str "get", MV.str "put"], MO.lst [MV.str "call"]])[R.length]? = some (.dic []) from by simp]
  dsimp only [keysP, keyM]
  rw [if_pos (by simp), em3, set_app]
  refine ⟨by decide, ?_⟩
  have hd := done R.length (R.length + 4) (R ++ [.dic [(.inr "class", .ref (R.length + 1 + 2)), (.inr "field", .ref (R.length + 2 + 2)), (.inr "method", .ref (R.length + 3 + 2))], MO.lst [MV.str "new", MV.str "cast", MV.str "is"], MO.lst [MV.str "get", MV.str "put"], MO.lst [MV.str "call"], .lst []]) ⟨_, rfl⟩ ?_ ⟨R.length + 1, R.length + 2, R.length + 3, by simp, by simp, by simp, by simp⟩ (by omega) (by omega) (by simp)
  · simp only [List.append_assoc, List.cons_append, List.nil_append, List.length_append, List.length_cons, List.length_nil]
    exact hd
  · unfold RC at c ⊢
    rw [List.all_append, Bool.and_eq_true]
    refine ⟨blwA_le (by simp) c, ?_⟩
    simp [belowO, belows, below]
end
end K38
set_option Elab.async false
set_option linter.all false
set_option maxRecDepth 100000
set_option maxHeartbeats 1000000
namespace K38
open PySem PySem.Spec PyProof.Rows L2 MI
structure StepOk (l : List MV) : Prop where
  a : ∀ w ∈ l, Ato w
  n : namK l = none → ∀ w ∈ l, ∀ b, w ≠ .bl b
  s : l.length ≤ 3
structure CodeI (gd cd : Nat) (L : List (List MV)) (R : Store) : Prop where
  rc : RC R
  b : R[0]? = some (.lst (es5.map mvO))
  gs : Goods R gd
  c : R[cd]? = some (.lst (L.map .tup))
  c0 : 0 < cd
  ok : ∀ l ∈ L, StepOk l
section
variable {l : List Int} {s : S3} {r R : Store} {E : EX} {Q : MV → Store → Prop} {S : Store} {gd cd : Nat} {L : List (List MV)}
theorem Goods.gr {R' : Store} (h : Goods R gd) (g : Gr R R') : Goods R' gd := by
  obtain ⟨a, b, c, h1, h2, h3, h4⟩ := h.ex
  exact ⟨a, b, c, g.at h1, g.at h2, g.at h3, g.at h4⟩
theorem CodeI.gr {R' : Store} (h : CodeI gd cd L R) (g : Gr R R') : CodeI gd cd L R' := ⟨h.rc.gr g, g.at h.b, h.gs.gr g, g.at h.c, h.c0, h.ok⟩
theorem strs_ne {n : Nat} {z : Str} {zs : List Str} (h1 : R[n]? = some (.lst ((z :: zs).map .str))) (h2 : R[cd]? = some (.lst (L.map .tup))) : cd ≠ n := by
  intro e
  subst e
  rw [h1] at h2
  cases L with
  | nil => cases h2
  | cons x L =>
    rw [List.map_cons, List.map_cons] at h2
    injection h2 with h2
    injection h2 with h2
    injection h2 with h2
    cases h2
theorem below_atos {n : Nat} : ∀ {l : List MV}, (∀ w ∈ l, Ato w) → belows n l = true
  | [], _ => rfl
  | w :: l, h => by
    show (below n w && belows n l) = true
    rw [below_atos fun x hx => h x (List.mem_cons_of_mem _ hx), Bool.and_true]
    cases h w (List.mem_cons_self ..) <;> rfl
theorem CodeI.put {x : List MV} (h : CodeI gd cd L R) (hx : StepOk x) : CodeI gd cd (L ++ [x]) (R.set cd (.lst ((L ++ [x]).map .tup))) := by
  have hlt : cd < R.length := by
    rcases Nat.lt_or_ge cd R.length with h2 | h2
    · exact h2
    · have := h.c
      rw [List.getElem?_eq_none h2] at this
      cases this
  have hall : ∀ y ∈ L ++ [x], StepOk y := fun y hy => by
    rcases List.mem_append.mp hy with hy | hy
    · exact h.ok y hy
    · rw [List.mem_singleton.mp hy]; exact hx
  refine ⟨h.rc.set ?_, ?_, ?_, List.getElem?_set_self hlt, h.c0, hall⟩
  · show belows _ _ = true
    exact blws_map _ _ _ fun y hy => below_atos (hall y hy).a
  · rw [List.getElem?_set_ne (by have := h.c0; omega)]
    exact h.b
  · obtain ⟨a, b, c, h1, h2, h3, h4⟩ := h.gs.ex
    refine ⟨a, b, c, ?_, ?_, ?_, ?_⟩
    · rw [List.getElem?_set_ne, h1]
      intro e
      subst e
      rw [h.c] at h1
      cases h1
    · rw [List.getElem?_set_ne (strs_ne h2 h.c), h2]
    · rw [List.getElem?_set_ne (strs_ne h3 h.c), h3]
    · rw [List.getElem?_set_ne (strs_ne h4 h.c), h4]
theorem put_ok {x : List MV} (h : CodeI gd cd L R) (hl : L.length ≤ 1000) : isLst (.ref (cd + 2)) (mk l s R) = true ∧ wp (fAppend (.ref (cd + 2)) [.tup x] (mk l s R)) E Q = Q .non (mk l s (R.set cd (.lst ((L ++ [x]).map .tup)))) := by
  have e : (mk l s R)[cd + 2]? = some (.lst (L.map .tup)) := h.c
  refine ⟨isLst_ref e, ?_⟩
  rw [wp_appR e (by rw [List.length_map]; omega), List.map_append]
  rfl
theorem es5_ok {e : List Str} (h : e ∈ es5) : (∃ k q, e = k :: q ∧ (k = ("class" : Str) ∨ k = ("field" : Str) ∨ k = ("method" : Str))) ∧ e.length ≤ 3 ∧ ∀ z ∈ e, PyData.strOk z = true := by
  have : e = (["class", "box"] : List Str) ∨ e = (["class", "top"] : List Str) ∨ e = (["field", "box", "x"] : List Str) ∨ e = (["method", "red", "show"] : List Str) ∨ e = (["class", "num"] : List Str) := by
    unfold es5 at h
    simpa using h
  rcases this with rfl | rfl | rfl | rfl | rfl
  · exact ⟨⟨_, _, rfl, .inl rfl⟩, by decide, by decide +kernel⟩
  · exact ⟨⟨_, _, rfl, .inl rfl⟩, by decide, by decide +kernel⟩
  · exact ⟨⟨_, _, rfl, .inr (.inl rfl)⟩, by decide, by decide +kernel⟩
  · exact ⟨⟨_, _, rfl, .inr (.inr rfl)⟩, by decide, by decide +kernel⟩
  · exact ⟨⟨_, _, rfl, .inl rfl⟩, by decide, by decide +kernel⟩
theorem wp_neE {es : List (List Str)} (h : ∀ e ∈ es, e ∈ es5) : wp (fNe (.tup (es.map mvO)) (.tup []) S) E Q = Q (.bl (!es.isEmpty)) S := by
  refine wp_neD (n := 3) (by decide) ?_ ?_ ?_
  · rw [okD_tup]
    intro w hw
    obtain ⟨e, he, rfl⟩ := List.mem_map.mp hw
    unfold mvO
    rw [okD_tup]
    intro x hx
    obtain ⟨z, hz, rfl⟩ := List.mem_map.mp hx
    unfold okD
    exact (es5_ok (h e he)).2.2 z hz
  · rw [okD_tup]
    intro w hw
    cases hw
  · cases es <;> simp
theorem goods_at (h : Goods R gd) {k : Str} (hk : k = ("class" : Str) ∨ k = ("field" : Str) ∨ k = ("method" : Str)) : ∃ kvs n xs, (mk l s R)[gd + 2]? = some (.dic kvs) ∧ valM kvs (.inr k) = some (.ref (n + 2)) ∧ R[n]? = some (.lst (List.map MV.str xs)) ∧ xs ≠ [] ∧ xs.length ≤ 3 ∧ ∀ a ∈ xs, (kindOf a).isSome = true ∧ PyData.strOk a = true := by
  obtain ⟨a, b, c, h1, h2, h3, h4⟩ := h.ex
  rcases hk with rfl | rfl | rfl
  · exact ⟨_, a, _, h1, rfl, h2, by decide, by decide, by decide +kernel⟩
  · exact ⟨_, b, _, h1, rfl, h3, by decide, by decide, by decide +kernel⟩
  · exact ⟨_, c, _, h1, rfl, h4, by decide, by decide, by decide +kernel⟩
def plain7 : List (List MV) := [[.str "push", .int 3], [], [.str "go", .int 1, .int 2], [.int 5], [.non], [.str "give"], [.str "New", .int 0]]
def atoB : MV → Bool
  | .str z => PyData.strOk z
  | .int _ => true
  | .non => true
  | _ => false
theorem ato_of : ∀ {w : MV}, atoB w = true → Ato w ∧ ∀ b, w ≠ .bl b
  | .str z, h => ⟨.str z h, fun b e => by cases e⟩
  | .int i, _ => ⟨.int i, fun b e => by cases e⟩
  | .non, _ => ⟨.non, fun b e => by cases e⟩
  | .bl _, h => by cases h
  | .tup _, h => by cases h
  | .ref _, h => by cases h
  | .out _, h => by cases h
theorem plain_ok {x : List MV} (h : x ∈ plain7) : StepOk x := by
  have k : ∀ x ∈ plain7, (x.all atoB && decide (x.length ≤ 3)) = true := by decide +kernel
  have := k x h
  rw [Bool.and_eq_true, List.all_eq_true, decide_eq_true_eq] at this
  exact ⟨fun w hw => (ato_of (this.1 w hw)).1, fun _ w hw => (ato_of (this.1 w hw)).2, this.2⟩
theorem name_ok {a : Str} {r : List MV} (ha : (kindOf a).isSome = true) (hs : PyData.strOk a = true) (hr : ∀ w ∈ r, Ato w) (hl : r.length ≤ 2) : StepOk (.str a :: r) := by
  refine ⟨fun w hw => ?_, fun h => ?_, by simp; omega⟩
  · rcases List.mem_cons.mp hw with rfl | hw
    · exact .str _ hs
    · exact hr w hw
  · rw [show namK (.str a :: r) = kindOf a from rfl] at h
    rw [h] at ha
    cases ha
theorem cOther_ok {es : List (List Str)} (h6 : es.length ≤ 6) (I : CodeI gd cd L R) (hl : L.length ≤ 1000) {v3 v4 v8 v9 v10 v11 v12 : Option MV} {QF : Fl → Store → Prop}
    (done : ∀ x s2 R2 v10 v11 v12, CodeI gd cd (L ++ [x]) R2 → QF (.next [some (.ref 0), some (.ref 1), some (.ref 2), v3, v4, some (.tup (es.map mvO)), some (.ref (gd + 2)), some (.ref (cd + 2)), v8, v9, v10, v11, v12]) (mk l s2 R2)) :
    wp (cOther [some (.ref 0), some (.ref 1), some (.ref 2), v3, v4, some (.tup (es.map mvO)), some (.ref (gd + 2)), some (.ref (cd + 2)), v8, v9, v10, v11, v12] (mk l s R)) NE QF := by
  unfold cOther
  walk_at "runp"
  refine taken l s R (by decide) (by decide) fun k s1 k0 k1 => ?_
  walk_at "runp"
  split
  · refine ⟨(put_ok (E := NE) (Q := fun _ _ => True) (x := []) I hl).1, by decide, by decide, by decide, by decide, by decide, by decide, by decide, by decide, ?_⟩
    have g : Gr R (R ++ [.lst (plain7.map .tup)]) := Gr.refl.new (by decide +kernel)
    have I2 := I.gr g
    rw [show ([.tup [.str "push", .int 3], .tup [], .tup [.str "go", .int 1, .int 2], .tup [.int 5], .tup [.non], .tup [.str "give"], .tup [.str "New", .int 0]] : List MV) = plain7.map .tup from rfl]
    have e0 : (R ++ [.lst (plain7.map .tup)])[R.length]? = some (.lst (plain7.map .tup)) := at_new
    have h7 : (plain7.map MV.tup) ≠ [] ∧ (plain7.map MV.tup).length < 100000 := by decide
    have hm : ∀ a ∈ plain7.map MV.tup, ∃ x ∈ plain7, MV.tup x = a := fun a ha => List.mem_map.mp ha
    generalize plain7.map MV.tup = xs at g I2 e0 h7 hm ⊢
    generalize R ++ [.lst xs] = R2 at g I2 e0 ⊢
    refine pick (xs := xs) (.inr ⟨R.length, rfl, e0⟩) h7.1 h7.2 fun a s2 ha => ?_
    obtain ⟨x, hx, rfl⟩ := hm a ha
    rw [(put_ok I2 hl).2]
    exact done x _ _ _ _ _ (I2.put (plain_ok hx))
  · refine ⟨by decide, ?_⟩
    have g : Gr R (R ++ [.lst ((["new", "is", "get", "call"] : List Str).map .str)]) := Gr.refl.new (by decide +kernel)
    have I2 := I.gr g
    rw [show ([.str "new", .str "is", .str "get", .str "call"] : List MV) = (["new", "is", "get", "call"] : List Str).map .str from rfl]
    have e0 : (R ++ [.lst ((["new", "is", "get", "call"] : List Str).map MV.str)])[R.length]? = some (.lst ((["new", "is", "get", "call"] : List Str).map .str)) := at_new
    have h7 : ((["new", "is", "get", "call"] : List Str).map MV.str) ≠ [] ∧ ((["new", "is", "get", "call"] : List Str).map MV.str).length < 100000 := by decide
    have hm : ∀ a ∈ (["new", "is", "get", "call"] : List Str).map MV.str, ∃ x ∈ (["new", "is", "get", "call"] : List Str), MV.str x = a := fun a ha => List.mem_map.mp ha
    generalize (["new", "is", "get", "call"] : List Str).map MV.str = xs at g I2 e0 h7 hm ⊢
    generalize R ++ [.lst xs] = R2 at g I2 e0 ⊢
    refine pick (xs := xs) (.inr ⟨R.length, rfl, e0⟩) h7.1 h7.2 fun a s2 ha => ?_
    obtain ⟨x, hx, rfl⟩ := hm a ha
    have hw : (kindOf x).isSome = true ∧ PyData.strOk x = true := (by decide +kernel : ∀ x ∈ (["new", "is", "get", "call"] : List Str), (kindOf x).isSome = true ∧ PyData.strOk x = true) x hx
    refine ⟨by decide, ?_⟩
    generalize ho : ([.int 0, .int ((es.map mvO).length : Nat), .int (-1), .bl true, .str "box", .non] : List MV) = od
    have hod : ∀ w ∈ od, Ato w := by
      subst ho
      intro w hw
      simp only [List.mem_cons, List.not_mem_nil, or_false] at hw
      rcases hw with rfl | rfl | rfl | rfl | rfl | rfl
      · exact .int _
      · exact .int _
      · exact .int _
      · exact .bl _
      · exact .str _ (by decide +kernel)
      · exact .non
    have hol : od.length = 6 := by subst ho; rfl
    have g3 : Gr R2 (R2 ++ [.lst od]) := Gr.refl.new (by show belows 0 od = true; exact below_atos hod)
    have I3 := I2.gr g3
    refine ⟨(put_ok (E := NE) (Q := fun _ _ => True) (x := []) I3 hl).1, ?_⟩
    rw [mk_app, mk_len]
    have e0' : (R2 ++ [.lst od])[R2.length]? = some (.lst od) := at_new
    refine pick (xs := od) (.inr ⟨R2.length, rfl, e0'⟩) (by intro e; rw [e] at hol; cases hol) (by omega) fun w s3 hw2 => ?_
    have hwA := hod w hw2
    generalize R2 ++ [.lst od] = R3 at I3 ⊢
    refine ⟨by decide, by decide, by decide, by decide, ?_⟩
    have hx3 : ∀ y ∈ [[MV.str x, w], [.str x], [.str x, .int 0, .int 0]], StepOk y := by
      intro y hy
      simp only [List.mem_cons, List.not_mem_nil, or_false] at hy
      rcases hy with rfl | rfl | rfl
      · exact name_ok hw.1 hw.2 (fun z hz => by rw [List.mem_singleton.mp hz]; exact hwA) (by simp)
      · exact name_ok hw.1 hw.2 (fun z hz => by cases hz) (by simp)
      · exact name_ok hw.1 hw.2 (fun z hz => by simp at hz; rw [hz]; exact .int _) (by simp)
    rw [show ([.tup [.str x, w], .tup [.str x], .tup [.str x, .int 0, .int 0]] : List MV) = [[MV.str x, w], [.str x], [.str x, .int 0, .int 0]].map .tup from rfl]
    have hm3 : ∀ a ∈ [[MV.str x, w], [.str x], [.str x, .int 0, .int 0]].map MV.tup, ∃ y ∈ [[MV.str x, w], [.str x], [.str x, .int 0, .int 0]], MV.tup y = a := fun a ha => List.mem_map.mp ha
    have hb3 : belows 0 ([[MV.str x, w], [.str x], [.str x, .int 0, .int 0]].map MV.tup) = true := blws_map 0 _ _ fun y hy => below_atos (hx3 y hy).a
    have h33 : [[MV.str x, w], [.str x], [.str x, .int 0, .int 0]].map MV.tup ≠ [] ∧ ([[MV.str x, w], [.str x], [.str x, .int 0, .int 0]].map MV.tup).length < 100000 := by simp
    generalize [[MV.str x, w], [.str x], [.str x, .int 0, .int 0]] = ys at hx3 hm3 hb3 h33 ⊢
    generalize ys.map MV.tup = zs at hm3 hb3 h33 ⊢
    have g4 : Gr R3 (R3 ++ [.lst zs]) := Gr.refl.new hb3
    have I4 := I3.gr g4
    rw [mk_app, mk_len]
    have e0 : (R3 ++ [.lst zs])[R3.length]? = some (.lst zs) := at_new
    refine pick (xs := zs) (.inr ⟨R3.length, rfl, e0⟩) h33.1 h33.2 fun a s4 ha => ?_
    obtain ⟨y, hy, rfl⟩ := hm3 a ha
    rw [(put_ok I4 hl).2]
    exact done y _ _ _ _ _ (I4.put (hx3 y hy))
theorem cCb_ok {es : List (List Str)} (hes : ∀ e ∈ es, e ∈ es5) (h6 : es.length ≤ 6) (I : CodeI gd cd L R) (hl : L.length ≤ 1000) {v3 v4 v8 v9 v10 v11 v12 : Option MV} {QF : Fl → Store → Prop}
    (done : ∀ x s2 R2 v10 v11 v12, CodeI gd cd (L ++ [x]) R2 → QF (.next [some (.ref 0), some (.ref 1), some (.ref 2), v3, v4, some (.tup (es.map mvO)), some (.ref (gd + 2)), some (.ref (cd + 2)), v8, v9, v10, v11, v12]) (mk l s2 R2)) :
    wp (cCb [some (.ref 0), some (.ref 1), some (.ref 2), v3, v4, some (.tup (es.map mvO)), some (.ref (gd + 2)), some (.ref (cd + 2)), v8, v9, v10, v11, v12] (mk l s R)) NE QF := by
  unfold cCb
  walk_at "runp"
  refine ⟨by decide, ?_⟩
  rw [wp_neE hes]
  walk_at "runp"
  cases ee : es.isEmpty with
  | true =>
    rw [if_neg (by decide)]
    exact cOther_ok h6 I hl done
  | false =>
    rw [if_pos (by decide)]
    refine taken l s R (by decide) (by decide) fun k s1 k0 k1 => ?_
    walk_at "runp"
    split
    · have hlen : 0 < es.length := by cases es with
        | nil => cases ee
        | cons a b => simp
      refine taken l s1 R (by simp; omega) (by simp; omega) fun p s2 p0 p1 => ?_
      obtain ⟨p, rfl⟩ := Int.eq_ofNat_of_zero_le p0
      have hp : p < es.length := by simp at p1; omega
      obtain ⟨⟨kk, q, eq, hkk⟩, _, _⟩ := es5_ok (hes _ (List.getElem_mem hp))
      walk_at "runp"
      refine ⟨(put_ok (E := NE) (Q := fun _ _ => True) (x := []) I hl).1, mvO es[p], ?_, ?_⟩
      · have := atL (l := es.map mvO) (i := p) (by simpa using hp)
        rw [List.getElem_map] at this
        exact this
      rw [eq]
      unfold mvO
      rw [List.map_cons]
      walk_at "runp"
      obtain ⟨kvs, n, xs, d1, d2, d3, hx0, hx3, hxs⟩ := goods_at (l := l) (s := s2) I.gs hkk
      rw [wp_ixD d1 d2]
      refine pick (xs := xs.map .str) (.inr ⟨n, rfl, d3⟩) (by simpa using hx0) (by simp; omega) fun a s3 ha => ?_
      obtain ⟨x, hx, rfl⟩ := List.mem_map.mp ha
      refine ⟨by decide, ?_⟩
      rw [(put_ok I hl).2]
      exact done _ _ _ _ _ _ (I.put (name_ok (hxs x hx).1 (hxs x hx).2 (fun z hz => by rw [List.mem_singleton.mp hz]; exact .int _) (by simp)))
    · exact cOther_ok h6 I hl done
end
end K38
set_option Elab.async false
set_option linter.all false
set_option maxRecDepth 100000
set_option maxHeartbeats 1000000
namespace K38
open PySem PySem.Spec PyProof.Rows L2 MI
section
variable {l : List Int} {s : S3} {r R : Store} {E : EX} {Q : MV → Store → Prop} {S : Store} {gd cd : Nat} {L : List (List MV)}
theorem cC_ok {es : List (List Str)} (hes : ∀ e ∈ es, e ∈ es5) (h6 : es.length ≤ 6) (I : CodeI gd cd [] R) {v3 v4 v8 v9 v10 v11 v12 : Option MV} {QF : Fl → Store → Prop}
    (done : ∀ L s2 R2 v8 v10 v11 v12, CodeI gd cd L R2 → L.length ≤ 20 → QF (.next [some (.ref 0), some (.ref 1), some (.ref 2), v3, v4, some (.tup (es.map mvO)), some (.ref (gd + 2)), some (.ref (cd + 2)), v8, v9, v10, v11, v12]) (mk l s2 R2)) :
    wp (cC [some (.ref 0), some (.ref 1), some (.ref 2), v3, v4, some (.tup (es.map mvO)), some (.ref (gd + 2)), some (.ref (cd + 2)), v8, v9, v10, v11, v12] (mk l s R)) NE QF := by
  unfold cC
  walk_at "runp"
  refine ⟨by decide, ?_⟩
  have g : Gr R (R ++ [.lst [.int 6, .int 21]]) := Gr.refl.new rfl
  have I2 := I.gr g
  have e0 : (R ++ [MO.lst [.int 6, .int 21]])[R.length]? = some (.lst [.int 6, .int 21]) := at_new
  generalize R ++ [MO.lst [.int 6, .int 21]] = R2 at g I2 e0 ⊢
  refine taken l s R2 (by decide) (by decide) fun k s1 k0 k1 => ?_
  have e1 : (mk l s1 R2)[R.length + 2]? = some (.lst [.int 6, .int 21]) := e0
  rw [show R.length + 1 + 1 = R.length + 2 from rfl, wp_ixL e1]
  have hk : k = 0 ∨ k = 1 := by omega
  have hm : ∃ m : Int, atI [MV.int 6, .int 21] k = some (.int m) ∧ 0 < m ∧ m ≤ 21 := by
    rcases hk with rfl | rfl
    · exact ⟨6, rfl, by decide, by decide⟩
    · exact ⟨21, rfl, by decide, by decide⟩
  obtain ⟨m, hm, m0, m1⟩ := hm
  refine ⟨_, hm, ?_⟩
  refine taken l s1 R2 m0 (by omega) fun n s2 n0 n1 => ?_
  obtain ⟨n, rfl⟩ := Int.eq_ofNat_of_zero_le n0
  walk_at "runp"
  refine ⟨by omega, ?_⟩
  refine wp_forN (body := cCb) n (fun i ρ S' => ∃ L s3 R3 v8 v10 v11 v12, CodeI gd cd L R3 ∧ L.length = i ∧ S' = mk l s3 R3 ∧ ρ = [some (.ref 0), some (.ref 1), some (.ref 2), v3, v4, some (.tup (es.map mvO)), some (.ref (gd + 2)), some (.ref (cd + 2)), v8, v9, v10, v11, v12]) (by omega) ⟨[], _, _, _, _, _, _, I2, rfl, rfl, rfl⟩ ?_ ?_
  · rintro i ρ S' hi ⟨L, s3, R3, v8, v10, v11, v12, I3, hL, rfl, rfl⟩
    walk_at "runp"
    refine cCb_ok hes h6 I3 (by omega) fun x s4 R4 w10 w11 w12 I4 => ?_
    simp only [keep]
    exact ⟨_, _, _, _, _, _, _, I4, by simp [hL], rfl, rfl⟩
  · rintro ρ S' ⟨L, s3, R3, v8, v10, v11, v12, I3, hL, rfl, rfl⟩
    exact done _ _ _ _ _ _ _ I3 (by omega)
theorem okA_atos {n : Nat} {l : List MV} (h : StepOk l) (hn : namK l = none) : okA (n + 2) (.tup l) := by
  unfold okA
  refine ⟨by have := h.s; omega, fun w hw => ?_⟩
  cases h.a w hw with
  | str z _ => unfold okA; trivial
  | int i => unfold okA; trivial
  | non => unfold okA; trivial
  | bl b => exact absurd rfl (h.n hn _ hw b)
theorem okA_res {es : List (List Str)} (hE : ∀ e ∈ es, e ≠ []) (hE3 : ∀ e ∈ es, e.length ≤ 3) {x : List MV} (h : StepOk x) (hb : stB es x = true) {n : Nat} : okA (n + 2) (res es x) := by
  cases ek : namK x with
  | none =>
    rw [show res es x = .tup x from by unfold res; rw [ek]]
    exact okA_atos h ek
  | some k =>
    obtain ⟨a, i, e, he, rfl, ei, ea, er⟩ := laid hE hb ek
    rw [er]
    have h3 := hE3 e he
    unfold okA
    refine ⟨by simp; omega, fun w hw => ?_⟩
    rcases List.mem_cons.mp hw with rfl | hw
    · unfold okA; trivial
    · obtain ⟨z, _, rfl⟩ := List.mem_map.mp hw
      unfold okA
      trivial
theorem alike_tell (c : MI.Cl S) {es : List (List Str)} (hE : ∀ e ∈ es, e ≠ []) (hE3 : ∀ e ∈ es, e.length ≤ 3) (hL : L.length ≤ 20) (h : ∀ x ∈ L, StepOk x) : D__law_alike [tellV "pooled" (.tup (L.map (res es))) (firstBad (stB es) L), tellV "pooled" (.tup (L.map (res es))) (firstBad (stB es) L)] S = .ok (.bl true) S := by
  rw [show D__law_alike = R__law_alike 8 from rfl]
  refine alike_ok 8 _ S c ?_
  cases e : firstBad (stB es) L with
  | some i =>
    show okA 8 (.tup [.str "pooled", .int i])
    unfold okA
    refine ⟨by simp, fun w hw => ?_⟩
    simp only [List.mem_cons, List.not_mem_nil, or_false] at hw
    rcases hw with rfl | rfl <;> (unfold okA; trivial)
  | none =>
    show okA 8 (.tup (L.map (res es)))
    unfold okA
    refine ⟨by rw [List.length_map]; omega, fun w hw => ?_⟩
    obtain ⟨x, hx, rfl⟩ := List.mem_map.mp hw
    exact okA_res hE hE3 (h x hx) (fb_none e x hx)
theorem form_ent (c : MI.Cl S) {e : List Str} (h : e ∈ es5) : D_has_entry_form [mvO e] S = .ok (.bl true) S := by
  have : e = (["class", "box"] : List Str) ∨ e = (["class", "top"] : List Str) ∨ e = (["field", "box", "x"] : List Str) ∨ e = (["method", "red", "show"] : List Str) ∨ e = (["class", "num"] : List Str) := by
    unfold es5 at h
    simpa using h
  have k : ∀ e ∈ es5, formB (e.map MV.str) = true ∧ (e.map MV.str).length ≤ 4000 ∧ ∀ z ∈ e, z.length ≤ 4000 := by decide +kernel
  obtain ⟨k1, k2, k3⟩ := k e h
  unfold mvO
  rw [has_entry_form_eq c k2 (fun w hw => by obtain ⟨z, hz, rfl⟩ := List.mem_map.mp hw; exact .str (k3 z hz)), k1]
theorem cD_ok {es : List (List Str)} (hes : ∀ e ∈ es, e ∈ es5) (h6 : es.length ≤ 6) (I : CodeI gd cd L R) (hL : L.length ≤ 20) {v3 v4 v8 v9 v10 v11 v12 : Option MV} {QF : Fl → Store → Prop}
    (done : QF (.next [some (.ref 0), some (.ref 1), some (.ref 2), v3, v4, some (.tup (es.map mvO)), some (.ref (gd + 2)), some (.ref (cd + 2)), v8, v9, v10, v11, v12]) (mk l s R)) :
    wp (cD [some (.ref 0), some (.ref 1), some (.ref 2), v3, v4, some (.tup (es.map mvO)), some (.ref (gd + 2)), some (.ref (cd + 2)), v8, v9, v10, v11, v12] (mk l s R)) NE QF := by
  have c : MI.Cl (mk l s R) := I.rc.cl
  have hE : ∀ e ∈ es, e ≠ [] := fun e he => by
    obtain ⟨⟨k, q, rfl, _⟩, _⟩ := es5_ok (hes e he)
    simp
  have hE3 : ∀ e ∈ es, e.length ≤ 3 := fun e he => (es5_ok (hes e he)).2.1
  have e0 : (mk l s R)[cd + 2]? = some (.lst (L.map .tup)) := I.c
  unfold cD
  walk_at "runp"
  rw [wp_tupR e0]
  rw [law_told_eq c (by omega) hE hE3 (fun e he S' c' => form_ent c' (hes e he)) hL (fun x hx => (I.ok x hx).a)]
  walk_at "runp"
  rw [law_due_eq c hE hE3 hL (fun x hx => (I.ok x hx).a) e0]
  walk_at "runp"
  rw [alike_tell c hE hE3 hL I.ok]
  walk_at "runp"
  exact done
end
end K38
set_option Elab.async false
set_option linter.all false
set_option maxRecDepth 100000
set_option maxHeartbeats 1000000
namespace K38
open PySem PySem.Spec PyProof.Rows L2 MI
def bF : MV → Bool
  | .tup l => formB l
  | _ => false
section
variable {l : List Int} {s : S3} {r R : Store} {E : EX} {Q : MV → Store → Prop} {S : Store} {gd cd : Nat} {L : List (List MV)}
theorem form_no (c : MI.Cl S) {w : MV} (h : D_is_tuple [w, .int 2, .int 3] S = .ok (.bl false) S) : D_has_entry_form [w] S = .ok (.bl false) S := by
  unfold D_has_entry_form
  refine fn_val rfl c rfl ?_
  unfold d_has_entry_form
  simp only [n_has_entry_form]
  walk_at "runp"
  rw [h]
  walk_at "runp"
  walk_at "fin0"
inductive Wr (S : Store) : MV → Prop
  | non : Wr S .non
  | int (i : Int) : Wr S (.int i)
  | tup {x : List MV} : x.length ≤ 4000 → (∀ w ∈ x, Atm w) → formB x = false → Wr S (.tup x)
  | ref {n : Nat} {x : List MV} : S[n]? = some (.lst x) → Wr S (.ref n)
theorem Wr.form {S' : Store} {v : MV} (h : Wr S v) (g : Gr S S') (c : MI.Cl S') : D_has_entry_form [v] S' = .ok (.bl (bF v)) S' := by
  cases h with
  | non => exact form_no c is_tuple_non
  | int i => exact form_no c is_tuple_int
  | tup h1 h2 h3 => exact has_entry_form_eq c h1 h2
  | @ref n x e =>
    have e2 := g.at e
    refine form_no c (is_tuple_ref ?_)
    unfold fIsT tyM
    simp only [e2]
    rfl
theorem Wr.no {v : MV} (h : Wr S v) : bF v = false := by
  cases h with
  | non => rfl
  | int i => rfl
  | tup h1 h2 h3 => exact h3
  | ref e => rfl
theorem told_wrong (c : MI.Cl S) {es : List (List Str)} (hes : ∀ e ∈ es, e ∈ es5) (h6 : es.length ≤ 6) {v w : MV} (h : Wr S v) : D__law_told [.tup (es.map mvO ++ [v, .non]), w] S = .ok (.tup [.str "pool", .int (es.length : Nat)]) S := by
  have hb : ∀ z ∈ es.map mvO, bF z = true := fun z hz => by
    obtain ⟨e, he, rfl⟩ := List.mem_map.mp hz
    exact (by decide +kernel : ∀ e ∈ es5, bF (mvO e) = true) e (hes e he)
  refine told_bad (b := bF) c (by simp; omega) ?_ ?_
  · intro z hz S' g
    rcases List.mem_append.mp hz with hz | hz
    · rw [hb z hz]
      obtain ⟨e, he, rfl⟩ := List.mem_map.mp hz
      exact form_ent (g.cl c) (hes e he)
    · simp only [List.mem_cons, List.not_mem_nil, or_false] at hz
      rcases hz with rfl | rfl
      · exact h.form g (g.cl c)
      · exact form_no (g.cl c) is_tuple_non
  · have := fb_at (b := bF) (x := v) (post := [.non]) h.no hb
    rw [List.length_map] at this
    exact this
theorem wp_nePool {i : Nat} : wp (fNe (.tup [.str "pool", .int (i : Nat)]) (.tup [.str "pool", .int (i : Nat)]) S) E Q = Q (.bl false) S := by
  refine wp_neD (n := 1) (k := true) (by decide) ?_ ?_ (by simp)
  all_goals
    rw [okD_tup]
    intro w hw
    simp only [List.mem_cons, List.not_mem_nil, or_false] at hw
    rcases hw with rfl | rfl
    · unfold okD; decide +kernel
    · exact okD_int
theorem cF_ok (c : RC R) {es : List (List Str)} (hes : ∀ e ∈ es, e ∈ es5) (h6 : es.length ≤ 6) {n : Nat} {vs : List MV} (hn : (mk l s R)[n]? = some (.lst vs)) (hv : vs.length ≤ 100) (hw : ∀ v ∈ vs, Wr (mk l s R) v) {v2 v3 v4 v6 v7 v8 v10 v11 v12 : Option MV} {QF : Fl → Store → Prop}
    (done : ∀ v4, QF (.next [some (.ref 0), some (.ref 1), v2, v3, v4, some (.tup (es.map mvO)), v6, v7, v8, some (.ref n), v10, v11, v12]) (mk l s R)) :
    wp (cF [some (.ref 0), some (.ref 1), v2, v3, v4, some (.tup (es.map mvO)), v6, v7, v8, some (.ref n), v10, v11, v12] (mk l s R)) NE QF := by
  unfold cF
  walk_at "runp"
  rw [wp_srcL hn]
  refine wp_forR (f := 4096) (n := n) (fun w : MV => w) vs (fun pre ρ S' => S' = mk l s R ∧ ∃ v4, ρ = [some (.ref 0), some (.ref 1), v2, v3, v4, some (.tup (es.map mvO)), v6, v7, v8, some (.ref n), v10, v11, v12]) (by omega) ⟨rfl, _, rfl⟩ ?_ ?_ ?_
  · rintro pre ρ S' ⟨rfl, _⟩
    rw [hn]
    simp
  · rintro pre v post ρ S' ep ⟨rfl, v4, rfl⟩
    walk_at "runp"
    unfold cFb
    walk_at "runp"
    refine ⟨by decide, ?_⟩
    rw [wp_addT (by simp; omega)]
    refine ⟨by decide, ?_⟩
    rw [told_wrong c.cl hes h6 (hw v (by rw [ep]; simp))]
    walk_at "runp"
    refine ⟨by decide, ?_⟩
    rw [List.length_map, wp_nePool]
    walk_at "runp"
    simp only [keep]
    exact ⟨trivial, _, rfl⟩
  · rintro ρ S' ⟨rfl, v4, rfl⟩
    exact done v4
end
end K38
set_option Elab.async false
set_option linter.all false
set_option maxRecDepth 100000
set_option maxHeartbeats 1000000
namespace K38
open PySem PySem.Spec PyProof.Rows L2 MI
section
variable {l : List Int} {s : S3} {r R : Store} {E : EX} {Q : MV → Store → Prop} {S : Store} {gd cd : Nat} {L : List (List MV)}
def wr8 : List MV := [.non, .tup [], .tup [.str "class"], .tup [.str "class", .str "box", .str "x"], .tup [.str "field", .str "box"], .tup [.str "thing", .str "box"], .tup [.str "class", .str "Box"], .int 3]
def wr5 (n : Nat) : List MV := [.tup [.str "class", .str ""], .tup [.str "class", .str "toolong"], .ref n, .tup [.str "class", .non], .tup [.non, .str "box"]]
def wrB : MV → Bool
  | .non => true
  | .int _ => true
  | .tup x => decide (x.length ≤ 4000) && (x.all (fun w => match w with | .str z => decide (z.length ≤ 4000) | .non => true | _ => false) && !formB x)
  | _ => false
theorem wr_of {w : MV} (h : wrB w = true) : Wr S w ∧ below 0 w = true := by
  match w, h with
  | .non, _ => exact ⟨.non, rfl⟩
  | .int i, _ => exact ⟨.int i, rfl⟩
  | .tup x, h =>
    unfold wrB at h
    rw [Bool.and_eq_true, Bool.and_eq_true, decide_eq_true_eq, List.all_eq_true, Bool.not_eq_true'] at h
    obtain ⟨h1, h2, h3⟩ := h
    have ha : ∀ w ∈ x, Atm w := fun w hw => by
      have := h2 w hw
      match w, this with
      | .str z, k => exact .str (of_decide_eq_true k)
      | .non, _ => exact .non
    refine ⟨.tup h1 ha h3, ?_⟩
    show belows 0 x = true
    have := blws_map 0 (fun w : MV => w) x (fun w hw => by cases ha w hw <;> rfl)
    simpa using this
theorem cEF_ok (c : RC R) {es : List (List Str)} (hes : ∀ e ∈ es, e ∈ es5) (h6 : es.length ≤ 6) {v2 v3 v4 v6 v7 v8 v9 v10 v11 v12 : Option MV} {QF : Fl → Store → Prop}
    (done : ∀ v4 v9 R2, RC R2 → (∃ J, R2 = R ++ J) → QF (.next [some (.ref 0), some (.ref 1), v2, v3, v4, some (.tup (es.map mvO)), v6, v7, v8, v9, v10, v11, v12]) (mk l s R2)) :
    wp ((sSeq cE (sSeq cE2 cF)) [some (.ref 0), some (.ref 1), v2, v3, v4, some (.tup (es.map mvO)), v6, v7, v8, v9, v10, v11, v12] (mk l s R)) NE QF := by
  unfold cE
  walk_at "runp"
  refine ⟨by decide, by decide, by decide, by decide, by decide, by decide, by decide, ?_⟩
  rw [show ([.non, .tup [], .tup [.str "class"], .tup [.str "class", .str "box", .str "x"], .tup [.str "field", .str "box"], .tup [.str "thing", .str "box"], .tup [.str "class", .str "Box"], .int 3] : List MV) = wr8 from rfl]
  have c2 : RC (R ++ [.lst wr8]) := c.app (blwO_le (Nat.zero_le _) _ (by decide +kernel))
  have e2 : (R ++ [MO.lst wr8])[R.length]? = some (.lst wr8) := at_new
  have p2 : ∃ J, R ++ [MO.lst wr8] = R ++ J := ⟨_, rfl⟩
  generalize R ++ [MO.lst wr8] = R2 at c2 e2 p2 ⊢
  generalize hn : R.length = n at e2 ⊢
  unfold cE2
  walk_at "runp"
  refine ⟨by decide, by decide, by decide, by decide, by decide, by decide, ?_⟩
  have c3 : RC (R2 ++ [MO.lst [.str "class", .str "box"]]) := c2.app (blwO_le (Nat.zero_le _) _ (by decide +kernel))
  have e3 : (R2 ++ [MO.lst [.str "class", .str "box"]])[n]? = some (.lst wr8) := getE_app e2 _
  have f3 : (R2 ++ [MO.lst [.str "class", .str "box"]])[R2.length]? = some (.lst [.str "class", .str "box"]) := at_new
  have l3 : (R2 ++ [MO.lst [.str "class", .str "box"]]).length = R2.length + 1 := by simp
  have p3 : ∃ J, R2 ++ [MO.lst [.str "class", .str "box"]] = R ++ J := by
    obtain ⟨J, rfl⟩ := p2
    exact ⟨J ++ [MO.lst [.str "class", .str "box"]], List.append_assoc _ _ _⟩
  generalize R2 ++ [MO.lst [.str "class", .str "box"]] = R3 at c3 e3 f3 l3 p3 ⊢
  generalize hm : R2.length = m at f3 l3 ⊢
  rw [show ([.tup [.str "class", .str ""], .tup [.str "class", .str "toolong"], .ref (m + 1 + 1), .tup [.str "class", .non], .tup [.non, .str "box"]] : List MV) = wr5 (m + 2) from rfl]
  have b4 : belowO (R3.length + 2) (.lst (wr5 (m + 2))) = true := by
    rw [l3]
    unfold wr5
    simp [belowO, belows, below]
  have c4 : RC (R3 ++ [MO.lst (wr5 (m + 2))]) := c3.app b4
  have e4 : (R3 ++ [MO.lst (wr5 (m + 2))])[n]? = some (.lst wr8) := getE_app e3 _
  have f4 : (R3 ++ [MO.lst (wr5 (m + 2))])[m]? = some (.lst [.str "class", .str "box"]) := getE_app f3 _
  have g4 : (R3 ++ [MO.lst (wr5 (m + 2))])[R3.length]? = some (.lst (wr5 (m + 2))) := at_new
  have l4 : (R3 ++ [MO.lst (wr5 (m + 2))]).length = m + 2 := by simp [l3]
  have p4 : ∃ J, R3 ++ [MO.lst (wr5 (m + 2))] = R ++ J := by
    obtain ⟨J, rfl⟩ := p3
    exact ⟨J ++ [MO.lst (wr5 (m + 2))], List.append_assoc _ _ _⟩
  generalize R3 ++ [MO.lst (wr5 (m + 2))] = R4 at c4 e4 f4 g4 l4 p4 ⊢
  have e4' : (mk l s R4)[n + 2]? = some (.lst wr8) := e4
  have g4' : (mk l s R4)[R3.length + 2]? = some (.lst (wr5 (m + 2))) := g4
  rw [show n + 1 + 1 = n + 2 from rfl, show R3.length + 1 + 1 = R3.length + 2 from rfl, wp_addL e4' g4' (by simp [wr8, wr5])]
  rw [mk_app, mk_len]
  have b5 : belowO (R4.length + 2) (.lst (wr8 ++ wr5 (m + 2))) = true := by
    rw [l4]
    unfold wr5 wr8
    simp [belowO, belows, below]
  have c5 := c4.app b5
  have e5 : (mk l s (R4 ++ [MO.lst (wr8 ++ wr5 (m + 2))]))[R4.length + 2]? = some (.lst (wr8 ++ wr5 (m + 2))) := by
    show (R4 ++ [MO.lst (wr8 ++ wr5 (m + 2))])[R4.length]? = _
    exact at_new
  have f5 : (mk l s (R4 ++ [MO.lst (wr8 ++ wr5 (m + 2))]))[m + 2]? = some (.lst [.str "class", .str "box"]) := getE_app f4 _
  have p5 : ∃ J, R4 ++ [MO.lst (wr8 ++ wr5 (m + 2))] = R ++ J := by
    obtain ⟨J, rfl⟩ := p4
    exact ⟨J ++ [MO.lst (wr8 ++ wr5 (m + 2))], List.append_assoc _ _ _⟩
  generalize R4 ++ [MO.lst (wr8 ++ wr5 (m + 2))] = R5 at c5 e5 f5 p5 ⊢
  refine cF_ok c5 hes h6 e5 (by simp [wr8, wr5]) ?_ fun v4 => done _ _ _ c5 p5
  intro v hv
  rcases List.mem_append.mp hv with hv | hv
  · exact (wr_of ((by decide +kernel : ∀ v ∈ wr8, wrB v = true) v hv)).1
  · unfold wr5 at hv
    simp only [List.mem_cons, List.not_mem_nil, or_false] at hv
    rcases hv with rfl | rfl | rfl | rfl | rfl
    · exact (wr_of (by decide +kernel)).1
    · exact (wr_of (by decide +kernel)).1
    · exact .ref f5
    · exact (wr_of (by decide +kernel)).1
    · exact (wr_of (by decide +kernel)).1
end
end K38
set_option Elab.async false
set_option linter.all false
set_option maxRecDepth 100000
set_option maxHeartbeats 1000000
namespace K38
open PySem PySem.Spec PyProof.Rows L2 MI
section
variable {l : List Int} {s : S3} {r R : Store} {E : EX} {Q : MV → Store → Prop} {S : Store} {gd cd : Nat} {L : List (List MV)}
theorem wp_mulT {w : MV} {k : Nat} (h1 : 2 ≤ k) (h2 : k ≤ 1000) : wp (fMulX (.tup [w]) (.int (k : Nat)) S) E Q = Q (.tup (List.replicate k w)) S := by
  have e : fMulX (.tup [w]) (.int (k : Nat)) S = .ok (.tup (List.replicate k w)) S := by
    unfold fMulX fMul
    dsimp only
    rw [if_neg (by omega), if_neg (by omega)]
    rw [if_pos (by simp only [Bool.and_eq_true, decide_eq_true_eq]; exact ⟨by simp, by omega, by omega, by simp⟩)]
    have : ∀ n : Nat, (List.replicate n [w]).flatten = List.replicate n w := fun n => by
      induction n with
      | zero => rfl
      | succ n ih => rw [List.replicate_succ, List.flatten_cons, ih]; rfl
    rw [Int.toNat_natCast, this]
  rw [e]
  rfl
theorem wp_lstOfR {n : Nat} {xs : List MV} (e : S[n]? = some (.lst xs)) : wp (fLstOf [.ref n] S) E Q = Q (.ref S.length) (S ++ [.lst xs]) := by
  unfold fLstOf
  simp only [itemsOf, e]
  rfl
theorem nePN : wp (fNe (.tup [.str "pool", .non]) (.tup [.str "pool", .non]) S) E Q = Q (.bl false) S := by
  refine wp_neD (n := 1) (k := true) (by decide) ?_ ?_ (by simp)
  all_goals
    rw [okD_tup]
    intro w hw
    simp only [List.mem_cons, List.not_mem_nil, or_false] at hw
    rcases hw with rfl | rfl
    · unfold okD; decide +kernel
    · unfold okD; trivial
theorem nePD : wp (fNe (.tup [.str "pooled", .non]) (.tup [.str "pooled", .non]) S) E Q = Q (.bl false) S := by
  refine wp_neD (n := 1) (k := true) (by decide) ?_ ?_ (by simp)
  all_goals
    rw [okD_tup]
    intro w hw
    simp only [List.mem_cons, List.not_mem_nil, or_false] at hw
    rcases hw with rfl | rfl
    · unfold okD; decide +kernel
    · unfold okD; trivial
theorem l1_loop {n : Nat} {vs : List MV} (c : RC R) (hn : (mk l s R)[n]? = some (.lst vs)) (hv : vs.length ≤ 100) (hw : ∀ v ∈ vs, D__law_told [v, .tup []] (mk l s R) = .ok (.tup [.str "pool", .non]) (mk l s R)) {v0 v1 v2 v3 v4 v5 v6 v7 v8 v9 v10 v11 v12 : Option MV} {QF : Fl → Store → Prop}
    (done : ∀ v4, QF (.next [v0, v1, v2, v3, v4, v5, v6, v7, v8, v9, v10, v11, v12]) (mk l s R)) : wp (MI.forM (srcRef n) (gN 4) cL1b 4096 0 [v0, v1, v2, v3, v4, v5, v6, v7, v8, v9, v10, v11, v12] (mk l s R)) NE QF := by
  refine wp_forR (f := 4096) (n := n) (fun w : MV => w) vs (fun pre ρ S' => S' = mk l s R ∧ ∃ v4, ρ = [v0, v1, v2, v3, v4, v5, v6, v7, v8, v9, v10, v11, v12]) (by omega) ⟨rfl, _, rfl⟩ ?_ ?_ ?_
  · rintro pre ρ S' ⟨rfl, _⟩
    rw [hn]
    simp
  · rintro pre v post ρ S' ep ⟨rfl, v4, rfl⟩
    walk_at "runp"
    unfold cL1b
    walk_at "runp"
    refine ⟨by decide, ?_⟩
    rw [hw v (by rw [ep]; simp)]
    walk_at "runp"
    refine ⟨by decide, ?_⟩
    rw [nePN]
    walk_at "runp"
    simp only [keep]
    exact ⟨trivial, _, rfl⟩
  · rintro ρ S' ⟨rfl, v4, rfl⟩
    exact done v4
theorem l2_loop {n : Nat} {vs : List MV} (c : RC R) (hn : (mk l s R)[n]? = some (.lst vs)) (hv : vs.length ≤ 100) (hw : ∀ v ∈ vs, D__law_told [.tup [], v] (mk l s R) = .ok (.tup [.str "pooled", .non]) (mk l s R)) {v0 v1 v2 v3 v4 v5 v6 v7 v8 v9 v10 v11 v12 : Option MV} {QF : Fl → Store → Prop}
    (done : ∀ v4, QF (.next [v0, v1, v2, v3, v4, v5, v6, v7, v8, v9, v10, v11, v12]) (mk l s R)) : wp (MI.forM (srcRef n) (gN 4) cL2b 4096 0 [v0, v1, v2, v3, v4, v5, v6, v7, v8, v9, v10, v11, v12] (mk l s R)) NE QF := by
  refine wp_forR (f := 4096) (n := n) (fun w : MV => w) vs (fun pre ρ S' => S' = mk l s R ∧ ∃ v4, ρ = [v0, v1, v2, v3, v4, v5, v6, v7, v8, v9, v10, v11, v12]) (by omega) ⟨rfl, _, rfl⟩ ?_ ?_ ?_
  · rintro pre ρ S' ⟨rfl, _⟩
    rw [hn]
    simp
  · rintro pre v post ρ S' ep ⟨rfl, v4, rfl⟩
    walk_at "runp"
    unfold cL2b
    walk_at "runp"
    refine ⟨by decide, ?_⟩
    rw [hw v (by rw [ep]; simp)]
    walk_at "runp"
    refine ⟨by decide, ?_⟩
    rw [nePD]
    walk_at "runp"
    simp only [keep]
    exact ⟨trivial, _, rfl⟩
  · rintro ρ S' ⟨rfl, v4, rfl⟩
    exact done v4
theorem notT_ref {n : Nat} {x : List MV} (e : S[n]? = some (.lst x)) : fIsT "tuple" (.ref n) S = .ok (.bl false) S := by
  unfold fIsT tyM
  simp only [e]
  rfl
theorem notT_dic {n : Nat} {x : List (Key × MV)} (e : S[n]? = some (.dic x)) : fIsT "tuple" (.ref n) S = .ok (.bl false) S := by
  unfold fIsT tyM
  simp only [e]
  rfl
theorem first5 : atI (es5.map mvO) 0 = some (mvO ["class", "box"]) := rfl
theorem cL1_ok (c : RC R) (h0 : R[0]? = some (.lst (es5.map mvO))) {v3 v4 v5 v6 v7 v8 v9 v10 v11 v12 : Option MV} {QF : Fl → Store → Prop}
    (done : ∀ v4 R2, RC R2 → R2[0]? = some (.lst (es5.map mvO)) → QF (.next [some (.ref 0), some (.ref 1), some (.ref 2), v3, v4, v5, v6, v7, v8, v9, v10, v11, v12]) (mk l s R2)) :
    wp (cL1 [some (.ref 0), some (.ref 1), some (.ref 2), v3, v4, v5, v6, v7, v8, v9, v10, v11, v12] (mk l s R)) NE QF := by
  have e0 : (mk l s R)[2]? = some (.lst (es5.map mvO)) := h0
  have pur : belows 0 (es5.map mvO) = true := by decide +kernel
  unfold cL1
  walk_at "runp"
  rw [wp_lstOfR e0, mk_app, mk_len]
  have g1 : Gr R (R ++ [MO.lst (es5.map mvO)]) := Gr.refl.new pur
  have c1 := c.gr g1
  have f1 : (R ++ [MO.lst (es5.map mvO)])[R.length]? = some (.lst (es5.map mvO)) := at_new
  have h1 := g1.at h0
  generalize R ++ [MO.lst (es5.map mvO)] = R1 at c1 f1 h1 ⊢
  generalize R.length = n at f1 ⊢
  have e1 : (mk l s R1)[2]? = some (.lst (es5.map mvO)) := h1
  rw [wp_ixL e1, first5]
  refine ⟨_, rfl, by decide, ?_⟩
  rw [show (MV.int 100) = MV.int ((100 : Nat) : Int) from rfl, wp_mulT (by decide) (by decide)]
  refine ⟨by decide, ?_⟩
  rw [mk_app, mk_app, mk_len, mk_len]
  have g2 : Gr R1 (R1 ++ [MO.dic []]) := Gr.refl.new rfl
  have c2 := c1.gr g2
  have f2 := g2.at f1
  have h2 := g2.at h1
  have d2 : (R1 ++ [MO.dic []])[R1.length]? = some (.dic []) := at_new
  have l2 : (R1 ++ [MO.dic []]).length = R1.length + 1 := by simp
  have hn : n < R1.length := by
    rcases Nat.lt_or_ge n R1.length with h | h
    · exact h
    · rw [List.getElem?_eq_none h] at f1; cases f1
  generalize R1 ++ [MO.dic []] = R2 at c2 f2 h2 d2 l2 ⊢
  generalize R1.length = m at d2 l2 hn ⊢
  have bv : belowO (R2.length + 2) (.lst [MV.non, MV.ref (n + 2), MV.tup (List.replicate 100 (mvO ["class", "box"])), MV.int 3, MV.ref (m + 2)]) = true := by
    have hb : belows (R2.length + 2) (List.replicate 100 (mvO ["class", "box"])) = true := by
      refine (blws_all _ _).mpr fun x hx => ?_
      rw [List.eq_of_mem_replicate hx]
      rfl
    show (true && (decide (n + 2 < R2.length + 2) && (belows (R2.length + 2) (List.replicate 100 (mvO ["class", "box"])) && (true && (decide (m + 2 < R2.length + 2) && true))))) = true
    rw [hb, decide_eq_true (by omega), decide_eq_true (by omega)]
    rfl
  have c3 := c2.app bv
  generalize hvs : [MV.non, MV.ref (n + 2), MV.tup (List.replicate 100 (mvO ["class", "box"])), MV.int 3, MV.ref (m + 2)] = vs at c3 ⊢
  have g3 : (R2 ++ [MO.lst vs])[n]? = some (.lst (es5.map mvO)) := getE_app f2 _
  have g4 : (R2 ++ [MO.lst vs])[m]? = some (.dic []) := getE_app d2 _
  have g5 : (R2 ++ [MO.lst vs])[R2.length]? = some (.lst vs) := at_new
  have g6 : (R2 ++ [MO.lst vs])[0]? = some (.lst (es5.map mvO)) := getE_app h2 _
  generalize R2 ++ [MO.lst vs] = R3 at c3 g3 g4 g5 g6 ⊢
  rw [wp_srcL (show (mk l s R3)[R2.length + 2]? = some (.lst vs) from g5)]
  refine l1_loop c3 (show (mk l s R3)[R2.length + 2]? = some (.lst vs) from g5) (by rw [← hvs]; simp) ?_ fun v4 => done _ _ c3 g6
  intro v hv
  rw [← hvs] at hv
  simp only [List.mem_cons, List.not_mem_nil, or_false] at hv
  rcases hv with rfl | rfl | rfl | rfl | rfl
  · exact told_none c3.cl is_tuple_non
  · exact told_none c3.cl (is_tuple_ref (notT_ref (show (mk l s R3)[n + 2]? = _ from g3)))
  · refine told_none c3.cl ?_
    rw [is_tuple_eq]
    simp
  · exact told_none c3.cl is_tuple_int
  · exact told_none c3.cl (is_tuple_ref (notT_dic (show (mk l s R3)[m + 2]? = _ from g4)))
end
end K38
set_option Elab.async false
set_option linter.all false
set_option maxRecDepth 100000
set_option maxHeartbeats 1000000
namespace K38
open PySem PySem.Spec PyProof.Rows L2 MI
section
variable {l : List Int} {s : S3} {r R : Store} {E : EX} {Q : MV → Store → Prop} {S : Store} {gd cd : Nat} {L : List (List MV)}
def p3 : MV := .tup [.str "push", .int 3]
theorem cL2_ok (c : RC R) (h0 : R[0]? = some (.lst (es5.map mvO))) {v3 v4 v5 v6 v7 v8 v9 v10 v11 v12 : Option MV} {QF : Fl → Store → Prop}
    (done : ∀ v4 R2, RC R2 → R2[0]? = some (.lst (es5.map mvO)) → QF (.next [some (.ref 0), some (.ref 1), some (.ref 2), v3, v4, v5, v6, v7, v8, v9, v10, v11, v12]) (mk l s R2)) :
    wp (cL2 [some (.ref 0), some (.ref 1), some (.ref 2), v3, v4, v5, v6, v7, v8, v9, v10, v11, v12] (mk l s R)) NE QF := by
  unfold cL2
  walk_at "runp"
  refine ⟨by decide, by decide, by decide, by decide, ?_⟩
  rw [show (MV.tup [.str "push", .int 3]) = p3 from rfl]
  have g1 : Gr R (R ++ [MO.lst [p3]]) := Gr.refl.new (by decide +kernel)
  have c1 := c.gr g1
  have f1 : (R ++ [MO.lst [p3]])[R.length]? = some (.lst [p3]) := at_new
  have h1 := g1.at h0
  generalize R ++ [MO.lst [p3]] = R1 at c1 f1 h1 ⊢
  rw [show R.length + 1 + 1 = R.length + 2 from rfl]
  generalize R.length = n at f1 ⊢
  rw [show (MV.int 21) = MV.int ((21 : Nat) : Int) from rfl, wp_mulT (by decide) (by decide)]
  refine ⟨by decide, by decide, by decide, by decide, by decide, ?_⟩
  rw [mk_app, mk_app, mk_len, mk_len]
  have g2 : Gr R1 (R1 ++ [MO.lst [.str "push", .int 3]]) := Gr.refl.new rfl
  have c2 := c1.gr g2
  have f2 := g2.at f1
  have h2 := g2.at h1
  have d2 : (R1 ++ [MO.lst [.str "push", .int 3]])[R1.length]? = some (.lst [.str "push", .int 3]) := at_new
  have l2 : (R1 ++ [MO.lst [.str "push", .int 3]]).length = R1.length + 1 := by simp
  have hn : n < R1.length := by
    rcases Nat.lt_or_ge n R1.length with h | h
    · exact h
    · rw [List.getElem?_eq_none h] at f1; cases f1
  generalize R1 ++ [MO.lst [.str "push", .int 3]] = R2 at c2 f2 h2 d2 l2 ⊢
  generalize R1.length = m at d2 l2 hn ⊢
  have bv : belowO (R2.length + 2) (.lst [MV.non, MV.ref (n + 2), MV.tup (List.replicate 21 p3), .tup [.non], .tup [p3, .ref (m + 2)], .str "push", .int 3]) = true := by
    have hb : belows (R2.length + 2) (List.replicate 21 p3) = true := by
      refine (blws_all _ _).mpr fun x hx => ?_
      rw [List.eq_of_mem_replicate hx]
      rfl
    show (true && (decide (n + 2 < R2.length + 2) && (belows (R2.length + 2) (List.replicate 21 p3) && ((true && true) && (((true && (true && true)) && (decide (m + 2 < R2.length + 2) && true)) && (true && (true && true))))))) = true
    rw [hb, decide_eq_true (by omega), decide_eq_true (by omega)]
    rfl
  have c3 := c2.app bv
  generalize hvs : [MV.non, MV.ref (n + 2), MV.tup (List.replicate 21 p3), .tup [.non], .tup [p3, .ref (m + 2)], .str "push", .int 3] = vs at c3 ⊢
  have g3 : (R2 ++ [MO.lst vs])[n]? = some (.lst [p3]) := getE_app f2 _
  have g4 : (R2 ++ [MO.lst vs])[m]? = some (.lst [.str "push", .int 3]) := getE_app d2 _
  have g5 : (R2 ++ [MO.lst vs])[R2.length]? = some (.lst vs) := at_new
  have g6 : (R2 ++ [MO.lst vs])[0]? = some (.lst (es5.map mvO)) := getE_app h2 _
  generalize R2 ++ [MO.lst vs] = R3 at c3 g3 g4 g5 g6 ⊢
  rw [wp_srcL (show (mk l s R3)[R2.length + 2]? = some (.lst vs) from g5)]
  refine l2_loop c3 (show (mk l s R3)[R2.length + 2]? = some (.lst vs) from g5) (by rw [← hvs]; simp) ?_ fun v4 => done _ _ c3 g6
  intro v hv
  rw [← hvs] at hv
  simp only [List.mem_cons, List.not_mem_nil, or_false] at hv
  rcases hv with rfl | rfl | rfl | rfl | rfl | rfl | rfl
  · exact told_notup c3.cl is_tuple_non
  · exact told_notup c3.cl (is_tuple_ref (notT_ref (show (mk l s R3)[n + 2]? = _ from g3)))
  · refine told_notup c3.cl ?_
    rw [is_tuple_eq]
    simp
  · exact told_steps c3.cl (t := fun _ => false) (by decide) (fun x hx S' g => by rw [List.mem_singleton.mp hx]; rfl) rfl
  · refine told_steps c3.cl (t := fun w => match w with | .tup _ => true | _ => false) (by simp) (fun x hx S' g => ?_) rfl
    simp only [List.mem_cons, List.not_mem_nil, or_false] at hx
    rcases hx with rfl | rfl
    · rfl
    · exact notT_ref (g.at (show (mk l s R3)[m + 2]? = _ from g4))
  · exact told_notup c3.cl is_tuple_str
  · exact told_notup c3.cl is_tuple_int
theorem cL3_ok (c : RC R) (h0 : R[0]? = some (.lst (es5.map mvO))) {v3 v4 v5 v6 v7 v8 v9 v10 v11 v12 : Option MV} {QF : Fl → Store → Prop}
    (done : QF (.ret (.bl true)) (mk l s R)) :
    wp (cL3 [some (.ref 0), some (.ref 1), some (.ref 2), v3, v4, v5, v6, v7, v8, v9, v10, v11, v12] (mk l s R)) NE QF := by
  have e0 : (mk l s R)[2]? = some (.lst (es5.map mvO)) := h0
  unfold cL3
  walk_at "runp"
  rw [wp_ixL e0, first5]
  refine ⟨_, rfl, by decide, ?_⟩
  rw [show (MV.int 99) = MV.int ((99 : Nat) : Int) from rfl, wp_mulT (by decide) (by decide)]
  refine ⟨by decide, by decide, ?_⟩
  have e20 : (MV.int 20) = MV.int ((20 : Nat) : Int) := rfl
  have w20 : ∀ (E : EX) (Q : MV → Store → Prop), wp (fMulX (.tup [.tup [.str "new", .int 98]]) (.int 20) (mk l s R)) E Q = Q (.tup (List.replicate 20 (.tup [.str "new", .int 98]))) (mk l s R) := fun E Q => by rw [e20]; exact wp_mulT (by decide) (by decide)
  rw [w20]
  have k := law_told_eq (S := mk l s R) c.cl (es := List.replicate 99 ["class", "box"]) (by simp) (fun e he => by rw [List.eq_of_mem_replicate he]; simp) (fun e he => by rw [List.eq_of_mem_replicate he]; decide) (fun e he S' c' => by rw [List.eq_of_mem_replicate he]; exact form_ent c' (by decide +kernel)) (L := List.replicate 20 [.str "new", .int 98]) (by simp) (fun x hx w hw => by
    rw [List.eq_of_mem_replicate hx] at hw
    simp only [List.mem_cons, List.not_mem_nil, or_false] at hw
    rcases hw with rfl | rfl
    · exact .str _ (by decide +kernel)
    · exact .int _)
  rw [List.map_replicate, List.map_replicate] at k
  rw [k]
  have hf : firstBad (stB (List.replicate 99 ["class", "box"])) (List.replicate 20 [.str "new", .int 98]) = none := by decide +kernel
  rw [hf]
  have hx : (List.map (res (List.replicate 99 ["class", "box"])) (List.replicate 20 [.str "new", .int 98])).length = 20 := by rw [List.length_map, List.length_replicate]
  generalize List.map (res (List.replicate 99 ["class", "box"])) (List.replicate 20 [.str "new", .int 98]) = xs at hx ⊢
  rw [show tellV "pooled" (.tup xs) none = .tup xs from rfl]
  rw [wp_ok]
  rw [show fLen [.tup xs] (mk l s R) = .ok (.int (xs.length : Nat)) (mk l s R) from rfl, hx]
  walk_at "runp"
  exact done
theorem turn_ok (c : RC R) (h0 : R[0]? = some (.lst (es5.map mvO))) {v3 v4 v5 v6 v7 v8 v9 v10 v11 v12 : Option MV} {QF : Fl → Store → Prop}
    (done : ∀ s2 R2 v4 v5 v6 v7 v8 v9 v10 v11 v12, RC R2 → R2[0]? = some (.lst (es5.map mvO)) → QF (.next [some (.ref 0), some (.ref 1), some (.ref 2), v3, v4, v5, v6, v7, v8, v9, v10, v11, v12]) (mk l s2 R2)) :
    wp (cTurn [some (.ref 0), some (.ref 1), some (.ref 2), v3, v4, v5, v6, v7, v8, v9, v10, v11, v12] (mk l s R)) NE QF := by
  have hR : 0 < R.length := by
    rcases Nat.lt_or_ge 0 R.length with h | h
    · exact h
    · rw [List.getElem?_eq_none h] at h0; cases h0
  unfold cTurn
  rw [wp_seq]
  refine cA_ok c h0 fun es s2 R2 h6 hes g2 => ?_
  have c2 := c.gr g2
  have h2 := g2.at h0
  have hl2 := g2.len
  dsimp only
  rw [wp_seq]
  refine cB_ok c2 fun gd cd R3 p3 c3 gs hne hcd e3 => ?_
  have h3 : R3[0]? = some (.lst (es5.map mvO)) := by
    obtain ⟨J, rfl⟩ := p3
    exact getE_app h2 _
  have I : CodeI gd cd [] R3 := ⟨c3, h3, gs, e3, by omega, by simp⟩
  dsimp only
  rw [wp_seq]
  refine cC_ok hes h6 I fun L s4 R4 w8 w10 w11 w12 I4 hL => ?_
  dsimp only
  unfold cTail
  rw [wp_seq]
  refine cD_ok hes h6 I4 hL ?_
  dsimp only
  refine cEF_ok I4.rc hes h6 fun w4 w9 R5 c5 p5 => ?_
  refine done _ _ _ _ _ _ _ _ _ _ _ c5 ?_
  obtain ⟨J, rfl⟩ := p5
  exact getE_app I4.b _
end
theorem law_all (ns : List Int) : ∃ S', D_law [.ref 0] [.rol (ns.map MV.int)] = .ok (.bl true) S' := by
  have key : wp (D_law [.ref 0] [.rol (ns.map MV.int)]) NE fun w _ => w = .bl true := by
    unfold D_law
    rw [wp_fn (n := List.length [PySem.Str.ofString "script"]) (ws := [MV.ref 0]) rfl]
    rw [d_law_eq]
    simp only [n_law]
    walk_at "runp"
    refine ⟨by decide, by decide, by decide, by decide, by decide, by decide, by decide, ⟨by decide, by decide⟩, ?_⟩
    show wp (MI.forM (srcRng 0 ((3 : Nat) : Int)) _ _ 4096 0 _ (mk ns ⟨0, 2938, 0⟩ [.lst (es5.map mvO)])) _ _
    refine wp_forN 3 (fun t ρ S' => ∃ (s : S3) (R : Store) (v3 v4 v5 v6 v7 v8 v9 v10 v11 v12 : Option MV), S' = mk ns s R ∧ RC R ∧ R[0]? = some (.lst (es5.map mvO)) ∧ ρ = [some (.ref 0), some (.ref 1), some (.ref 2), v3, v4, v5, v6, v7, v8, v9, v10, v11, v12]) (by decide) ⟨_, [.lst (es5.map mvO)], none, none, none, none, none, none, none, none, none, none, rfl, (by unfold RC; decide +kernel), rfl, rfl⟩ ?_ ?_
    · rintro t ρ S' ht ⟨s, R, v3, v4, v5, v6, v7, v8, v9, v10, v11, v12, rfl, rc, h0, rfl⟩
      simp only [wp_gN]
      refine turn_ok rc h0 fun s2 R2 w4 w5 w6 w7 w8 w9 w10 w11 w12 c2 h2 => ?_
      simp only [keep]
      exact ⟨_, _, _, _, _, _, _, _, _, _, _, _, rfl, c2, h2, rfl⟩
    · rintro ρ S' ⟨s, R, v3, v4, v5, v6, v7, v8, v9, v10, v11, v12, rfl, rc, h0, rfl⟩
      dsimp only
      unfold cEnd
      rw [wp_seq]
      refine cL1_ok rc h0 fun w4 R2 c2 h2 => ?_
      dsimp only
      rw [wp_seq]
      refine cL2_ok c2 h2 fun x4 R3 c3 h3 => ?_
      dsimp only
      refine cL3_ok c3 h3 ?_
      dsimp only
      exact gc_bl fun _ => rfl
  obtain ⟨w, S', e, rfl⟩ := key.ex
  exact ⟨S', e⟩
end K38
set_option Elab.async false
set_option linter.all false
set_option maxRecDepth 100000
set_option maxHeartbeats 0
namespace K38
open PySem PySem.Spec PyProof.Rows L2 MI
theorem law_true (ns : List Int) (h : ns.length ≤ 63) : ∃ S', D_law [.ref 0] [.rol (ns.map MV.int)] = .ok (.bl true) S' := by
  exact law_all ns
end K38
open PySem PySem.W PySem.Calls PyProof.Rows
theorem PySem.Challenge.cw_classhouse_k38_whole_codes_with_names_ag_holds : PySem.Challenge.rw_classhouse_k38_whole_codes_with_names_ag.Holds := by
  w_on; o_law
  refine HandSHeadRun.head_any (r := K38.R) (q := K38.qv) (H := K38.hk) (ob := K38.lk) (M := 5600) (loose := K38.tnames) (d := HandSHeadRun.topDef K38.R.prog 23) (kwd := []) (MI.lookL_eq _ _ _ _ _)
    (by kernel_rfl) (fun s => by kernel_rfl) K38.run (by kernel_rfl) (by kernel_rfl) (by kernel_rfl) (by rfl) (by first | assumption | decide +kernel) (by decide +kernel) ⟨rfl, rfl, rfl, rfl, rfl, by decide +kernel⟩ ?hw ?hc
  case hw => w_witness2
  case hc =>
    refine MI.walkM (l := PySem.Challenge.rw_classhouse_k38_whole_codes_with_names_ag) (n := 63) (k := 10) (x := "script") rfl (by decide) (by kernel_rfl) ⟨rfl, by decide, by decide⟩ K38.D_law K38.law_true ?F
    intro w mg f h Y G hm0
    obtain ⟨K, KX, c⟩ := Y
    have hm : mg ("law" : PySem.Str) = some (.ref f) := by
      have e : (HandSHeadRun.topDef K38.R.prog 23).name = ("law" : PySem.Str) := by kernel_rfl
      rw [← e]
      exact hm0
    obtain ⟨T, e⟩ := K38.all_txt KX G c
    have e2 : f = T.f_law := by
      have z := T.m_law
      rw [hm] at z
      cases z
      rfl
    subst e2
    exact ⟨K, (K38.GG T).ct, (K38.GG T).outs, (K38.GG T).ow, T.d_law, KX, c.no, MI.fun_bindsA (ps := ["script"]) T.F_law fun _ _ _ _ _ _ us hl => match us, hl with | [_], _ => rfl, fun base => K38.ok_law T⟩
