import PyProof.Rows.All
import Wide.All
import OpenK.AllK
import Wide.FinOn
import HandS.ForMost
import HandS.ForExc
import HandS.Walk
import HandS.CallSlots
import HandS.IsInst
import HandS.Flow
import HandS.Strs
import HandS.TupAny
import HandS.TupMul
import HandS.Wide
import HandS.Conv
import HandS.Style
import HandS.Zip
import HandS.Property
import HandS.Star
import HandS.More
import KE.GoesEnum
import HandS.OwnEq
import PyProof.AutoSeq1
import HandS.Head0
import HandS.Head1
import HandS.Head2
import HandS.HeadEnd
import HandS.HeadHook1
import HandS.HeadHook2
import HandS.HeadHook3
import HandS.Deep
import HandS.RevRange
import HandS.ExcOwn
import HandS.Small
import PyProof.ExcBaseAll.ValueError
import PyProof.FString2
import KE.KExcSuper
import HandS.ExcInit
import HandS.ExcField
import HandS.ExcIs
import KE.KExcIs
import HandS.SortRule
import HandS.ListItems
import HandS.SetKeys
import PyProof.TupleOfSeq
import HandS.SetBool
import PyProof.Rows.SortShellAny
import HandS.SetFor
import KE.SortData
import HandS.Iter
import HandS.DictComp
import KE.DataFind
import KE.LcSums
import HandS.Set
import HandS.CallLocal
import KE.KDictZip
import HandS.Text
import HandS.RaiseMore
import KE.GoesEnumKw
import KE.GoesZip
import PySem.Challenge.RW_classhouse_k11_known_houses
set_option Elab.async false
set_option linter.all false
set_option maxRecDepth 100000
/-! The small machine: values with tuples held by value, a store of the objects that change, and what a program's expressions and statements come to over these.
Each rule here says: where the small machine comes to an end, the program does so too, and alike. -/
namespace MI
open PySem PySem.Spec PyProof.Rows L2
inductive MV where
  | non | bl (b : Bool) | int (i : Int) | str (s : Str) | tup (l : List MV) | ref (n : Nat) | out (k : Nat)
inductive MO where
  | lst (l : List MV) | rol (l : List MV) | dic (kvs : List (Key × MV)) | ins (c : Str) (fs : List (Str × MV)) | tpo (l : List MV) | tpp (l : List MV) | dct (kvs : List (List Key × MV)) | fdt (kvs : List (List Key × MV)) | set (zs : List Int)
abbrev Store := List MO
def Kp : HO → Prop
  | .xd _ => True
  | .ext p => ∀ (w : World) (a : Addr) (S : Int → Bool) (n : Nat), HO.ext p ≠ SetO w a S n
  | _ => False
def KpT : HO → Prop
  | .xd _ => True
  | .tbl _ => True
  | .ext p => ∀ (w : World) (a : Addr) (S : Int → Bool) (n : Nat), HO.ext p ≠ SetO w a S n
  | _ => False
theorem Kp.t {o : HO} (h : Kp o) : KpT o := by
  cases o <;> first
    | exact h
    | trivial
    | exact False.elim h
structure Tb where
  inv : Hp → Prop
  keeps : ∀ H H' : Hp, inv H → (∀ b o, H b = some o → KpT o → H' b = some o) → inv H'
def Tb.no : Tb := ⟨fun _ => True, fun _ _ _ _ => trivial⟩
structure Dyn where
  i : Nat
  a : Addr
  ks : List (Addr × HO) := []
  ws : List MV := []
  vs : List V := []
structure Gx where
  K : PySem.W.Frag
  ct : Str → Option Addr
  outs : List Addr := []
  ow : Option World := none
  tb : Tb := Tb.no
  dyn : List Dyn := []
mutual
inductive RW (G : Gx) (ι : List Addr) (H : Hp) : MV → V → Prop
  | non : RW G ι H .non .non
  | bl (b : Bool) : RW G ι H (.bl b) (.bl b)
  | int (i : Int) : RW G ι H (.int i) (.int i)
  | str (s : Str) : RW G ι H (.str s) (.str s)
  | tup {a : Addr} {vs : List V} {l : List MV} : SqT G.K H a vs → RWs G ι H l vs → RW G ι H (.tup l) (.ref a)
  | ref {n : Nat} {a : Addr} : ι[n]? = some a → RW G ι H (.ref n) (.ref a)
  | out {k : Nat} {a : Addr} : G.outs[k]? = some a → RW G ι H (.out k) (.ref a)
inductive RWs (G : Gx) (ι : List Addr) (H : Hp) : List MV → List V → Prop
  | nil : RWs G ι H [] []
  | cons {w : MV} {v : V} {ws : List MV} {vs : List V} : RW G ι H w v → RWs G ι H ws vs → RWs G ι H (w :: ws) (v :: vs)
end
section
variable {G : Gx} {ι ι' : List Addr} {H H' : Hp}
mutual
theorem RW.mono (e : ∀ (n : Nat) (a : Addr), ι[n]? = some a → ι'[n]? = some a) (t : ∀ a xs, SqT G.K H a xs → SqT G.K H' a xs) : ∀ (w : MV) (v : V), RW G ι H w v → RW G ι' H' w v
  | .non, _, h => by cases h; exact .non
  | .bl b, _, h => by cases h; exact .bl b
  | .int i, _, h => by cases h; exact .int i
  | .str s, _, h => by cases h; exact .str s
  | .tup l, _, h => by
    cases h with
    | tup h1 h2 => exact .tup (t _ _ h1) (RWs.mono e t l _ h2)
  | .ref n, _, h => by
    cases h with
    | ref h1 => exact .ref (e _ _ h1)
  | .out k, _, h => by
    cases h with
    | out h1 => exact .out h1
theorem RWs.mono (e : ∀ (n : Nat) (a : Addr), ι[n]? = some a → ι'[n]? = some a) (t : ∀ a xs, SqT G.K H a xs → SqT G.K H' a xs) : ∀ (ws : List MV) (vs : List V), RWs G ι H ws vs → RWs G ι' H' ws vs
  | [], _, h => by cases h; exact .nil
  | w :: ws, _, h => by
    cases h with
    | cons h1 h2 => exact .cons (RW.mono e t w _ h1) (RWs.mono e t ws _ h2)
end
theorem RWs.length : ∀ {ws : List MV} {vs : List V}, RWs G ι H ws vs → ws.length = vs.length
  | [], _, h => by cases h; rfl
  | w :: ws, _, h => by
    cases h with
    | cons h1 h2 => rw [List.length_cons, List.length_cons, RWs.length h2]
theorem RWs.get : ∀ {ws : List MV} {vs : List V} {i : Nat} {w : MV}, RWs G ι H ws vs → ws[i]? = some w → ∃ v, vs[i]? = some v ∧ RW G ι H w v
  | [], _, _, _, h, e => by simp at e
  | a :: ws, _, i, w, h, e => by
    cases h with
    | cons h1 h2 =>
      cases i with
      | zero => simp at e; subst e; exact ⟨_, rfl, h1⟩
      | succ i =>
        obtain ⟨v, e1, r⟩ := RWs.get (i := i) h2 (by simpa using e)
        exact ⟨v, by simpa using e1, r⟩
theorem RWs.append : ∀ {ws us : List MV} {vs xs : List V}, RWs G ι H ws vs → RWs G ι H us xs → RWs G ι H (ws ++ us) (vs ++ xs)
  | [], _, _, _, h, k => by cases h; exact k
  | a :: ws, _, _, _, h, k => by
    cases h with
    | cons h1 h2 => exact .cons h1 (RWs.append h2 k)
theorem RWs.set {w : MV} {v : V} (r : RW G ι H w v) : ∀ {ws : List MV} {vs : List V} (i : Nat), RWs G ι H ws vs → RWs G ι H (ws.set i w) (vs.set i v)
  | [], _, _, h => by cases h; exact .nil
  | a :: ws, _, i, h => by
    cases h with
    | cons h1 h2 =>
      cases i with
      | zero => exact .cons r h2
      | succ i => exact .cons h1 (RWs.set r i h2)
theorem RWs.take : ∀ {ws : List MV} {vs : List V} (n : Nat), RWs G ι H ws vs → RWs G ι H (ws.take n) (vs.take n)
  | _, _, 0, _ => by simpa using RWs.nil
  | [], _, n + 1, h => by cases h; exact .nil
  | a :: ws, _, n + 1, h => by
    cases h with
    | cons h1 h2 => exact .cons h1 (RWs.take n h2)
theorem RWs.drop : ∀ {ws : List MV} {vs : List V} (n : Nat), RWs G ι H ws vs → RWs G ι H (ws.drop n) (vs.drop n)
  | _, _, 0, h => by simpa using h
  | [], _, n + 1, h => by cases h; exact .nil
  | a :: ws, _, n + 1, h => by
    cases h with
    | cons h1 h2 => exact RWs.drop n h2
end
/-! ### the store -/
def RO (G : Gx) (ι : List Addr) (H : Hp) (a : Addr) : MO → Prop
  | .lst l => ∃ vs, H a = some (.lst vs) ∧ RWs G ι H l vs
  | .rol l => ∃ o vs, H a = some (.frz o (.lst vs)) ∧ RWs G ι H l vs ∧ ∀ w ∈ l, ∃ i, w = .int i
  | .dic kvs => ∃ kv', H a = some (.dK kv') ∧ kv'.map (·.1) = kvs.map (·.1) ∧ RWs G ι H (kvs.map (·.2)) (kv'.map (·.2))
  | .ins c fs => ∃ C dx fs', G.ct c = some C ∧ H a = some (.ins C dx fs') ∧ fs'.map (·.1) = fs.map (·.1) ∧ RWs G ι H (fs.map (·.2)) (fs'.map (·.2))
  | .tpo l => ∃ o vs, H a = some (.frz o (.tup vs)) ∧ o.cls = .type "tuple" ∧ o.dict = none ∧ RWs G ι H l vs
  | .tpp l => ∃ vs, H a = some (.tup vs) ∧ RWs G ι H l vs
  | .dct kvs => ∃ kv', H a = some (.dT kv') ∧ kv'.map (·.1) = kvs.map (·.1) ∧ RWs G ι H (kvs.map (·.2)) (kv'.map (·.2))
  | .fdt kvs => ∃ o kv', H a = some (.frz o (.dT kv')) ∧ kv'.map (·.1) = kvs.map (·.1) ∧ RWs G ι H (kvs.map (·.2)) (kv'.map (·.2))
  | .set zs => ∃ w c, G.ow = some w ∧ c ≤ zs.length ∧ H a = some (SetO w a (fun j => decide (j ∈ zs)) c)
structure Sim (G : Gx) (ι : List Addr) (H : Hp) (S : Store) : Prop where
  len : ι.length = S.length
  nd : ι.Nodup
  obj : ∀ (n : Nat) (o : MO) (a : Addr), S[n]? = some o → ι[n]? = some a → RO G ι H a o
  inv : G.tb.inv H
structure Post (G : Gx) (ι : List Addr) (H : Hp) (ι' : List Addr) (H' : Hp) (S' : Store) : Prop where
  ext : ∀ (n : Nat) (a : Addr), ι[n]? = some a → ι'[n]? = some a
  tup : ∀ a xs, SqT G.K H a xs → SqT G.K H' a xs
  frz : ∀ a o u, H a = some (.frz o u) → H' a = some (.frz o u)
  kp : ∀ a o, H a = some o → Kp o → H' a = some o
  sim : Sim G ι' H' S'
section
variable {G : Gx} {ι ι1 ι' : List Addr} {H H1 H' : Hp} {S S1 S' : Store}
theorem Post.refl (s : Sim G ι H S) : Post G ι H ι H S := ⟨fun _ _ e => e, fun _ _ e => e, fun _ _ _ e => e, fun _ _ e _ => e, s⟩
theorem Post.trans (p : Post G ι H ι1 H1 S1) (q : Post G ι1 H1 ι' H' S') : Post G ι H ι' H' S' := ⟨fun n a e => q.ext n a (p.ext n a e), fun a xs e => q.tup a xs (p.tup a xs e), fun a o u e => q.frz a o u (p.frz a o u e), fun a o e k => q.kp a o (p.kp a o e k) k, q.sim⟩
theorem Post.rw (p : Post G ι H ι' H' S') {w : MV} {v : V} (r : RW G ι H w v) : RW G ι' H' w v := r.mono p.ext p.tup
theorem Post.rws (p : Post G ι H ι' H' S') {w : List MV} {v : List V} (r : RWs G ι H w v) : RWs G ι' H' w v := r.mono p.ext p.tup
theorem RO.here {a : Addr} {o : MO} (r : RO G ι H a o) : ∃ ho, H a = some ho := by
  cases o with
  | lst l => obtain ⟨vs, e, _⟩ := r; exact ⟨_, e⟩
  | rol l => obtain ⟨o, vs, e, _⟩ := r; exact ⟨_, e⟩
  | dic kvs => obtain ⟨kv', e, _⟩ := r; exact ⟨_, e⟩
  | ins c fs => obtain ⟨C, dx, fs', _, e, _⟩ := r; exact ⟨_, e⟩
  | tpo l => obtain ⟨o, vs, e, _⟩ := r; exact ⟨_, e⟩
  | tpp l => obtain ⟨vs, e, _⟩ := r; exact ⟨_, e⟩
  | dct kvs => obtain ⟨kv', e, _⟩ := r; exact ⟨_, e⟩
  | fdt kvs => obtain ⟨o, kv', e, _⟩ := r; exact ⟨_, e⟩
  | set zs => obtain ⟨w, c, _, _, e⟩ := r; exact ⟨_, e⟩
theorem RO.mono {a : Addr} {o : MO} (e : ∀ (n : Nat) (a : Addr), ι[n]? = some a → ι'[n]? = some a) (t : ∀ a xs, SqT G.K H a xs → SqT G.K H' a xs) (k : H' a = H a) (r : RO G ι H a o) : RO G ι' H' a o := by
  cases o with
  | lst l => obtain ⟨vs, h, q⟩ := r; exact ⟨vs, k.trans h, q.mono e t⟩
  | rol l => obtain ⟨o, vs, h, q, ii⟩ := r; exact ⟨o, vs, k.trans h, q.mono e t, ii⟩
  | dic kvs => obtain ⟨kv', h, z, q⟩ := r; exact ⟨kv', k.trans h, z, q.mono e t⟩
  | ins c fs => obtain ⟨C, dx, fs', hc, h, z, q⟩ := r; exact ⟨C, dx, fs', hc, k.trans h, z, q.mono e t⟩
  | tpo l => obtain ⟨o, vs, h, c, d, q⟩ := r; exact ⟨o, vs, k.trans h, c, d, q.mono e t⟩
  | tpp l => obtain ⟨vs, h, q⟩ := r; exact ⟨vs, k.trans h, q.mono e t⟩
  | dct kvs => obtain ⟨kv', h, z, q⟩ := r; exact ⟨kv', k.trans h, z, q.mono e t⟩
  | fdt kvs => obtain ⟨o, kv', h, z, q⟩ := r; exact ⟨o, kv', k.trans h, z, q.mono e t⟩
  | set zs => obtain ⟨w, c, g, l, h⟩ := r; exact ⟨w, c, g, l, k.trans h⟩
theorem Sim.at (s : Sim G ι H S) {n : Nat} {o : MO} (h : S[n]? = some o) : ∃ a, ι[n]? = some a ∧ RO G ι H a o := by
  have hn : n < ι.length := by rw [s.len]; exact (List.getElem?_eq_some_iff.mp h).1
  exact ⟨ι[n], by simp [hn], s.obj n o _ h (by simp [hn])⟩
theorem Sim.there (s : Sim G ι H S) {n : Nat} {a : Addr} (h : ι[n]? = some a) : ∃ ho, H a = some ho := by
  have hn : n < S.length := by rw [← s.len]; exact (List.getElem?_eq_some_iff.mp h).1
  exact (s.obj n S[n] a (by simp [hn]) h).here
theorem sqT_upd {K : PySem.W.Frag} {p : Addr} {ho : HO} (h : ∀ xs, ¬ Rd H p (.tup xs)) (a : Addr) (xs : List V) (q : SqT K H a xs) : SqT K (upd H p ho) a xs := by
  rcases q with q | q
  · have ne : a ≠ p := fun e => h xs (e ▸ q)
    left
    rcases q with q | ⟨o, q⟩
    · exact .inl (by rw [upd_ne ne]; exact q)
    · exact .inr ⟨o, by rw [upd_ne ne]; exact q⟩
  · exact .inr q
theorem noTup_none {p : Addr} (h : H p = none) (xs : List V) : ¬ Rd H p (.tup xs) := fun q => by
  rcases q with q | ⟨o, q⟩ <;> (rw [h] at q; cases q)
theorem noTup_of {p : Addr} {ho : HO} (h : H p = some ho) (n1 : ∀ ys, ho ≠ .tup ys) (n2 : ∀ o ys, ho ≠ .frz o (.tup ys)) (xs : List V) : ¬ Rd H p (.tup xs) := fun q => by
  rcases q with q | ⟨o, q⟩ <;> (rw [h] at q; cases q)
  · exact n1 _ rfl
  · exact n2 _ _ rfl
theorem Sim.lay (s : Sim G ι H S) {p : Addr} (h : H p = none) (ho : HO) : Post G ι H ι (upd H p ho) S := by
  have t := sqT_upd (K := G.K) (ho := ho) (noTup_none h)
  have kk : ∀ b o, H b = some o → upd H p ho b = some o := fun b o e => by rw [upd_ne (ne_of_none e h)]; exact e
  refine ⟨fun _ _ e => e, t, fun a o u e => kk _ _ e, fun a o e _ => kk _ _ e, s.len, s.nd, fun n o a hn ha => ?_, G.tb.keeps _ _ s.inv fun b o e _ => kk _ _ e⟩
  have r := s.obj n o a hn ha
  obtain ⟨hb, e⟩ := r.here
  exact r.mono (fun _ _ e => e) t (upd_ne (ne_of_none e h))
theorem Sim.new (s : Sim G ι H S) {p : Addr} (h : H p = none) {ho : HO} {mo : MO} (r : RO G (ι ++ [p]) (upd H p ho) p mo) : Post G ι H (ι ++ [p]) (upd H p ho) (S ++ [mo]) := by
  have t := sqT_upd (K := G.K) (ho := ho) (noTup_none h)
  have ext : ∀ (n : Nat) (a : Addr), ι[n]? = some a → (ι ++ [p])[n]? = some a := fun n a e => by
    have hn := (List.getElem?_eq_some_iff.mp e).1
    rw [List.getElem?_append_left hn]; exact e
  have kk : ∀ b o, H b = some o → upd H p ho b = some o := fun b o e => by rw [upd_ne (ne_of_none e h)]; exact e
  refine ⟨ext, t, fun a o u e => kk _ _ e, fun a o e _ => kk _ _ e, by simp [s.len], ?_, fun n o a hn ha => ?_, G.tb.keeps _ _ s.inv fun b o e _ => kk _ _ e⟩
  · refine List.nodup_append.mpr ⟨s.nd, by simp, fun a ha b hb e => ?_⟩
    have hb' : b = p := by simpa using hb
    subst hb'
    subst e
    obtain ⟨n, hn⟩ := List.getElem?_of_mem ha
    obtain ⟨ho', e⟩ := s.there hn
    rw [h] at e; cases e
  · by_cases hl : n < S.length
    · rw [List.getElem?_append_left hl] at hn
      rw [List.getElem?_append_left (by rw [s.len]; exact hl)] at ha
      have q := s.obj n o a hn ha
      obtain ⟨hb, e⟩ := q.here
      exact q.mono ext t (upd_ne (ne_of_none e h))
    · have hn' : n = S.length := by
        have := (List.getElem?_eq_some_iff.mp hn).1
        simp at this; omega
      subst hn'
      rw [List.getElem?_append_right (Nat.le_refl _)] at hn
      rw [List.getElem?_append_right (by rw [s.len]; exact Nat.le_refl _)] at ha
      simp [s.len] at hn ha
      subst hn
      subst ha
      exact r
theorem Sim.write (s : Sim G ι H S) {n : Nat} {p : Addr} {ho ho' : HO} {mo : MO} (hi : ι[n]? = some p) (h : H p = some ho) (n1 : ∀ ys, ho ≠ .tup ys) (n2 : ∀ o u, ho ≠ .frz o u)
    (r : RO G ι (upd H p ho') p mo) (n3 : ¬ KpT ho := by intro h; exact h) : Post G ι H ι (upd H p ho') (S.set n mo) := by
  have t := sqT_upd (K := G.K) (ho := ho') (noTup_of h n1 fun o ys => n2 o (.tup ys))
  refine ⟨fun _ _ e => e, t, fun a o u e => by rw [upd_ne fun z => by rw [z, h] at e; cases e; exact n2 _ _ rfl]; exact e, fun a o e k => by rw [upd_ne fun z => by rw [z, h] at e; cases e; exact n3 k.t]; exact e, by simp [s.len], s.nd, fun m o a hm ha => ?_,
    G.tb.keeps _ _ s.inv fun b o e k => by rw [upd_ne fun z => by rw [z, h] at e; cases e; exact n3 k]; exact e⟩
  by_cases e : n = m
  · subst e
    have hl : n < S.length := by
      have := (List.getElem?_eq_some_iff.mp hm).1
      simpa using this
    rw [List.getElem?_set_self hl] at hm
    cases hm
    rw [hi] at ha
    cases ha
    exact r
  · rw [List.getElem?_set_ne e] at hm
    have q := s.obj m o a hm ha
    refine q.mono (fun _ _ e => e) t (upd_ne fun z => e ?_)
    subst z
    obtain ⟨h1, e1⟩ := List.getElem?_eq_some_iff.mp hi
    obtain ⟨h2, e2⟩ := List.getElem?_eq_some_iff.mp ha
    exact (List.getElem_inj s.nd).mp (e1.trans e2.symm)
end
/-! ### a frame's names -/
abbrev Env' := List (Option MV)
structure RE (G : Gx) (ι : List Addr) (H : Hp) (ρ : Env') (σ : L2.St) : Prop where
  len : ρ.length = σ.length
  get : ∀ (i : Nat) (w : MV), ρ[i]? = some (some w) → ∃ v, σ[i]? = some (some v) ∧ RW G ι H w v
  dy : ∀ y ∈ G.dyn, ρ[y.i]? = some none → σ[y.i]? = some (some (.ref y.a)) ∧ (∀ p ∈ y.ks, Kp p.2 ∧ H p.1 = some p.2) ∧ RWs G ι H y.ws y.vs
section
variable {G : Gx} {ι ι1 ι' : List Addr} {H H1 H' : Hp} {S S1 S' : Store} {ρ : Env'} {σ : L2.St}
theorem Post.re (p : Post G ι H ι' H' S') (r : RE G ι H ρ σ) : RE G ι' H' ρ σ := ⟨r.len, fun i w e => let ⟨v, h, q⟩ := r.get i w e; ⟨v, h, p.rw q⟩, fun y hy e => let ⟨h1, h2, h3⟩ := r.dy y hy e; ⟨h1, fun u hu => ⟨(h2 u hu).1, p.kp _ _ (h2 u hu).2 (h2 u hu).1⟩, p.rws h3⟩⟩
theorem RE.set (r : RE G ι H ρ σ) {w : MV} {v : V} (q : RW G ι H w v) (i : Nat) : RE G ι H (ρ.set i (some w)) (σ.set i (some v)) := by
  refine ⟨by simp [r.len], fun j u e => ?_, fun y hy e => ?_⟩
  rotate_left
  · by_cases z : i = y.i
    · have hl : i < ρ.length := by
        have := (List.getElem?_eq_some_iff.mp e).1
        rw [List.length_set] at this
        rw [z]; exact this
      rw [← z, List.getElem?_set_self hl] at e
      cases e
    · rw [List.getElem?_set_ne z] at e ⊢
      exact r.dy y hy e
  by_cases z : i = j
  · subst z
    have hl : i < ρ.length := by
      have := (List.getElem?_eq_some_iff.mp e).1
      simpa using this
    rw [List.getElem?_set_self hl] at e
    cases e
    exact ⟨v, by rw [List.getElem?_set_self (by rw [← r.len]; exact hl)], q⟩
  · rw [List.getElem?_set_ne z] at e
    obtain ⟨v', h, q'⟩ := r.get j u e
    exact ⟨v', by rw [List.getElem?_set_ne z]; exact h, q'⟩
end
/-! ### what comes out -/
inductive Res (α : Type) where
  | ok (a : α) (S : Store)
  | err (c : Str) (fs : List (Str × MV)) (S : Store)
  | stuck
def Res.bind {α β : Type} (r : Res α) (f : α → Store → Res β) : Res β :=
  match r with
  | .ok a S => f a S
  | .err c fs S => .err c fs S
  | .stuck => .stuck
abbrev Den := Env' → Store → Res MV
abbrev DenL := Env' → Store → Res (List MV)
def RX (G : Gx) (ι : List Addr) (H : Hp) (c : Str) (fs : List (Str × MV)) (cls : Value) (d : Option Addr) : Prop :=
  ∃ C, G.ct c = some C ∧ cls = .ref C ∧ ((fs = [] ∧ d = none) ∨ ∃ a fs', d = some a ∧ H a = some (.xd fs') ∧ fs'.map (·.1) = fs.map (·.1) ∧ RWs G ι H (fs.map (·.2)) (fs'.map (·.2)))
def fin {α : Type} (G : Gx) (ι : List Addr) (H : Hp) (E : Value → Option Addr → Hp → Prop) (P : α → List Addr → Hp → Prop) : Res α → Prop
  | .ok a S' => ∀ ι' H', Post G ι H ι' H' S' → P a ι' H'
  | .err c fs S' => ∀ ι' H' cls d, Post G ι H ι' H' S' → RX G ι' H' c fs cls d → E cls d H'
  | .stuck => False
section
variable {α β : Type} {G : Gx} {ι ι1 ι' : List Addr} {H H1 H' : Hp} {S S1 S' : Store} {E : Value → Option Addr → Hp → Prop} {P P' : α → List Addr → Hp → Prop}
theorem fin.mono {r : Res α} (h : fin G ι H E P r) (k : ∀ a ι' H' S', Post G ι H ι' H' S' → r = .ok a S' → P a ι' H' → P' a ι' H') : fin G ι H E P' r := by
  cases r with
  | ok a S' => exact fun ι' H' p => k a ι' H' S' p rfl (h ι' H' p)
  | err c fs S' => exact h
  | stuck => exact h
theorem fin.later {r : Res α} (p : Post G ι H ι1 H1 S1) (h : fin G ι H E P r) : fin G ι1 H1 E P r := by
  cases r with
  | ok a S' => exact fun ι' H' q => h ι' H' (p.trans q)
  | err c fs S' => exact fun ι' H' cls d q => h ι' H' cls d (p.trans q)
  | stuck => exact h
theorem fin.bind {P : β → List Addr → Hp → Prop} {r : Res α} {f : α → Store → Res β} (h : fin G ι H E P (r.bind f)) : fin G ι H E (fun a ι1 H1 => ∃ S1, Sim G ι1 H1 S1 ∧ (∀ w v, RW G ι H w v → RW G ι1 H1 w v) ∧ (∀ ρ σ, RE G ι H ρ σ → RE G ι1 H1 ρ σ) ∧ r = .ok a S1 ∧ fin G ι1 H1 E P (f a S1)) r := by
  cases r with
  | ok a S' => exact fun ι' H' p => ⟨S', p.sim, fun w v q => p.rw q, fun ρ σ q => p.re q, rfl, fin.later p h⟩
  | err c fs S' => exact h
  | stuck => exact h
end
/-! ### readings made of it -/
abbrev PV (G : Gx) (Q : VK) : MV → List Addr → Hp → Prop := fun w ι' H' => ∀ v, RW G ι' H' w v → Q v H'
abbrev PVs (G : Gx) (Q : List V → Hp → Prop) : List MV → List Addr → Hp → Prop := fun ws ι' H' => ∀ vs, RWs G ι' H' ws vs → Q vs H'
def tD (G : Gx) (W : WX) (d : Den) : TE := fun σ H Q => ∃ ι S ρ, Sim G ι H S ∧ RE G ι H ρ σ ∧ fin G ι H (fun c x H' => W c x σ H') (PV G Q) (d ρ S)
def tDs (G : Gx) (W : WX) (d : DenL) : TA := fun σ H Q => ∃ ι S ρ, Sim G ι H S ∧ RE G ι H ρ σ ∧ fin G ι H (fun c x H' => W c x σ H') (PVs G Q) (d ρ S)
theorem PE.imp {X : Cx} {e : Expr} {t t' : TE} (h : PE X e t) (k : ∀ σ H Q, t' σ H Q → t σ H Q) : PE X e t' := ⟨fun pins s σ H Q I q => h.run pins s σ H Q I (k σ H Q q)⟩
theorem PT.imp {X : Cx} {e : Expr} {t t' : TT} (h : PT X e t) (k : ∀ σ H Q, t' σ H Q → t σ H Q) : PT X e t' := ⟨fun pins s σ H Q I q => h.run pins s σ H Q I (k σ H Q q)⟩
theorem PA.imp {X : Cx} {e : List Expr} {t t' : TA} (h : PA X e t) (k : ∀ σ H Q, t' σ H Q → t σ H Q) : PA X e t' := ⟨fun pos pins s σ H Q I q => h.run pos pins s σ H Q I (k σ H Q q)⟩
theorem PS.imp {X : Cx} {e : Stmt} {t t' : TS} (h : PS X e t) (k : ∀ D σ H, t' D σ H → t D σ H) : PS X e t' := ⟨fun pins s σ H D I q => h.run pins s σ H D I (k D σ H q)⟩
theorem PSs.imp {X : Cx} {e : List Stmt} {t t' : TS} (h : PSs X e t) (k : ∀ D σ H, t' D σ H → t D σ H) : PSs X e t' := ⟨fun pins s σ H D I q => h.run pins s σ H D I (k D σ H q)⟩
structure DE (X : Cx) (G : Gx) (W : WX) (e : Expr) (d : Den) : Prop where
  run : PE X e (tD G W d)
structure DA (X : Cx) (G : Gx) (W : WX) (es : List Expr) (d : DenL) : Prop where
  run : PA X es (tDs G W d)
end MI
set_option Elab.async false
set_option linter.all false
set_option maxRecDepth 100000
namespace MI
open PySem PySem.Spec PyProof.Rows L2
theorem big_ok {n : Nat} (h : n ≤ 100000) : n ≤ sizeLine := Nat.le_trans h (by rw [sizeLine_eq]; decide)
section
variable {X : Cx} {G : Gx} {W : WX} {e a b c : Expr} {pos : Pos} {d da db dc : Den}
/-! ### names, constants -/
def dVar (i : Nat) : Den := fun ρ S => match ρ[i]? with
  | some (some w) => .ok w S
  | _ => .stuck
theorem de_var (i : Nat) {x : Str} (hN : X.N[i]? = some x := by rfl) (hv : Vis X.env.scope x := by first | exact Or.inl rfl | exact Or.inr (Or.inl rfl) | exact Or.inr (Or.inr rfl)) (hd : (x == ("__debug__" : Str)) = false := by decide)
    (hcd : (x == ("__classdict__" : Str)) = false := by decide) : DE X G W (.Name x pos) (dVar i) := by
  refine ⟨PE.imp (pe_var hN hv hd hcd) fun σ H Q h => ?_⟩
  obtain ⟨ι, S, ρ, s, re, h⟩ := h
  unfold dVar at h
  split at h
  · rename_i w e1
    obtain ⟨v, e2, r⟩ := re.get i w e1
    exact ⟨v, e2, h ι H (.refl s) v r⟩
  · exact h.elim
def dC (w : MV) : Den := fun _ S => .ok w S
def KC (G : Gx) (w : MV) (v : V) : Prop := ∀ ι H, RW G ι H w v
theorem de_const {w : MV} {v : V} (h : PE X e (tC v)) (k : KC G w v) : DE X G W e (dC w) := by
  refine ⟨PE.imp h fun σ H Q h => ?_⟩
  obtain ⟨ι, S, ρ, s, re, h⟩ := h
  exact h ι H (.refl s) v (k ι H)
theorem de_int {i : Int} {j} : DE X G W (.Constant (.int i) j pos) (dC (.int i)) := de_const pe_int fun _ _ => .int i
theorem de_bl {i : Bool} {j} : DE X G W (.Constant (.bool i) j pos) (dC (.bl i)) := de_const pe_bl fun _ _ => .bl i
theorem de_non {j} : DE X G W (.Constant .none j pos) (dC .non) := de_const pe_non fun _ _ => .non
theorem de_str {i : Str} {j} : DE X G W (.Constant (.str i) j pos) (dC (.str i)) := de_const pe_str fun _ _ => .str i
theorem de_glob {x : Str} {w : MV} {v : V} {u : Value} (hg : Gl X x) (hm : X.mg x = some u) (r : RelV v u) (k : KC G w v) (hd : (x == ("__debug__" : Str)) = false := by decide) : DE X G W (.Name x pos) (dC w) := de_const (pe_glob hg hm r hd) k
/-! ### operators of two and of one -/
def dBin (f : MV → MV → Store → Res MV) (a b : Den) : Den := fun ρ S => (a ρ S).bind fun x S1 => (b ρ S1).bind fun y S2 => f x y S2
def dUn (f : MV → Store → Res MV) (a : Den) : Den := fun ρ S => (a ρ S).bind fun x S1 => f x S1
def OpW (G : Gx) (f : MV → MV → Store → Res MV) (r : R2) : Prop := ∀ (ι : List Addr) (H : Hp) (S : Store) (E : Value → Option Addr → Hp → Prop) (Q : VK) (w1 w2 : MV) (v1 v2 : V), Sim G ι H S → RW G ι H w1 v1 → RW G ι H w2 v2 → fin G ι H E (PV G Q) (f w1 w2 S) → r v1 v2 H Q
def UnW (G : Gx) (f : MV → Store → Res MV) (r : V → Hp → VK → Prop) : Prop := ∀ (ι : List Addr) (H : Hp) (S : Store) (E : Value → Option Addr → Hp → Prop) (Q : VK) (w1 : MV) (v1 : V), Sim G ι H S → RW G ι H w1 v1 → fin G ι H E (PV G Q) (f w1 S) → r v1 H Q
theorem bin_imp {f : MV → MV → Store → Res MV} {r : R2} (ho : OpW G f r) {σ : L2.St} {H : Hp} {Q : VK} (h : tD G W (dBin f da db) σ H Q) : tOp r (tD G W da) (tD G W db) σ H Q := by
  obtain ⟨ι, S, ρ, s, re, h⟩ := h
  refine ⟨ι, S, ρ, s, re, (fin.bind h).mono fun w1 ι1 H1 S1 p _ h1 v1 r1 => ?_⟩
  obtain ⟨S1, s1, m1, n1, _, h1⟩ := h1
  refine ⟨ι1, S1, ρ, s1, n1 _ _ re, (fin.bind h1).mono fun w2 ι2 H2 S2 p2 _ h2 v2 r2 => ?_⟩
  obtain ⟨S2, s2, m2, _, _, h2⟩ := h2
  exact ho ι2 H2 S2 _ Q w1 w2 v1 v2 s2 (m2 _ _ r1) r2 h2
theorem un_imp {f : MV → Store → Res MV} {r : V → Hp → VK → Prop} (ho : UnW G f r) {σ : L2.St} {H : Hp} {Q : VK} (h : tD G W (dUn f da) σ H Q) : tUn r (tD G W da) σ H Q := by
  obtain ⟨ι, S, ρ, s, re, h⟩ := h
  refine ⟨ι, S, ρ, s, re, (fin.bind h).mono fun w1 ι1 H1 S1 p _ h1 v1 r1 => ?_⟩
  obtain ⟨S1, s1, m1, n1, _, h1⟩ := h1
  exact ho ι1 H1 S1 _ Q w1 v1 s1 r1 h1
theorem de_op {op : Operator} {f : MV → MV → Store → Res MV} {r : R2} (ho : OpR X (binaryOp op) r) (hw : OpW G f r) (ha : DE X G W a da) (hb : DE X G W b db) : DE X G W (.BinOp a op b pos) (dBin f da db) :=
  ⟨PE.imp (pe_op ho ha.run hb.run) fun _ _ _ h => bin_imp hw h⟩
theorem de_cmp {op : CmpOp} {f : MV → MV → Store → Res MV} {r : R2} (ho : OpR X (compareOp op) r) (hw : OpW G f r) (ha : DE X G W a da) (hb : DE X G W b db) (hm : behindInMarks op b = false) : DE X G W (.Compare a [op] [b] pos) (dBin f da db) :=
  ⟨PE.imp (pe_cmpR ho ha.run hb.run hm) fun _ _ _ h => bin_imp hw h⟩
theorem de_un {op : UnaryOp} {f : MV → Store → Res MV} {r : V → Hp → VK → Prop} (ho : UnR X (unaryOp op) r) (hw : UnW G f r) (ha : DE X G W a da) : DE X G W (.UnaryOp op a pos) (dUn f da) :=
  ⟨PE.imp (pe_un ho ha.run) fun _ _ _ h => un_imp hw h⟩
theorem OpW.or {f : MV → MV → Store → Res MV} {r r' : R2} (h : OpW G f (fun x y H Q => r x y H Q ∨ r' x y H Q)) : OpW G f (fun x y H Q => r x y H Q ∨ r' x y H Q) := h
/-! ### allocation, as what comes out -/
theorem new_tup {ι : List Addr} {H : Hp} {S : Store} {l : List MV} {vs : List V} {Q : VK} {E : Value → Option Addr → Hp → Prop} (s : Sim G ι H S) (r : RWs G ι H l vs) (h : fin G ι H E (PV G Q) (.ok (.tup l) S)) : ∀ p, H p = none → Q (.ref p) (upd H p (.tup vs)) := fun p hp => by
  have q := s.lay hp (.tup vs)
  exact h ι _ q (.ref p) (.tup (.of upd_same) (q.rws r))
theorem new_lst {ι : List Addr} {H : Hp} {S : Store} {l : List MV} {vs : List V} {Q : VK} {E : Value → Option Addr → Hp → Prop} (s : Sim G ι H S) (r : RWs G ι H l vs) (h : fin G ι H E (PV G Q) (.ok (.ref S.length) (S ++ [.lst l]))) : ∀ p, H p = none → Q (.ref p) (upd H p (.lst vs)) := fun p hp => by
  have q0 := s.lay hp (.lst vs)
  have ext : ∀ (n : Nat) (a : Addr), ι[n]? = some a → (ι ++ [p])[n]? = some a := fun n a e => by
    rw [List.getElem?_append_left (List.getElem?_eq_some_iff.mp e).1]; exact e
  have q := s.new hp (ho := .lst vs) (mo := .lst l) ⟨vs, upd_same, r.mono ext q0.tup⟩
  exact h _ _ q (.ref p) (.ref (by rw [← s.len]; simp))
/-! ### + -/
def fAdd (w1 w2 : MV) (S : Store) : Res MV := match w1, w2 with
  | .int i, .int j => .ok (.int (i + j)) S
  | .str x, .str y => if x.length + y.length ≤ 100000 then .ok (.str (x ++ y)) S else .stuck
  | .tup x, .tup y => if x.length + y.length ≤ 100000 then .ok (.tup (x ++ y)) S else .stuck
  | .ref n, .ref m => match S[n]?, S[m]? with
    | some (.lst x), some (.lst y) => if x.length + y.length ≤ 100000 then .ok (.ref S.length) (S ++ [.lst (x ++ y)]) else .stuck
    | _, _ => .stuck
  | _, _ => .stuck
abbrev rAddS : R2 := fun x y H Q => ∃ i j, x = .str i ∧ y = .str j ∧ i.length + j.length ≤ sizeLine ∧ Q (.str (i ++ j)) H
abbrev rAddAll (K : PySem.W.Frag) : R2 := fun x y H Q => (rI0 (fun i j => V.int (i + j)) x y H Q) ∨ (rAddS x y H Q ∨ (rCatA K x y H Q ∨ rCat x y H Q))
theorem op_addAll : OpR X (binaryOp .Add) (rAddAll X.K) := op_add.or (op_add_str.or (op_catA.or op_cat))
theorem w_add : OpW G fAdd (rAddAll G.K) := fun ι H S E Q w1 w2 v1 v2 s r1 r2 h => by
  unfold fAdd at h
  split at h
  · cases r1; cases r2
    exact .inl ⟨_, _, rfl, rfl, h ι H (.refl s) _ (.int _)⟩
  · cases r1; cases r2
    split at h
    · rename_i hz
      exact .inr (.inl ⟨_, _, rfl, rfl, big_ok hz, h ι H (.refl s) _ (.str _)⟩)
    · exact h.elim
  · cases r1 with
    | tup t1 q1 => cases r2 with
      | tup t2 q2 =>
        split at h
        · rename_i hz
          refine .inr (.inr (.inl ⟨_, _, _, _, rfl, rfl, t1, t2, ?_, fun e => ?_, fun e e2 => ?_, fun _ _ => ?_⟩))
          · rw [← q1.length, ← q2.length]; exact big_ok hz
          · subst e
            cases q1
            exact h ι H (.refl s) _ (.tup t2 (by simpa using q2))
          · subst e2
            cases q2
            exact h ι H (.refl s) _ (.tup t1 (by simpa using q1))
          · exact new_tup s (q1.append q2) h
        · exact h.elim
  · cases r1 with
    | ref t1 => cases r2 with
      | ref t2 =>
        split at h
        · rename_i e1 e2
          split at h
          · rename_i hz
            obtain ⟨vs1, g1, q1⟩ := s.obj _ _ _ e1 t1
            obtain ⟨vs2, g2, q2⟩ := s.obj _ _ _ e2 t2
            exact .inr (.inr (.inr ⟨_, _, _, _, rfl, rfl, g1, g2, by rw [← q1.length, ← q2.length]; exact big_ok hz, new_lst s (q1.append q2) h⟩))
          · exact h.elim
        · exact h.elim
  · exact h.elim
theorem de_add (hK : X.K = G.K) (ha : DE X G W a da) (hb : DE X G W b db) : DE X G W (.BinOp a .Add b pos) (dBin fAdd da db) := de_op (by rw [← hK]; exact op_addAll) w_add ha hb
/-! ### the other operators of ints -/
def fInt (C : Int → Int → Bool) (g : Int → Int → MV) (w1 w2 : MV) (S : Store) : Res MV := match w1, w2 with
  | .int i, .int j => if C i j then .ok (g i j) S else .stuck
  | _, _ => .stuck
theorem w_int {C : Int → Int → Bool} {P : Int → Int → Prop} {g : Int → Int → MV} {gv : Int → Int → V} (hC : ∀ i j, C i j = true → P i j) (hg : ∀ i j, KC G (g i j) (gv i j)) : OpW G (fInt C g) (rI P gv) := fun ι H S E Q w1 w2 v1 v2 s r1 r2 h => by
  unfold fInt at h
  split at h
  · split at h
    · rename_i c
      cases r1; cases r2
      exact ⟨_, _, rfl, rfl, hC _ _ c, h ι H (.refl s) _ (hg _ _ ι H)⟩
    · exact h.elim
  · exact h.elim
theorem w_int0 {g : Int → Int → MV} {gv : Int → Int → V} (hg : ∀ i j, KC G (g i j) (gv i j)) : OpW G (fInt (fun _ _ => true) g) (rI0 gv) := fun ι H S E Q w1 w2 v1 v2 s r1 r2 h => by
  unfold fInt at h
  split at h
  · cases r1; cases r2
    exact ⟨_, _, rfl, rfl, h ι H (.refl s) _ (hg _ _ ι H)⟩
  · exact h.elim
theorem kc_int (g : Int → Int → Int) : ∀ i j, KC G (.int (g i j)) (.int (g i j)) := fun _ _ _ _ => .int _
theorem kc_bl (g : Int → Int → Bool) : ∀ i j, KC G (.bl (g i j)) (.bl (g i j)) := fun _ _ _ _ => .bl _
abbrev fSub := fInt (fun _ _ => true) (fun i j => .int (i - j))
theorem de_sub (ha : DE X G W a da) (hb : DE X G W b db) : DE X G W (.BinOp a .Sub b pos) (dBin fSub da db) := de_op op_sub (w_int0 (kc_int fun i j => i - j)) ha hb
abbrev fMod := fInt (fun _ j => decide (0 < j)) (fun i j => .int (i % j))
theorem de_mod (ha : DE X G W a da) (hb : DE X G W b db) : DE X G W (.BinOp a .Mod b pos) (dBin fMod da db) := de_op op_mod (w_int (fun _ _ h => of_decide_eq_true h) (kc_int fun i j => i % j)) ha hb
abbrev fDiv := fInt (fun _ j => decide (0 < j) && decide (j < 1073741824)) (fun i j => .int (i / j))
theorem de_div (ha : DE X G W a da) (hb : DE X G W b db) : DE X G W (.BinOp a .FloorDiv b pos) (dBin fDiv da db) := de_op op_fdiv (w_int (fun i j h => by
  rw [Bool.and_eq_true] at h
  exact ⟨of_decide_eq_true h.1, of_decide_eq_true h.2⟩) (kc_int fun i j => i / j)) ha hb
abbrev fPow := fInt (fun i j => decide (0 ≤ j) && (decide (j ≤ 1000) && decide (i.natAbs < 2 ^ 64))) (fun i j => .int (i ^ j.toNat))
theorem de_pow (ha : DE X G W a da) (hb : DE X G W b db) : DE X G W (.BinOp a .Pow b pos) (dBin fPow da db) := de_op op_pow (w_int (fun i j h => by
  rw [Bool.and_eq_true, Bool.and_eq_true] at h
  have h2 := of_decide_eq_true h.2.1
  exact ⟨of_decide_eq_true h.1, by omega, of_decide_eq_true h.2.2⟩) (kc_int fun i j => i ^ j.toNat)) ha hb
def fMul (w1 w2 : MV) (S : Store) : Res MV := match w1, w2 with
  | .int i, .int j => if (decide (-(2 ^ 64) < i) && decide (i < 2 ^ 64)) || (decide (-(2 ^ 64) < j) && decide (j < 2 ^ 64)) then .ok (.int (i * j)) S else .stuck
  | .tup x, .int k => if decide (x ≠ []) && (decide (2 ≤ k) && (decide (k ≤ 1000) && decide (x.length ≤ 1000))) then .ok (.tup (List.replicate k.toNat x).flatten) S else .stuck
  | .ref n, .int k => match S[n]? with
    | some (.lst x) => if decide (0 ≤ k) && (decide (k ≤ 100) && decide (x.length ≤ 1000)) then .ok (.ref S.length) (S ++ [.lst (List.replicate k.toNat x).flatten]) else .stuck
    | _ => .stuck
  | _, _ => .stuck
end
end MI
set_option Elab.async false
set_option linter.all false
set_option maxRecDepth 100000
namespace MI
open PySem PySem.Spec PyProof.Rows L2
/-! ### values as data -/
mutual
def toPyW (f : Nat → Option PyData) : MV → Option PyData
  | .non => some .none
  | .bl b => some (.bool b)
  | .int i => some (.int i)
  | .str s => some (.str s)
  | .tup l => (toPyWs f l).map .tuple
  | .ref n => f n
  | .out _ => none
def toPyWs (f : Nat → Option PyData) : List MV → Option (List PyData)
  | [] => some []
  | w :: ws => (toPyW f w).bind fun d => (toPyWs f ws).map (d :: ·)
end
def toPyR (S : Store) : Nat → Nat → Option PyData
  | 0, _ => none
  | k + 1, n => match S[n]? with
    | some (.lst l) => (toPyWs (toPyR S k) l).map .list
    | some (.rol l) => (toPyWs (toPyR S k) l).map .list
    | _ => none
abbrev toPy (S : Store) (w : MV) : Option PyData := toPyW (toPyR S 6) w
section
variable {G : Gx} {ι : List Addr} {H : Hp} {S : Store}
mutual
theorem dp_w {f : Nat → Option PyData} (hf : ∀ (n : Nat) (d : PyData) (a : Addr), f n = some d → ι[n]? = some a → Dp G.K H (.ref a) d) : ∀ (w : MV) (v : V) (d : PyData), RW G ι H w v → toPyW f w = some d → Dp G.K H v d
  | .non, _, _, r, e => by cases r; simp [toPyW] at e; subst e; exact .non
  | .bl b, _, _, r, e => by cases r; simp [toPyW] at e; subst e; exact .bl b
  | .int i, _, _, r, e => by cases r; simp [toPyW] at e; subst e; exact .int i
  | .str s, _, _, r, e => by cases r; simp [toPyW] at e; subst e; exact .str s
  | .tup l, _, d, r, e => by
    cases r with
    | tup t q =>
      unfold toPyW at e
      cases e2 : toPyWs f l with
      | none => rw [e2] at e; cases e
      | some ds =>
        rw [e2] at e
        cases e
        exact .tup t (dp_ws hf l _ ds q e2)
  | .ref n, _, d, r, e => by
    cases r with
    | ref i =>
      unfold toPyW at e
      exact hf n d _ e i
  | .out k, _, _, _, e => by simp [toPyW] at e
theorem dp_ws {f : Nat → Option PyData} (hf : ∀ (n : Nat) (d : PyData) (a : Addr), f n = some d → ι[n]? = some a → Dp G.K H (.ref a) d) : ∀ (ws : List MV) (vs : List V) (ds : List PyData), RWs G ι H ws vs → toPyWs f ws = some ds → DpAll G.K H vs ds
  | [], _, _, r, e => by cases r; simp [toPyWs] at e; subst e; exact .nil
  | w :: ws, _, ds, r, e => by
    cases r with
    | cons r1 r2 =>
      unfold toPyWs at e
      cases e1 : toPyW f w with
      | none => rw [e1] at e; cases e
      | some d =>
        rw [e1] at e
        cases e2 : toPyWs f ws with
        | none => rw [e2] at e; cases e
        | some ds2 =>
          rw [e2] at e
          cases e
          exact .cons (dp_w hf w _ d r1 e1) (dp_ws hf ws _ ds2 r2 e2)
end
theorem dp_r (s : Sim G ι H S) : ∀ (k n : Nat) (d : PyData) (a : Addr), toPyR S k n = some d → ι[n]? = some a → Dp G.K H (.ref a) d
  | 0, n, d, a, e, i => by cases e
  | k + 1, n, d, a, e, i => by
    unfold toPyR at e
    split at e
    · rename_i l h
      obtain ⟨vs, g, q⟩ := s.obj _ _ _ h i
      cases e2 : toPyWs (toPyR S k) l with
      | none => rw [e2] at e; cases e
      | some ds =>
        rw [e2] at e
        cases e
        exact .lst (.of g) (dp_ws (dp_r s k) l vs ds q e2)
    · rename_i l h
      obtain ⟨o, vs, g, q, _⟩ := s.obj _ _ _ h i
      cases e2 : toPyWs (toPyR S k) l with
      | none => rw [e2] at e; cases e
      | some ds =>
        rw [e2] at e
        cases e
        exact .lst (.inl (.inr ⟨o, g⟩)) (dp_ws (dp_r s k) l vs ds q e2)
    · cases e
theorem dp_of (s : Sim G ι H S) {w : MV} {v : V} {d : PyData} (r : RW G ι H w v) (e : toPy S w = some d) : Dp G.K H v d := dp_w (dp_r s 6) w v d r e
end
section
variable {X : Cx} {G : Gx} {W : WX} {e a b c : Expr} {pos : Pos} {d da db dc : Den}
/-! ### == and != -/
def scalM : MV → MV → Option Bool
  | .non, .non => some true
  | .int i, .int j => some (decide (i = j))
  | .bl i, .bl j => some (decide (i = j))
  | .str i, .str j => some (decide (i = j))
  | .non, .int _ => some false | .int _, .non => some false | .non, .bl _ => some false | .bl _, .non => some false | .non, .str _ => some false | .str _, .non => some false
  | .int _, .str _ => some false | .str _, .int _ => some false | .bl _, .str _ => some false | .str _, .bl _ => some false
  | _, _ => none
def eqM (w1 w2 : MV) (S : Store) : Option Bool := match scalM w1 w2 with
  | some k => some k
  | none => match toPy S w1, toPy S w2 with
    | some d, some e => if SeqAt.shaped d && SeqAt.shaped e then some (PyData.eqv d e) else none
    | _, _ => none
def fEq (w1 w2 : MV) (S : Store) : Res MV := match eqM w1 w2 S with
  | some k => .ok (.bl k) S
  | none => .stuck
def fNe (w1 w2 : MV) (S : Store) : Res MV := match eqM w1 w2 S with
  | some k => .ok (.bl (!k)) S
  | none => .stuck
theorem scal_ok {ι : List Addr} {H : Hp} {w1 w2 : MV} {v1 v2 : V} {k : Bool} (r1 : RW G ι H w1 v1) (r2 : RW G ι H w2 v2) (e : scalM w1 w2 = some k) : scal v1 v2 = true ∧ decide (v1 = v2) = k := by
  cases r1 <;> cases r2 <;> first
    | (cases e; simp [scal]; done)
    | (simp [scalM] at e; done)
    | (simp [scalM] at e; subst e; simp [scal])
theorem eqM_ok {ι : List Addr} {H : Hp} {S : Store} {w1 w2 : MV} {v1 v2 : V} {k : Bool} (s : Sim G ι H S) (r1 : RW G ι H w1 v1) (r2 : RW G ι H w2 v2) (h : eqM w1 w2 S = some k) :
    (scal v1 v2 = true ∧ decide (v1 = v2) = k) ∨ ∃ d e, Dp G.K H v1 d ∧ Dp G.K H v2 e ∧ SeqAt.shaped d = true ∧ SeqAt.shaped e = true ∧ PyData.eqv d e = k := by
  unfold eqM at h
  split at h
  · rename_i k' e
    cases h
    exact .inl (scal_ok r1 r2 e)
  · split at h
    · rename_i d e e1 e2
      split at h
      · rename_i hz
        rw [Bool.and_eq_true] at hz
        cases h
        exact .inr ⟨d, e, dp_of s r1 e1, dp_of s r2 e2, hz.1, hz.2, rfl⟩
      · cases h
    · cases h
theorem w_eq : OpW G fEq (fun x y H Q => rEq x y H Q ∨ rEqD G.K x y H Q) := fun ι H S E Q w1 w2 v1 v2 s r1 r2 h => by
  unfold fEq at h
  split at h
  · rename_i k e
    have q := h ι H (.refl s) _ (.bl k)
    rcases eqM_ok s r1 r2 e with ⟨h1, h2⟩ | ⟨d, e, h1, h2, h3, h4, h5⟩
    · exact .inl ⟨h1, by rw [h2]; exact q⟩
    · exact .inr ⟨d, e, h1, h2, h3, h4, by rw [h5]; exact q⟩
  · exact h.elim
theorem w_ne : OpW G fNe (fun x y H Q => rNe x y H Q ∨ rNeD G.K x y H Q) := fun ι H S E Q w1 w2 v1 v2 s r1 r2 h => by
  unfold fNe at h
  split at h
  · rename_i k e
    have q := h ι H (.refl s) _ (.bl (!k))
    rcases eqM_ok s r1 r2 e with ⟨h1, h2⟩ | ⟨d, e, h1, h2, h3, h4, h5⟩
    · exact .inl ⟨h1, by rw [h2]; exact q⟩
    · exact .inr ⟨d, e, h1, h2, h3, h4, by rw [h5]; exact q⟩
  · exact h.elim
/-! ### in, not in -/
def flatM : MV → Bool
  | .non => true | .bl _ => true | .int _ => true | .str _ => true | _ => false
def eqF : MV → MV → Bool
  | .non, .non => true
  | .bl a, .bl b => a == b
  | .bl a, .int b => (if a then 1 else 0) == b
  | .int a, .bl b => a == (if b then 1 else 0)
  | .int a, .int b => a == b
  | .str a, .str b => a == b
  | _, _ => false
def itemsOf (w : MV) (S : Store) : Option (List MV) := match w with
  | .tup l => some l
  | .ref n => match S[n]? with
    | some (.lst l) => some l
    | some (.rol l) => some l
    | _ => none
  | _ => none
theorem items_ok {ι : List Addr} {H : Hp} {S : Store} {w : MV} {v : V} {l : List MV} (s : Sim G ι H S) (r : RW G ι H w v) (e : itemsOf w S = some l) : ∃ a vs, v = .ref a ∧ (SqL G.K H a vs ∨ SqT G.K H a vs) ∧ RWs G ι H l vs := by
  unfold itemsOf at e
  split at e
  · cases e
    cases r with
    | tup t q => exact ⟨_, _, rfl, .inr t, q⟩
  · cases r with
    | ref i =>
      split at e
      · rename_i h
        cases e
        obtain ⟨vs, g, q⟩ := s.obj _ _ _ h i
        exact ⟨_, vs, rfl, .inl (.of g), q⟩
      · rename_i h
        cases e
        obtain ⟨o, vs, g, q, _⟩ := s.obj _ _ _ h i
        exact ⟨_, vs, rfl, .inl (.inl (.inr ⟨o, g⟩)), q⟩
      · cases e
  · cases e
theorem flat_ok {ι : List Addr} {H : Hp} {w : MV} {v : V} (r : RW G ι H w v) (e : flatM w = true) : flatV v = true := by
  cases r <;> first | rfl | cases e
theorem flats_ok {ι : List Addr} {H : Hp} : ∀ {ws : List MV} {vs : List V}, RWs G ι H ws vs → ws.all flatM = true → vs.all flatV = true
  | [], _, r, _ => by cases r; rfl
  | w :: ws, _, r, e => by
    cases r with
    | cons r1 r2 =>
      rw [List.all_cons, Bool.and_eq_true] at e
      rw [List.all_cons, Bool.and_eq_true]
      exact ⟨flat_ok r1 e.1, flats_ok r2 e.2⟩
theorem eqF_ok {ι : List Addr} {H : Hp} {w1 w2 : MV} {v1 v2 : V} (r1 : RW G ι H w1 v1) (r2 : RW G ι H w2 v2) : eqF w1 w2 = eqV v1 v2 := by
  cases r1 <;> cases r2 <;> rfl
theorem inF_ok {ι : List Addr} {H : Hp} {w : MV} {v : V} (r : RW G ι H w v) : ∀ {ws : List MV} {vs : List V}, RWs G ι H ws vs → (ws.any fun y => eqF y w) = inV v vs
  | [], _, q => by cases q; rfl
  | y :: ws, _, q => by
    cases q with
    | cons q1 q2 =>
      have ih := inF_ok r q2
      unfold inV at ih ⊢
      rw [List.any_cons, List.any_cons, eqF_ok q1 r, ih]
def inM (w1 w2 : MV) (S : Store) : Option Bool := match w1, w2 with
  | .str x, .str z => match x.cps with
    | ⟨[c]⟩ => some (decide (c ∈ z.cps.toList))
    | _ => none
  | w1, w2 => match itemsOf w2 S with
    | some l => if flatM w1 && l.all flatM then some (l.any fun y => eqF y w1) else none
    | none => none
def fIn (w1 w2 : MV) (S : Store) : Res MV := match inM w1 w2 S with
  | some k => .ok (.bl k) S
  | none => .stuck
def fNotIn (w1 w2 : MV) (S : Store) : Res MV := match inM w1 w2 S with
  | some k => .ok (.bl (!k)) S
  | none => .stuck
abbrev rInS : R2 := fun x y H Q => ∃ (c : Nat) (z : Str), x = .str ⟨#[c]⟩ ∧ y = .str z ∧ Q (.bl (decide (c ∈ z.cps.toList))) H
abbrev rNotInS : R2 := fun x y H Q => ∃ (c : Nat) (z : Str), x = .str ⟨#[c]⟩ ∧ y = .str z ∧ Q (.bl (!decide (c ∈ z.cps.toList))) H
theorem inM_ok {ι : List Addr} {H : Hp} {S : Store} {w1 w2 : MV} {v1 v2 : V} {k : Bool} (s : Sim G ι H S) (r1 : RW G ι H w1 v1) (r2 : RW G ι H w2 v2) (h : inM w1 w2 S = some k) :
    (∃ (c : Nat) (z : Str), v1 = .str ⟨#[c]⟩ ∧ v2 = .str z ∧ decide (c ∈ z.cps.toList) = k) ∨ ∃ p xs, v2 = .ref p ∧ (SqL G.K H p xs ∨ SqT G.K H p xs) ∧ flatV v1 = true ∧ xs.all flatV = true ∧ inV v1 xs = k := by
  unfold inM at h
  split at h
  · rename_i x z
    cases r1; cases r2
    split at h
    · rename_i c e
      cases h
      obtain ⟨cs⟩ := x
      have e' : cs = #[c] := e
      subst e'
      exact .inl ⟨c, z, rfl, rfl, rfl⟩
    · cases h
  · split at h
    · rename_i l e
      split at h
      · rename_i hz
        rw [Bool.and_eq_true] at hz
        cases h
        obtain ⟨a, vs, rfl, t, q⟩ := items_ok s r2 e
        exact .inr ⟨a, vs, rfl, t, flat_ok r1 hz.1, flats_ok q hz.2, (inF_ok r1 q).symm⟩
      · cases h
    · cases h
theorem w_in : OpW G fIn (fun x y H Q => rInS x y H Q ∨ rIn G.K false x y H Q) := fun ι H S E Q w1 w2 v1 v2 s r1 r2 h => by
  unfold fIn at h
  split at h
  · rename_i k e
    have q := h ι H (.refl s) _ (.bl k)
    rcases inM_ok s r1 r2 e with ⟨c, z, h1, h2, h3⟩ | ⟨p, xs, h1, h2, h3, h4, h5⟩
    · exact .inl ⟨c, z, h1, h2, by rw [h3]; exact q⟩
    · exact .inr ⟨p, xs, h1, h2, h3, h4, by rw [h5]; exact q⟩
  · exact h.elim
theorem w_notIn : OpW G fNotIn (fun x y H Q => rNotInS x y H Q ∨ rIn G.K true x y H Q) := fun ι H S E Q w1 w2 v1 v2 s r1 r2 h => by
  unfold fNotIn at h
  split at h
  · rename_i k e
    have q := h ι H (.refl s) _ (.bl (!k))
    rcases inM_ok s r1 r2 e with ⟨c, z, h1, h2, h3⟩ | ⟨p, xs, h1, h2, h3, h4, h5⟩
    · exact .inl ⟨c, z, h1, h2, by rw [h3]; exact q⟩
    · exact .inr ⟨p, xs, h1, h2, h3, h4, by rw [h5]; exact q⟩
  · exact h.elim
/-! ### is None, is not None -/
def isNonM : MV → Bool
  | .non => true
  | _ => false
theorem isNon_ok {ι : List Addr} {H : Hp} {w : MV} {v : V} (r : RW G ι H w v) : decide (v = .non) = isNonM w := by
  cases r <;> simp [isNonM]
def fIs (w1 w2 : MV) (S : Store) : Res MV := match w2 with
  | .non => .ok (.bl (isNonM w1)) S
  | _ => .stuck
def fIsNot (w1 w2 : MV) (S : Store) : Res MV := match w2 with
  | .non => .ok (.bl (!isNonM w1)) S
  | _ => .stuck
theorem w_is : OpW G fIs (fun x y H Q => y = .non ∧ Q (.bl (decide (x = .non))) H) := fun ι H S E Q w1 w2 v1 v2 s r1 r2 h => by
  unfold fIs at h
  split at h
  · cases r2
    exact ⟨rfl, by rw [isNon_ok r1]; exact h ι H (.refl s) _ (.bl _)⟩
  · exact h.elim
theorem w_isNot : OpW G fIsNot (fun x y H Q => y = .non ∧ Q (.bl (!decide (x = .non))) H) := fun ι H S E Q w1 w2 v1 v2 s r1 r2 h => by
  unfold fIsNot at h
  split at h
  · cases r2
    exact ⟨rfl, by rw [isNon_ok r1]; exact h ι H (.refl s) _ (.bl _)⟩
  · exact h.elim
/-! ### the comparisons, each as a rule of its operator: the reading's and the small machine's -/
structure CmpOk (X : Cx) (G : Gx) (op : CmpOp) (f : MV → MV → Store → Res MV) : Prop where
  ex : ∃ r, OpR X (compareOp op) r ∧ OpW G f r
theorem cmp_eq (hK : X.K = G.K) (hu : X.A.units + 64 < cLine) : CmpOk X G .Eq fEq := ⟨_, op_eq.or (op_eqD hu), by rw [hK]; exact w_eq⟩
theorem cmp_ne (hK : X.K = G.K) (hu : X.A.units + 64 < cLine) : CmpOk X G .NotEq fNe := ⟨_, op_ne.or (op_neD hu), by rw [hK]; exact w_ne⟩
theorem cmp_in (hK : X.K = G.K) : CmpOk X G .In fIn := ⟨_, op_in_sign.or op_in_seq, by rw [hK]; exact w_in⟩
theorem cmp_notIn (hK : X.K = G.K) : CmpOk X G .NotIn fNotIn := ⟨_, op_notIn_sign.or op_notIn_seq, by rw [hK]; exact w_notIn⟩
theorem cmp_is : CmpOk X G .Is fIs := ⟨_, op_isN, w_is⟩
theorem cmp_isNot : CmpOk X G .IsNot fIsNot := ⟨_, op_notN, w_isNot⟩
abbrev fLt := fInt (fun _ _ => true) (fun i j => .bl (decide (i < j)))
abbrev fLe := fInt (fun _ _ => true) (fun i j => .bl (decide (i ≤ j)))
abbrev fGt := fInt (fun _ _ => true) (fun i j => .bl (decide (j < i)))
abbrev fGe := fInt (fun _ _ => true) (fun i j => .bl (decide (j ≤ i)))
theorem cmp_lt : CmpOk X G .Lt fLt := ⟨_, op_lt, w_int0 (kc_bl fun i j => decide (i < j))⟩
theorem cmp_le : CmpOk X G .LtE fLe := ⟨_, op_le, w_int0 (kc_bl fun i j => decide (i ≤ j))⟩
theorem cmp_gt : CmpOk X G .Gt fGt := ⟨_, op_gt, w_int0 (kc_bl fun i j => decide (j < i))⟩
theorem cmp_ge : CmpOk X G .GtE fGe := ⟨_, op_ge, w_int0 (kc_bl fun i j => decide (j ≤ i))⟩
theorem de_cmp' {op : CmpOp} {f : MV → MV → Store → Res MV} (k : CmpOk X G op f) (ha : DE X G W a da) (hb : DE X G W b db) (hm : behindInMarks op b = false) : DE X G W (.Compare a [op] [b] pos) (dBin f da db) := by
  obtain ⟨r, h1, h2⟩ := k.ex
  exact de_cmp h1 h2 ha hb hm
/-! ### tests -/
abbrev DenB := Env' → Store → Res Bool
def tT (G : Gx) (W : WX) (d : DenB) : TT := fun σ H Q => ∃ ι S ρ, Sim G ι H S ∧ RE G ι H ρ σ ∧ fin G ι H (fun c x H' => W c x σ H') (fun k _ H' => Q k H') (d ρ S)
structure DT (X : Cx) (G : Gx) (W : WX) (e : Expr) (d : DenB) : Prop where
  run : PT X e (tT G W d)
structure DW (X : Cx) (G : Gx) (W : WX) (e : Expr) (d : DenB) : Prop where
  run : PW X e (tT G W d)
theorem PW.imp {X : Cx} {e : Expr} {t t' : TT} (h : PW X e t) (k : ∀ σ H Q, t' σ H Q → t σ H Q) : PW X e t' := ⟨fun wh pins s σ H Q I q => h.run wh pins s σ H Q I (k σ H Q q)⟩
def boolOf (w : MV) (S : Store) : Res Bool := match w with
  | .bl k => .ok k S
  | _ => .stuck
def bCmp (f : MV → MV → Store → Res MV) (a b : Den) : DenB := fun ρ S => (dBin f a b ρ S).bind boolOf
theorem test_imp {d : Den} {σ : L2.St} {H : Hp} {Q : Bool → Hp → Prop} (h : tT G W (fun ρ S => (d ρ S).bind boolOf) σ H Q) : tD G W d σ H (fun x H' => ∃ k, x = .bl k ∧ Q k H') := by
  obtain ⟨ι, S, ρ, s, re, h⟩ := h
  refine ⟨ι, S, ρ, s, re, (fin.bind h).mono fun w ι1 H1 S1 p _ h1 v r => ?_⟩
  obtain ⟨S2, s2, _, _, _, h2⟩ := h1
  unfold boolOf at h2
  split at h2
  · cases r
    exact ⟨_, rfl, h2 ι1 H1 (.refl s2)⟩
  · exact h2.elim
theorem dt_cmp {op : CmpOp} {f : MV → MV → Store → Res MV} (k : CmpOk X G op f) (ha : DE X G W a da) (hb : DE X G W b db) (hm : behindInMarks op b = false) : DT X G W (.Compare a [op] [b] pos) (bCmp f da db) := by
  obtain ⟨r, h1, h2⟩ := k.ex
  exact ⟨PT.imp (pt_cmpR h1 ha.run hb.run hm) fun σ H Q h => bin_imp h2 (test_imp h)⟩
def truM (w : MV) (S : Store) : Option Bool := match w with
  | .non => some false
  | .bl b => some b
  | .int i => some (i != 0)
  | .str x => if x.length ≤ 100000 then some ((x.length : Int) != 0) else none
  | .tup l => some (!l.isEmpty)
  | .ref n => match S[n]? with
    | some (.lst l) => some (!l.isEmpty)
    | some (.rol l) => some (!l.isEmpty)
    | some (.dic l) => some (!l.isEmpty)
    | _ => none
  | .out _ => none
def truB (w : MV) (S : Store) : Res Bool := match truM w S with
  | some k => .ok k S
  | none => .stuck
theorem isEmpty_rws {ι : List Addr} {H : Hp} {l : List MV} {vs : List V} (r : RWs G ι H l vs) : vs.isEmpty = l.isEmpty := by cases r <;> rfl
theorem tru_w {ι : List Addr} {H : Hp} {S : Store} {w : MV} {v : V} {k : Bool} (s : Sim G ι H S) (r : RW G ι H w v) (e : truM w S = some k) : TruV G.K v H k := by
  unfold truM at e
  split at e
  · cases r; cases e; exact rfl
  · cases r; cases e; exact rfl
  · cases r; cases e; exact rfl
  · cases r
    split at e
    · rename_i hz
      cases e
      exact ⟨big_ok hz, rfl⟩
    · cases e
  · cases r with
    | tup t q => cases e; exact .inr (.inl ⟨_, t, by rw [isEmpty_rws q]⟩)
  · cases r with
    | ref i =>
      split at e
      · rename_i h
        obtain ⟨vs, g, q⟩ := s.obj _ _ _ h i
        cases e
        exact .inl ⟨vs, .of g, by rw [isEmpty_rws q]⟩
      · rename_i h
        obtain ⟨o, vs, g, q, _⟩ := s.obj _ _ _ h i
        cases e
        exact .inl ⟨vs, .inl (.inr ⟨o, g⟩), by rw [isEmpty_rws q]⟩
      · rename_i l h
        obtain ⟨kv, g, q1, q2⟩ := s.obj _ _ _ h i
        cases e
        refine .inr (.inr ⟨kv, g, ?_⟩)
        have hl : kv.length = l.length := by
          have := congrArg List.length q1
          simpa using this
        cases kv <;> cases l <;> first | rfl | (simp at hl)
      · cases e
  · cases e
def bTru (d : Den) : DenB := fun ρ S => (d ρ S).bind truB
theorem dt_truth (hK : X.K = G.K) (ha : DE X G W a da) (he : ∀ whole, isTrue a X.env whole = (do let v ← whole; standAt a.pos; holding [v] (truthy v)) := by intro _; rfl) : DT X G W a (bTru da) := by
  refine ⟨PT.imp (pt_truth ha.run he) fun σ H Q h => ?_⟩
  obtain ⟨ι, S, ρ, s, re, h⟩ := h
  refine ⟨ι, S, ρ, s, re, (fin.bind h).mono fun w ι1 H1 S1 p _ h1 v r => ?_⟩
  obtain ⟨S2, s2, _, _, _, h2⟩ := h1
  unfold truB at h2
  split at h2
  · rename_i k e
    exact ⟨k, by rw [hK]; exact tru_w s2 r e, h2 ι1 H1 (.refl s2)⟩
  · exact h2.elim
def bNot (d : DenB) : DenB := fun ρ S => (d ρ S).bind fun k S1 => .ok (!k) S1
def bAnd (d f : DenB) : DenB := fun ρ S => (d ρ S).bind fun k S1 => if k = true then f ρ S1 else .ok false S1
def bOr (d f : DenB) : DenB := fun ρ S => (d ρ S).bind fun k S1 => if k = true then .ok true S1 else f ρ S1
variable {dA dB : DenB} {rest : List Expr}
theorem dt_not (ha : DT X G W a dA) : DT X G W (.UnaryOp .Not a pos) (bNot dA) := by
  refine ⟨PT.imp (pt_not ha.run) fun σ H Q h => ?_⟩
  obtain ⟨ι, S, ρ, s, re, h⟩ := h
  refine ⟨ι, S, ρ, s, re, (fin.bind h).mono fun k ι1 H1 S1 p _ h1 => ?_⟩
  obtain ⟨S2, s2, _, _, _, h2⟩ := h1
  exact h2 ι1 H1 (.refl s2)
theorem dw_dt (h : DW X G W e dA) : DT X G W e dA := ⟨h.run.pt⟩
theorem dw_and1 (ha : DT X G W a dA) : DW X G W (.BoolOp .And [a] pos) dA := ⟨pw_and1 ha.run⟩
theorem dw_or1 (ha : DT X G W a dA) : DW X G W (.BoolOp .Or [a] pos) dA := ⟨pw_or1 ha.run⟩
theorem dw_and (ha : DT X G W a dA) (hb : DW X G W (.BoolOp .And (b :: rest) pos) dB) : DW X G W (.BoolOp .And (a :: b :: rest) pos) (bAnd dA dB) := by
  refine ⟨PW.imp (pw_and ha.run hb.run) fun σ H Q h => ?_⟩
  obtain ⟨ι, S, ρ, s, re, h⟩ := h
  refine ⟨ι, S, ρ, s, re, (fin.bind h).mono fun k ι1 H1 S1 p _ h1 => ?_⟩
  obtain ⟨S2, s2, _, re2, _, h2⟩ := h1
  cases k with
  | true => exact ⟨ι1, S2, ρ, s2, re2 _ _ re, h2⟩
  | false => exact h2 ι1 H1 (.refl s2)
theorem dw_or (ha : DT X G W a dA) (hb : DW X G W (.BoolOp .Or (b :: rest) pos) dB) : DW X G W (.BoolOp .Or (a :: b :: rest) pos) (bOr dA dB) := by
  refine ⟨PW.imp (pw_or ha.run hb.run) fun σ H Q h => ?_⟩
  obtain ⟨ι, S, ρ, s, re, h⟩ := h
  refine ⟨ι, S, ρ, s, re, (fin.bind h).mono fun k ι1 H1 S1 p _ h1 => ?_⟩
  obtain ⟨S2, s2, _, re2, _, h2⟩ := h1
  cases k with
  | false => exact ⟨ι1, S2, ρ, s2, re2 _ _ re, h2⟩
  | true => exact h2 ι1 H1 (.refl s2)
/-! ### and, or, not as values, of True and False -/
def dAnd (d f : Den) : Den := fun ρ S => (d ρ S).bind fun w S1 => match w with
  | .bl true => f ρ S1
  | .bl false => .ok (.bl false) S1
  | _ => .stuck
def dOr (d f : Den) : Den := fun ρ S => (d ρ S).bind fun w S1 => match w with
  | .bl true => .ok (.bl true) S1
  | .bl false => f ρ S1
  | _ => .stuck
def dNot (d : Den) : Den := fun ρ S => (d ρ S).bind fun w S1 => match w with
  | .bl k => .ok (.bl (!k)) S1
  | _ => .stuck
theorem de_one {op} (h : DE X G W a da) : DE X G W (.BoolOp op [a] pos) da := ⟨pe_one h.run⟩
theorem de_and (ha : DE X G W a da) (hb : DE X G W (.BoolOp .And (b :: rest) pos) db) : DE X G W (.BoolOp .And (a :: b :: rest) pos) (dAnd da db) := by
  refine ⟨PE.imp (pe_and ha.run hb.run) fun σ H Q h => ?_⟩
  obtain ⟨ι, S, ρ, s, re, h⟩ := h
  refine ⟨ι, S, ρ, s, re, (fin.bind h).mono fun w ι1 H1 S1 p _ h1 v r => ?_⟩
  obtain ⟨S2, s2, _, re2, _, h2⟩ := h1
  split at h2
  · cases r
    exact ⟨true, rfl, ι1, S2, ρ, s2, re2 _ _ re, h2⟩
  · cases r
    exact ⟨false, rfl, h2 ι1 H1 (.refl s2) _ (.bl _)⟩
  · exact h2.elim
theorem de_or (ha : DE X G W a da) (hb : DE X G W (.BoolOp .Or (b :: rest) pos) db) : DE X G W (.BoolOp .Or (a :: b :: rest) pos) (dOr da db) := by
  refine ⟨PE.imp (pe_or ha.run hb.run) fun σ H Q h => ?_⟩
  obtain ⟨ι, S, ρ, s, re, h⟩ := h
  refine ⟨ι, S, ρ, s, re, (fin.bind h).mono fun w ι1 H1 S1 p _ h1 v r => ?_⟩
  obtain ⟨S2, s2, _, re2, _, h2⟩ := h1
  split at h2
  · cases r
    exact ⟨true, rfl, h2 ι1 H1 (.refl s2) _ (.bl _)⟩
  · cases r
    exact ⟨false, rfl, ι1, S2, ρ, s2, re2 _ _ re, h2⟩
  · exact h2.elim
theorem de_not (ha : DE X G W a da) : DE X G W (.UnaryOp .Not a pos) (dNot da) := by
  refine ⟨PE.imp (pe_not ha.run) fun σ H Q h => ?_⟩
  obtain ⟨ι, S, ρ, s, re, h⟩ := h
  refine ⟨ι, S, ρ, s, re, (fin.bind h).mono fun w ι1 H1 S1 p _ h1 v r => ?_⟩
  obtain ⟨S2, s2, _, re2, _, h2⟩ := h1
  split at h2
  · cases r
    exact ⟨_, rfl, h2 ι1 H1 (.refl s2) _ (.bl _)⟩
  · exact h2.elim
def dIf (t : DenB) (d f : Den) : Den := fun ρ S => (t ρ S).bind fun k S1 => if k = true then d ρ S1 else f ρ S1
theorem de_if (hc : DT X G W c dA) (ha : DE X G W a da) (hb : DE X G W b db) : DE X G W (.IfExp c a b pos) (dIf dA da db) := by
  refine ⟨PE.imp (pe_ifExp hc.run ha.run hb.run) fun σ H Q h => ?_⟩
  obtain ⟨ι, S, ρ, s, re, h⟩ := h
  refine ⟨ι, S, ρ, s, re, (fin.bind h).mono fun k ι1 H1 S1 p _ h1 => ?_⟩
  obtain ⟨S2, s2, _, re2, _, h2⟩ := h1
  cases k with
  | true => exact ⟨ι1, S2, ρ, s2, re2 _ _ re, h2⟩
  | false => exact ⟨ι1, S2, ρ, s2, re2 _ _ re, h2⟩
def dChain (f g : MV → MV → Store → Res MV) (a b c : Den) : Den := fun ρ S => (a ρ S).bind fun x S1 => (b ρ S1).bind fun y S2 => (f x y S2).bind fun k S3 => match k with
  | .bl true => (c ρ S3).bind fun z S4 => g y z S4
  | .bl false => .ok (.bl false) S3
  | _ => .stuck
end
end MI
set_option Elab.async false
set_option linter.all false
set_option maxRecDepth 100000
namespace MI
open PySem PySem.Spec PyProof.Rows L2
section
variable {X : Cx} {G : Gx} {W : WX} {e a b c : Expr} {pos : Pos} {d da db dc : Den}
/-! ### a dict's keys -/
def keyM : MV → Option Key
  | .int i => some (.inl i)
  | .str s => some (.inr s)
  | _ => none
theorem key_ok {ι : List Addr} {H : Hp} {w : MV} {v : V} {k : Key} (r : RW G ι H w v) (e : keyM w = some k) : v = kV k := by
  unfold keyM at e
  split at e <;> (first | (cases r; cases e; rfl) | cases e)
def valM (kvs : List (Key × MV)) (k : Key) : Option MV := (kvs.find? fun kv => decide (kv.1 = k)).map (·.2)
def putM (kvs : List (Key × MV)) (k : Key) (w : MV) : List (Key × MV) :=
  if (kvs.any fun kv => decide (kv.1 = k)) = true then kvs.map (fun kv => if kv.1 = k then (kv.1, w) else kv) else kvs ++ [(k, w)]
theorem kvs_val {ι : List Addr} {H : Hp} {k : Key} : ∀ {kvs : List (Key × MV)} {kv : List (Key × V)}, kv.map (·.1) = kvs.map (·.1) → RWs G ι H (kvs.map (·.2)) (kv.map (·.2)) →
    (∃ w v, valM kvs k = some w ∧ valV kv k = some v ∧ RW G ι H w v) ∨ (valM kvs k = none ∧ valV kv k = none)
  | [], [], _, _ => .inr ⟨rfl, rfl⟩
  | [], p :: kv, e, _ => by simp at e
  | p :: kvs, [], e, _ => by simp at e
  | p :: kvs, q :: kv, e, r => by
    simp only [List.map_cons, List.cons.injEq] at e
    simp only [List.map_cons] at r
    cases r with
    | cons r1 r2 =>
      by_cases h : p.1 = k
      · refine .inl ⟨p.2, q.2, by simp [valM, List.find?_cons, h], ?_, r1⟩
        exact valV_pos (by rw [e.1]; exact h)
      · have ih := kvs_val (k := k) e.2 r2
        have e1 : valM (p :: kvs) k = valM kvs k := by simp [valM, List.find?_cons, h]
        have e2 : valV (q :: kv) k = valV kv k := valV_neg (by rw [e.1]; exact h)
        rw [e1, e2]
        exact ih
theorem kvs_put {ι : List Addr} {H : Hp} {k : Key} {w : MV} {v : V} (rw' : RW G ι H w v) {kvs : List (Key × MV)} {kv : List (Key × V)} (e : kv.map (·.1) = kvs.map (·.1)) (r : RWs G ι H (kvs.map (·.2)) (kv.map (·.2))) :
    (putK kv k v).map (·.1) = (putM kvs k w).map (·.1) ∧ RWs G ι H ((putM kvs k w).map (·.2)) ((putK kv k v).map (·.2)) := by
  have ha : ∀ {kvs : List (Key × MV)} {kv : List (Key × V)}, kv.map (·.1) = kvs.map (·.1) → (kvs.any fun x => decide (x.1 = k)) = (kv.any fun x => decide (x.1 = k)) := by
    intro kvs
    induction kvs with
    | nil => intro kv e; cases kv with
      | nil => rfl
      | cons p r => simp at e
    | cons p r ih => intro kv e; cases kv with
      | nil => simp at e
      | cons q t =>
        simp only [List.map_cons, List.cons.injEq] at e
        rw [List.any_cons, List.any_cons, ih e.2, e.1]
  have hm : ∀ {kvs : List (Key × MV)} {kv : List (Key × V)}, kv.map (·.1) = kvs.map (·.1) → RWs G ι H (kvs.map (·.2)) (kv.map (·.2)) →
      (kv.map fun x => if x.1 = k then (x.1, v) else x).map (·.1) = (kvs.map fun x => if x.1 = k then (x.1, w) else x).map (·.1) ∧ RWs G ι H ((kvs.map fun x => if x.1 = k then (x.1, w) else x).map (·.2)) ((kv.map fun x => if x.1 = k then (x.1, v) else x).map (·.2)) := by
    intro kvs
    induction kvs with
    | nil => intro kv e r; cases kv with
      | nil => exact ⟨rfl, .nil⟩
      | cons p r => simp at e
    | cons p l ih => intro kv e r; cases kv with
      | nil => simp at e
      | cons q t =>
        simp only [List.map_cons, List.cons.injEq] at e
        simp only [List.map_cons] at r
        cases r with
        | cons r1 r2 =>
          obtain ⟨i1, i2⟩ := ih e.2 r2
          simp only [List.map_cons]
          by_cases h : p.1 = k
          · have h' : q.1 = k := by rw [e.1]; exact h
            rw [if_pos h, if_pos h']
            exact ⟨by rw [i1, e.1], .cons rw' i2⟩
          · have h' : ¬ q.1 = k := by rw [e.1]; exact h
            rw [if_neg h, if_neg h']
            exact ⟨by rw [i1, e.1], .cons r1 i2⟩
  unfold putK putM
  rw [← ha e]
  by_cases h : (kvs.any fun kv => decide (kv.1 = k)) = true
  · rw [if_pos h, if_pos h]
    exact hm e r
  · rw [if_neg h, if_neg h]
    refine ⟨by simp [e], ?_⟩
    rw [List.map_append, List.map_append]
    exact r.append (.cons rw' .nil)
/-! ### a[b] -/
def fIx (w1 w2 : MV) (S : Store) : Res MV := match w1, w2 with
  | .tup l, .int i => match atI l i with
    | some w => .ok w S
    | none => .stuck
  | .str z, .int i => if z.length ≤ 100000 then match atI z.cps.toList i with
    | some c => .ok (.str ⟨#[c]⟩) S
    | none => .stuck
    else .stuck
  | .ref n, k => match S[n]? with
    | some (.dic kvs) => match keyM k with
      | some k => match valM kvs k with
        | some w => .ok w S
        | none => .stuck
      | none => .stuck
    | some (.lst l) => match k with
      | .int i => match atI l i with
        | some w => .ok w S
        | none => .stuck
      | _ => .stuck
    | some (.rol l) => match k with
      | .int i => match atI l i with
        | some w => .ok w S
        | none => .stuck
      | _ => .stuck
    | _ => .stuck
  | _, _ => .stuck
def rIxDic : R2 := fun x y H Q => ∃ a v, x = .ref a ∧ DGet H a y (some v) ∧ Q v H
theorem ix_dic (hu : X.A.units + 1 < cLine) : IxR X rIxDic := by
  intro value slice pins s σ H x y v u Q I rx ry h hs
  obtain ⟨a, z, rfl, g, q⟩ := h
  cases rx
  exact tail_any (dict_typeIs I g) PySem.F.slot_dict_getitem.lookup (d_getItem hu I g ry fun w' s' I' r => ⟨z, H, I', r, q⟩) hs
theorem atI_rws {ι : List Addr} {H : Hp} {l : List MV} {vs : List V} {i : Int} {w : MV} (r : RWs G ι H l vs) (e : atI l i = some w) : ∃ v, atI vs i = some v ∧ RW G ι H w v := by
  unfold atI at e ⊢
  rw [← r.length]
  cases h : ixN l.length i with
  | none => rw [h] at e; cases e
  | some j =>
    rw [h] at e
    exact r.get e
theorem w_ix : OpW G fIx (fun x y H Q => rIx G.K x y H Q ∨ rIxDic x y H Q) := fun ι H S E Q w1 w2 v1 v2 s r1 r2 h => by
  unfold fIx at h
  split at h
  · cases r1 with
    | tup t q =>
      cases r2
      split at h
      · rename_i w e
        obtain ⟨v, e2, r⟩ := atI_rws q e
        exact .inl (.inr (.inl ⟨_, _, _, _, rfl, rfl, t, e2, h ι H (.refl s) v r⟩))
      · exact h.elim
  · cases r1
    cases r2
    split at h
    · rename_i hz
      split at h
      · rename_i c e
        exact .inl (.inr (.inr ⟨_, _, _, rfl, rfl, big_ok hz, e, h ι H (.refl s) _ (.str _)⟩))
      · exact h.elim
    · exact h.elim
  · cases r1 with
    | ref i =>
      split at h
      · rename_i kvs hS
        obtain ⟨kv, g, q1, q2⟩ := s.obj _ _ _ hS i
        split at h
        · rename_i k ek
          have ev := key_ok r2 ek
          subst ev
          split at h
          · rename_i w ew
            rcases kvs_val (k := k) q1 q2 with ⟨w', v, h1, h2, h3⟩ | ⟨h1, _⟩
            · rw [ew] at h1
              cases h1
              refine .inr ⟨_, v, rfl, ?_, h ι H (.refl s) v h3⟩
              rw [← h2]
              exact .k g
            · rw [ew] at h1; cases h1
          · exact h.elim
        · exact h.elim
      · rename_i l hS
        obtain ⟨vs, g, q⟩ := s.obj _ _ _ hS i
        split at h
        · cases r2
          split at h
          · rename_i w e
            obtain ⟨v, e2, r⟩ := atI_rws q e
            exact .inl (.inl ⟨_, _, _, _, rfl, rfl, .of g, e2, h ι H (.refl s) v r⟩)
          · exact h.elim
        · exact h.elim
      · rename_i l hS
        obtain ⟨o, vs, g, q, _⟩ := s.obj _ _ _ hS i
        split at h
        · cases r2
          split at h
          · rename_i w e
            obtain ⟨v, e2, r⟩ := atI_rws q e
            exact .inl (.inl ⟨_, _, _, _, rfl, rfl, .inl (.inr ⟨o, g⟩), e2, h ι H (.refl s) v r⟩)
          · exact h.elim
        · exact h.elim
      · exact h.elim
  · exact h.elim
theorem de_ix (hK : X.K = G.K) (hu : X.A.units + 64 < cLine) (ha : DE X G W a da) (hb : DE X G W b db) (hs : PlainIx b := by exact fun _ _ => rfl) : DE X G W (.Subscript a b pos) (dBin fIx da db) :=
  ⟨PE.imp (pe_ix (IxR.or ix_seq (ix_dic (by omega))) ha.run hb.run hs) fun _ _ _ h => by rw [hK]; exact bin_imp w_ix h⟩
/-! ### a[i:j] -/
abbrev DenO := Env' → Store → Res (Option Int)
def tO (G : Gx) (W : WX) (d : DenO) : TO := fun σ H Q => ∃ ι S ρ, Sim G ι H S ∧ RE G ι H ρ σ ∧ fin G ι H (fun c x H' => W c x σ H') (fun k _ H' => Q k H') (d ρ S)
structure DO (X : Cx) (G : Gx) (W : WX) (e : Option Expr) (d : DenO) : Prop where
  run : PO X e (tO G W d)
theorem PO.imp {X : Cx} {e : Option Expr} {t t' : TO} (h : PO X e t) (k : ∀ σ H Q, t' σ H Q → t σ H Q) : PO X e t' := ⟨fun pins s σ H Q I q => h.run pins s σ H Q I (k σ H Q q)⟩
def oNone : DenO := fun _ S => .ok none S
def oSome (d : Den) : DenO := fun ρ S => (d ρ S).bind fun w S1 => match w with
  | .int i => .ok (some i) S1
  | _ => .stuck
theorem do_none : DO X G W none oNone := ⟨PO.imp po_none fun σ H Q h => by
  obtain ⟨ι, S, ρ, s, re, h⟩ := h
  exact h ι H (.refl s)⟩
theorem do_some (h : DE X G W a da) : DO X G W (some a) (oSome da) := ⟨PO.imp (po_some h.run) fun σ H Q h => by
  obtain ⟨ι, S, ρ, s, re, h⟩ := h
  refine ⟨ι, S, ρ, s, re, (fin.bind h).mono fun w ι1 H1 S1 p _ h1 v r => ?_⟩
  obtain ⟨S2, s2, _, _, _, h2⟩ := h1
  split at h2
  · cases r
    exact ⟨_, rfl, h2 ι1 H1 (.refl s2)⟩
  · exact h2.elim⟩
def cutM (xs : List MV) (lo hi : Option Int) : List MV := (xs.drop (HT.sIx xs.length 0 lo)).take (HT.sIx xs.length xs.length hi - HT.sIx xs.length 0 lo)
theorem cut_rws {ι : List Addr} {H : Hp} {l : List MV} {vs : List V} (r : RWs G ι H l vs) (lo hi : Option Int) : RWs G ι H (cutM l lo hi) (cutV vs lo hi) := by
  unfold cutM cutV
  rw [r.length]
  exact (r.drop _).take _
def fSl (w : MV) (lo hi : Option Int) (S : Store) : Res MV := match w with
  | .tup l => .ok (.tup (cutM l lo hi)) S
  | .str z => if z.length ≤ 100000 then .ok (.str (cutS z lo hi)) S else .stuck
  | .ref n => match S[n]? with
    | some (.lst l) => .ok (.ref S.length) (S ++ [.lst (cutM l lo hi)])
    | some (.rol l) => .ok (.ref S.length) (S ++ [.lst (cutM l lo hi)])
    | _ => .stuck
  | _ => .stuck
def dSl (d : Den) (l u : DenO) : Den := fun ρ S => (d ρ S).bind fun w S1 => (l ρ S1).bind fun i S2 => (u ρ S2).bind fun j S3 => fSl w i j S3
theorem cut_whole (xs : List MV) {lo hi : Option Int} (h1 : HT.sIx xs.length 0 lo = 0) (h2 : HT.sIx xs.length xs.length hi = xs.length) : cutM xs lo hi = xs := by
  unfold cutM
  rw [h1, h2]
  simp
theorem de_sl {lo hi : Option Expr} {dl du : DenO} {p2 : Pos} (hK : X.K = G.K) (ha : DE X G W a da) (hl : DO X G W lo dl) (hh : DO X G W hi du) : DE X G W (.Subscript a (.Slice lo hi none p2) pos) (dSl da dl du) := by
  refine ⟨PE.imp (pe_slice (SlR.or sl_list (SlR.or sl_tupA sl_str)) ha.run hl.run hh.run) fun σ H Q h => ?_⟩
  obtain ⟨ι, S, ρ, s, re, h⟩ := h
  refine ⟨ι, S, ρ, s, re, (fin.bind h).mono fun w ι1 H1 S1 p _ h1 v r => ?_⟩
  obtain ⟨S1, s1, _, re1, _, h1⟩ := h1
  have re1 := re1 _ _ re
  refine ⟨ι1, S1, ρ, s1, re1, (fin.bind h1).mono fun i ι2 H2 S2 p2 _ h2 => ?_⟩
  obtain ⟨S2, s2, m2, re2, _, h2⟩ := h2
  refine ⟨ι2, S2, ρ, s2, re2 _ _ re1, (fin.bind h2).mono fun j ι3 H3 S3 p3 _ h3 => ?_⟩
  obtain ⟨S3, s3, m3, re3, _, h3⟩ := h3
  have r := m3 _ _ (m2 _ _ r)
  rw [hK]
  unfold fSl at h3
  split at h3
  · cases r with
    | tup t q =>
      refine .inr (.inl ⟨_, _, rfl, t, fun c => ?_, fun c => ?_⟩)
      · rw [← q.length] at c
        rw [cut_whole _ c.1 c.2] at h3
        exact h3 ι3 H3 (.refl s3) _ (.tup t q)
      · exact new_tup s3 (cut_rws q i j) h3
  · cases r
    split at h3
    · rename_i hz
      exact .inr (.inr ⟨_, rfl, big_ok hz, h3 ι3 H3 (.refl s3) _ (.str _)⟩)
    · exact h3.elim
  · cases r with
    | ref k =>
      split at h3
      · rename_i l hS
        obtain ⟨vs, g, q⟩ := s3.obj _ _ _ hS k
        exact .inl ⟨_, _, rfl, .of g, new_lst s3 (cut_rws q i j) h3⟩
      · rename_i l hS
        obtain ⟨o, vs, g, q, _⟩ := s3.obj _ _ _ hS k
        exact .inl ⟨_, _, rfl, .inl (.inr ⟨o, g⟩), new_lst s3 (cut_rws q i j) h3⟩
      · exact h3.elim
  · exact h3.elim
def fRev (w : MV) (S : Store) : Res MV := match w with
  | .ref n => match S[n]? with
    | some (.lst l) => .ok (.ref S.length) (S ++ [.lst l.reverse])
    | some (.rol l) => .ok (.ref S.length) (S ++ [.lst l.reverse])
    | _ => .stuck
  | _ => .stuck
theorem rws_rev {ι : List Addr} {H : Hp} : ∀ {l : List MV} {vs : List V}, RWs G ι H l vs → RWs G ι H l.reverse vs.reverse
  | [], _, r => by cases r; exact .nil
  | w :: l, _, r => by
    cases r with
    | cons r1 r2 =>
      rw [List.reverse_cons, List.reverse_cons]
      exact (rws_rev r2).append (.cons r1 .nil)
/-! ### argument lists, displays -/
def aNil : DenL := fun _ S => .ok [] S
def aCons (d : Den) (r : DenL) : DenL := fun ρ S => (d ρ S).bind fun w S1 => (r ρ S1).bind fun ws S2 => .ok (w :: ws) S2
variable {es : List Expr} {dr : DenL}
theorem da_nil : DA X G W [] aNil := ⟨PA.imp pa_nil fun σ H Q h => by
  obtain ⟨ι, S, ρ, s, re, h⟩ := h
  exact h ι H (.refl s) _ .nil⟩
theorem da_cons (ha : DE X G W a da) (hr : DA X G W es dr) (hs : starEach (a :: es) X.env = (false, eval a X.env) :: starEach es X.env := by rfl) : DA X G W (a :: es) (aCons da dr) := ⟨PA.imp (pa_cons ha.run hr.run hs) fun σ H Q h => by
  obtain ⟨ι, S, ρ, s, re, h⟩ := h
  refine ⟨ι, S, ρ, s, re, (fin.bind h).mono fun w ι1 H1 S1 p _ h1 v r => ?_⟩
  obtain ⟨S1, s1, m1, re1, _, h1⟩ := h1
  refine ⟨ι1, S1, ρ, s1, re1 _ _ re, (fin.bind h1).mono fun ws ι2 H2 S2 p2 _ h2 vs rs => ?_⟩
  obtain ⟨S2, s2, m2, _, _, h2⟩ := h2
  exact h2 ι2 H2 (.refl s2) _ (.cons (m2 _ _ r) rs)⟩
def dTup (r : DenL) : Den := fun ρ S => (r ρ S).bind fun ws S1 => if ws.length ≤ 100000 then .ok (.tup ws) S1 else .stuck
def dLst (r : DenL) : Den := fun ρ S => (r ρ S).bind fun ws S1 => if ws.length ≤ 100000 then .ok (.ref S1.length) (S1 ++ [.lst ws]) else .stuck
theorem de_tup {k} (h : DA X G W es dr) : DE X G W (.Tuple es k pos) (dTup dr) := ⟨PE.imp (pe_tup h.run) fun σ H Q h => by
  obtain ⟨ι, S, ρ, s, re, h⟩ := h
  refine ⟨ι, S, ρ, s, re, (fin.bind h).mono fun ws ι1 H1 S1 p _ h1 vs r => ?_⟩
  obtain ⟨S1, s1, _, _, _, h1⟩ := h1
  split at h1
  · rename_i hz
    exact ⟨by rw [← r.length]; exact big_ok hz, new_tup s1 r h1⟩
  · exact h1.elim⟩
theorem de_lst (h : DA X G W es dr) : DE X G W (.List es pos) (dLst dr) := ⟨PE.imp (pe_lst h.run) fun σ H Q h => by
  obtain ⟨ι, S, ρ, s, re, h⟩ := h
  refine ⟨ι, S, ρ, s, re, (fin.bind h).mono fun ws ι1 H1 S1 p _ h1 vs r => ?_⟩
  obtain ⟨S1, s1, _, _, _, h1⟩ := h1
  split at h1
  · rename_i hz
    exact ⟨by rw [← r.length]; exact big_ok hz, new_lst s1 r h1⟩
  · exact h1.elim⟩
def dDic0 : Den := fun _ S => .ok (.ref S.length) (S ++ [.dic []])
theorem de_dic0 : DE X G W (.Dict [] [] pos) dDic0 := ⟨PE.imp pe_dnewK fun σ H Q h => by
  obtain ⟨ι, S, ρ, s, re, h⟩ := h
  intro p hp
  have q := s.new hp (ho := .dK []) (mo := .dic []) ⟨[], upd_same, rfl, .nil⟩
  exact h _ _ q (.ref p) (.ref (by rw [← s.len]; simp))⟩
/-! ### built-ins called by their names -/
abbrev FnM := List MV → Store → Res MV
def dCall (f : FnM) (r : DenL) : Den := fun ρ S => (r ρ S).bind fun ws S1 => f ws S1
def ClW (G : Gx) (f : FnM) (r : List V → Hp → VK → Prop) : Prop := ∀ (ι : List Addr) (H : Hp) (S : Store) (E : Value → Option Addr → Hp → Prop) (Q : VK) (ws : List MV) (vs : List V), Sim G ι H S → RWs G ι H ws vs → fin G ι H E (PV G Q) (f ws S) → r vs H Q
theorem call_imp {f : FnM} {r : List V → Hp → VK → Prop} (hw : ClW G f r) {σ : L2.St} {H : Hp} {Q : VK} (h : tD G W (dCall f dr) σ H Q) : tCB r (tDs G W dr) σ H Q := by
  obtain ⟨ι, S, ρ, s, re, h⟩ := h
  refine ⟨ι, S, ρ, s, re, (fin.bind h).mono fun ws ι1 H1 S1 p _ h1 vs r => ?_⟩
  obtain ⟨S1, s1, _, _, _, h1⟩ := h1
  exact hw ι1 H1 S1 _ Q ws vs s1 r h1
theorem de_callB {id : String} {x : Str} {p : Pos} {f : FnM} {r : List V → Hp → VK → Prop} (hc : CallR X (.builtin id) r) (hw : ClW G f r) (hg : Gl X x) (hm : X.mg x = none) (hv : bootBuiltins x = some (.builtin id)) (ha : DA X G W (a :: es) dr) (hn : x ≠ "__name__" := by decide) (hdb : (x == ("__debug__" : Str)) = false := by decide)
    (he : starEach (a :: es) X.env = (false, eval a X.env) :: starEach es X.env := by rfl) (hpl : (backTo pos (starEach es X.env)).any (·.1) = false := by rfl) : DE X G W (.Call (.Name x p) (a :: es) [] pos) (dCall f dr) :=
  ⟨PE.imp (pe_callB hc hg hm hv ha.run hn hdb he hpl) fun _ _ _ h => call_imp hw h⟩
theorem de_callTy {T : String} {x : Str} {p : Pos} {f : FnM} {r : List V → Hp → VK → Prop} (hc : CallR X (.type T) r) (hw : ClW G f r) (hg : Gl X x) (hm : X.mg x = none) (hv : bootBuiltins x = some (.type T)) (ha : DA X G W (a :: es) dr) (hn : x ≠ "__name__" := by decide) (hdb : (x == ("__debug__" : Str)) = false := by decide)
    (he : starEach (a :: es) X.env = (false, eval a X.env) :: starEach es X.env := by rfl) (hpl : (backTo pos (starEach es X.env)).any (·.1) = false := by rfl) : DE X G W (.Call (.Name x p) (a :: es) [] pos) (dCall f dr) :=
  ⟨PE.imp (pe_callTy hc hg hm hv ha.run hn hdb he hpl) fun _ _ _ h => call_imp hw h⟩
theorem rws1 {ι : List Addr} {H : Hp} {w : MV} {vs : List V} (r : RWs G ι H [w] vs) : ∃ v, vs = [v] ∧ RW G ι H w v := by
  cases r with
  | cons r1 r2 => cases r2; exact ⟨_, rfl, r1⟩
theorem rws2 {ι : List Addr} {H : Hp} {w u : MV} {vs : List V} (r : RWs G ι H [w, u] vs) : ∃ v v2, vs = [v, v2] ∧ RW G ι H w v ∧ RW G ι H u v2 := by
  cases r with
  | cons r1 r2 =>
    obtain ⟨v, e, q⟩ := rws1 r2
    subst e
    exact ⟨_, _, rfl, r1, q⟩
def lenM (w : MV) (S : Store) : Option Nat := match w with
  | .str z => if z.length ≤ 100000 then some z.length else none
  | w => (itemsOf w S).map List.length
def fLen : FnM := fun ws S => match ws with
  | [w] => match lenM w S with
    | some n => .ok (.int n) S
    | none => .stuck
  | _ => .stuck
theorem w_len : ClW G fLen (fun xs H Q => ∃ x n, xs = [x] ∧ LenV G.K x H n ∧ Q (.int n) H) := fun ι H S E Q ws vs s r h => by
  unfold fLen at h
  split at h
  · rename_i w
    obtain ⟨v, rfl, r1⟩ := rws1 r
    split at h
    · rename_i n e
      refine ⟨v, n, rfl, ?_, h ι H (.refl s) _ (.int _)⟩
      unfold lenM at e
      split at e
      · cases r1
        split at e
        · rename_i hz
          cases e
          exact ⟨big_ok hz, rfl⟩
        · cases e
      · cases e2 : itemsOf w S with
        | none => rw [e2] at e; cases e
        | some l =>
          rw [e2] at e
          cases e
          obtain ⟨p, us, rfl, t, q⟩ := items_ok s r1 e2
          rcases t with t | t
          · exact .inl ⟨us, t, q.length⟩
          · exact .inr ⟨us, t, q.length⟩
    · exact h.elim
  · exact h.elim
def fIntOf : FnM := fun ws S => match ws with
  | [.int i] => .ok (.int i) S
  | [.bl k] => .ok (.int (if k then 1 else 0)) S
  | _ => .stuck
theorem w_intOf : ClW G fIntOf (fun xs H Q => (∃ i, xs = [.int i] ∧ Q (.int i) H) ∨ ∃ k, xs = [.bl k] ∧ Q (.int (if k then 1 else 0)) H) := fun ι H S E Q ws vs s r h => by
  unfold fIntOf at h
  split at h
  · obtain ⟨v, rfl, r1⟩ := rws1 r
    cases r1
    exact .inl ⟨_, rfl, h ι H (.refl s) _ (.int _)⟩
  · obtain ⟨v, rfl, r1⟩ := rws1 r
    cases r1
    exact .inr ⟨_, rfl, h ι H (.refl s) _ (.int _)⟩
  · exact h.elim
def fTupOf (w : MV) (S : Store) : Res MV := match itemsOf w S with
  | some l => .ok (.tup l) S
  | none => .stuck
theorem de_tupOf {p : Pos} (hK : X.K = G.K) (hg : Gl X "tuple") (hm : X.mg "tuple" = none) (ha : DE X G W a da) (na : starEach [a] X.env = (false, eval a X.env) :: starEach [] X.env := by rfl) : DE X G W (.Call (.Name "tuple" p) [a] [] pos) (dUn fTupOf da) := by
  refine ⟨PE.imp (pe_tupleOf hg hm ha.run na) fun σ H Q h => ?_⟩
  obtain ⟨ι, S, ρ, s, re, h⟩ := h
  refine ⟨ι, S, ρ, s, re, (fin.bind h).mono fun w ι1 H1 S1 p _ h1 v r => ?_⟩
  obtain ⟨S1, s1, _, re1, _, h1⟩ := h1
  unfold fTupOf at h1
  split at h1
  · rename_i l e
    obtain ⟨a, us, rfl, t, q⟩ := items_ok s1 r e
    rw [hK]
    rcases t with t | t
    · exact .inl ⟨a, us, rfl, t, new_tup s1 q h1⟩
    · exact .inr ⟨a, us, rfl, t, h1 ι1 H1 (.refl s1) _ (.tup t q)⟩
  · exact h1.elim
theorem de_len {p : Pos} (hK : X.K = G.K) (hg : Gl X "len") (hm : X.mg "len" = none) (ha : DA X G W (a :: es) dr)
    (he : starEach (a :: es) X.env = (false, eval a X.env) :: starEach es X.env := by rfl) (hpl : (backTo pos (starEach es X.env)).any (·.1) = false := by rfl) : DE X G W (.Call (.Name "len" p) (a :: es) [] pos) (dCall fLen dr) :=
  de_callB call_len (by rw [hK]; exact w_len) hg hm PySem.boot_len ha (by decide) (by decide) he hpl
theorem de_intOf {p : Pos} (hg : Gl X "int") (hm : X.mg "int" = none) (ha : DA X G W (a :: es) dr)
    (he : starEach (a :: es) X.env = (false, eval a X.env) :: starEach es X.env := by rfl) (hpl : (backTo pos (starEach es X.env)).any (·.1) = false := by rfl) : DE X G W (.Call (.Name "int" p) (a :: es) [] pos) (dCall fIntOf dr) :=
  de_callTy call_int1 w_intOf hg hm (by decide +kernel) ha (by decide) (by decide) he hpl
end
end MI
set_option Elab.async false
set_option linter.all false
set_option maxRecDepth 100000
namespace MI
open PySem PySem.Spec PyProof.Rows L2
/-! ### flows -/
inductive Fl where
  | next (ρ : Env') | ret (w : MV) | brk (ρ : Env') | cont (ρ : Env') | exc (c : Str) (fs : List (Str × MV)) (ρ : Env')
abbrev DenS := Env' → Store → Res Fl
def Res.bindS {α : Type} (r : Res α) (ρ : Env') (f : α → Store → Res Fl) : Res Fl :=
  match r with
  | .ok a S => f a S
  | .err c fs S => .ok (.exc c fs ρ) S
  | .stuck => .stuck
abbrev NoE : Value → Option Addr → Hp → Prop := fun _ _ _ => False
def want (G : Gx) (W : WX) (D : Ends) : Fl → List Addr → Hp → Prop
  | .next ρ, ι, H => ∀ σ, RE G ι H ρ σ → D.nx σ H
  | .ret w, ι, H => ∀ v, RW G ι H w v → D.rt v H
  | .brk ρ, ι, H => ∀ σ, RE G ι H ρ σ → D.bk σ H
  | .cont ρ, ι, H => ∀ σ, RE G ι H ρ σ → D.ct σ H
  | .exc c fs ρ, ι, H => ∀ σ cls d, RE G ι H ρ σ → RX G ι H c fs cls d → W cls d σ H
def tS (G : Gx) (W : WX) (d : DenS) : TS := fun D σ H => ∃ ι S ρ, Sim G ι H S ∧ RE G ι H ρ σ ∧ fin G ι H NoE (want G W D) (d ρ S)
structure DS (X : Cx) (G : Gx) (W : WX) (st : Stmt) (d : DenS) : Prop where
  run : PS X st (tS G W d)
structure DSs (X : Cx) (G : Gx) (W : WX) (st : List Stmt) (d : DenS) : Prop where
  run : PSs X st (tS G W d)
section
variable {α : Type} {G : Gx} {W : WX} {ι : List Addr} {H : Hp} {S : Store} {ρ : Env'} {σ : L2.St} {D : Ends}
theorem fin.bindS {r : Res α} {k : α → Store → Res Fl} (re : RE G ι H ρ σ) (h : fin G ι H NoE (want G W D) (r.bindS ρ k)) :
    fin G ι H (fun c x H' => W c x σ H') (fun a ι1 H1 => ∃ S1, Sim G ι1 H1 S1 ∧ RE G ι1 H1 ρ σ ∧ (∀ w v, RW G ι H w v → RW G ι1 H1 w v) ∧ fin G ι1 H1 NoE (want G W D) (k a S1)) r := by
  cases r with
  | ok a S' => exact fun ι' H' p => ⟨S', p.sim, p.re re, fun w v q => p.rw q, fin.later p h⟩
  | err c fs S' => exact fun ι' H' cls d p q => h ι' H' p σ cls d (p.re re) q
  | stuck => exact h
end
section
variable {X : Cx} {G : Gx} {W : WX} {e a b c : Expr} {pos : Pos} {d da db : Den} {st : Stmt} {rest : List Stmt} {s1 s2 : DenS}
def sSeq (x y : DenS) : DenS := fun ρ S => match x ρ S with
  | .ok (.next ρ1) S1 => y ρ1 S1
  | r => r
def sNil : DenS := fun ρ S => .ok (.next ρ) S
theorem dss_nil : DSs X G W [] sNil := ⟨PSs.imp pss_nil fun D σ H h => by
  obtain ⟨ι, S, ρ, s, re, h⟩ := h
  exact h ι H (.refl s) σ re⟩
theorem dss_one (h : DS X G W st s1) : DSs X G W [st] s1 := ⟨pss_one h.run⟩
theorem dss_cons (h1 : DS X G W st s1) (h2 : DSs X G W rest s2) : DSs X G W (st :: rest) (sSeq s1 s2) := ⟨PSs.imp (pss_cons h1.run h2.run) fun D σ H h => by
  obtain ⟨ι, S, ρ, s, re, h⟩ := h
  refine ⟨ι, S, ρ, s, re, ?_⟩
  unfold sSeq at h
  cases r : s1 ρ S with
  | ok fl S' =>
    rw [r] at h
    cases fl with
    | next ρ1 => exact fun ι1 H1 p σ1 re1 => ⟨ι1, S', ρ1, p.sim, re1, fin.later p h⟩
    | ret w => exact fun ι1 H1 p => h ι1 H1 p
    | brk ρ1 => exact fun ι1 H1 p => h ι1 H1 p
    | cont ρ1 => exact fun ι1 H1 p => h ι1 H1 p
    | exc c fs ρ1 => exact fun ι1 H1 p => h ι1 H1 p
  | err c fs S' => rw [r] at h; exact h
  | stuck => rw [r] at h; exact h⟩
def sNever : DenS := fun _ _ => .stuck
theorem ds_never : DS X G W st sNever := ⟨PS.imp ps_never fun D σ H h => by
  obtain ⟨ι, S, ρ, s, re, h⟩ := h
  exact h.elim⟩
def sExpr (d : Den) : DenS := fun ρ S => (d ρ S).bindS ρ fun _ S1 => .ok (.next ρ) S1
theorem ds_expr (ha : DE X G W a da) (hs : swapsWith a none pos.line X.env = pure false := by rfl) : DS X G W (.Expr a pos) (sExpr da) := ⟨PS.imp (ps_expr ha.run hs) fun D σ H h => by
  obtain ⟨ι, S, ρ, s, re, h⟩ := h
  refine ⟨ι, S, ρ, s, re, (fin.bindS re h).mono fun w ι1 H1 S1 p _ h1 v r => ?_⟩
  obtain ⟨S1, s1, re1, _, h1⟩ := h1
  exact h1 ι1 H1 (.refl s1) σ re1⟩
def sRet (d : Den) : DenS := fun ρ S => (d ρ S).bindS ρ fun w S1 => .ok (.ret w) S1
theorem ds_ret (ha : DE X G W a da) : DS X G W (.Return (some a) pos) (sRet da) := ⟨PS.imp (ps_ret ha.run) fun D σ H h => by
  obtain ⟨ι, S, ρ, s, re, h⟩ := h
  refine ⟨ι, S, ρ, s, re, (fin.bindS re h).mono fun w ι1 H1 S1 p _ h1 v r => ?_⟩
  obtain ⟨S1, s1, re1, _, h1⟩ := h1
  exact h1 ι1 H1 (.refl s1) v r⟩
def sIf (t : DenB) (x y : DenS) : DenS := fun ρ S => (t ρ S).bindS ρ fun k S1 => if k = true then x ρ S1 else y ρ S1
variable {p q : List Stmt} {dt : DenB}
theorem ds_if (hc : DT X G W c dt) (ha : DSs X G W p s1) (hb : DSs X G W q s2) : DS X G W (.If c p q pos) (sIf dt s1 s2) := ⟨PS.imp (ps_if hc.run ha.run hb.run) fun D σ H h => by
  obtain ⟨ι, S, ρ, s, re, h⟩ := h
  refine ⟨ι, S, ρ, s, re, (fin.bindS re h).mono fun k ι1 H1 S1 p _ h1 => ?_⟩
  obtain ⟨S1, s1, re1, _, h1⟩ := h1
  cases k with
  | true => exact ⟨ι1, S1, ρ, s1, re1, h1⟩
  | false => exact ⟨ι1, S1, ρ, s1, re1, h1⟩⟩
/-! ### targets: vs are the slots that it stores -/
abbrev DenG := MV → Env' → Store → Res Env'
def tG (G : Gx) (vs : List Nat) (g : DenG) : TG := fun v σ H Q => ∃ ι S ρ w, Sim G ι H S ∧ RE G ι H ρ σ ∧ RW G ι H w v ∧
  fin G ι H NoE (fun ρ' ι' H' => ∀ σ', RE G ι' H' ρ' σ' → (∀ j, j ∉ vs → σ'[j]? = σ[j]?) → σ'.length = σ.length → Q σ' H') (g w ρ S)
structure DG (X : Cx) (G : Gx) (e : Expr) (vs : List Nat) (g : DenG) : Prop where
  run : PG X e (tG G vs g)
theorem PG.imp {X : Cx} {e : Expr} {t t' : TG} (h : PG X e t) (k : ∀ v σ H Q, t' v σ H Q → t v σ H Q) : PG X e t' := ⟨fun pins s σ H v u Q I r q => h.run pins s σ H v u Q I r (k v σ H Q q)⟩
def gN (i : Nat) : DenG := fun w ρ S => .ok (ρ.set i (some w)) S
theorem dg_name (i : Nat) {x : Str} (hN : X.N.Nodup) (hi : X.N[i]? = some x := by rfl) (hx : Loc X.env.scope x := by first | exact Or.inl rfl | exact Or.inr rfl) (hf : X.fn x = true ∨ X.env.scope.names.lookup x = some .local := by first | exact .inl rfl | exact .inr rfl) : DG X G (.Name x pos) [i] (gN i) := by
  refine ⟨PG.imp (pg_name (i := i) hN hi hx hf) fun v σ H Q h => ?_⟩
  obtain ⟨ι, S, ρ, w, s, re, r, h⟩ := h
  refine h ι H (.refl s) _ (re.set r i) (fun j hj => ?_) (by simp)
  rw [List.getElem?_set_ne (by intro z; exact hj (by simp [z]))]
abbrev DenGs := List MV → Env' → Store → Res Env'
def tGs (G : Gx) (vs : List Nat) (g : DenGs) : TGs := fun v σ H Q => ∃ ι S ρ w, Sim G ι H S ∧ RE G ι H ρ σ ∧ RWs G ι H w v ∧
  fin G ι H NoE (fun ρ' ι' H' => ∀ σ', RE G ι' H' ρ' σ' → (∀ j, j ∉ vs → σ'[j]? = σ[j]?) → σ'.length = σ.length → Q σ' H') (g w ρ S)
structure DGs (X : Cx) (G : Gx) (es : List Expr) (vs : List Nat) (g : DenGs) : Prop where
  run : PGs X es (tGs G vs g)
theorem PGs.imp {X : Cx} {e : List Expr} {t t' : TGs} (h : PGs X e t) (k : ∀ v σ H Q, t' v σ H Q → t v σ H Q) : PGs X e t' := ⟨fun pins s σ H v u Q I r q => h.run pins s σ H v u Q I r (k v σ H Q q)⟩
def gsNil : DenGs := fun ws ρ S => match ws with
  | [] => .ok ρ S
  | _ => .stuck
def gsCons (g : DenG) (r : DenGs) : DenGs := fun ws ρ S => match ws with
  | w :: ws => match g w ρ S with
    | .ok ρ1 S1 => r ws ρ1 S1
    | _ => .stuck
  | [] => .stuck
theorem dgs_nil : DGs X G [] [] gsNil := ⟨PGs.imp pgs_nil fun v σ H Q h => by
  obtain ⟨ι, S, ρ, w, s, re, r, h⟩ := h
  unfold gsNil at h
  split at h
  · cases r
    exact ⟨rfl, h ι H (.refl s) σ re (fun _ _ => rfl) rfl⟩
  · exact h.elim⟩
theorem RWs.later {ι ι' : List Addr} {H H' : Hp} {S' : Store} {ws : List MV} {vs : List V} (p : Post G ι H ι' H' S') (r : RWs G ι H ws vs) : RWs G ι' H' ws vs := p.rws r
theorem dgs_cons {es : List Expr} {vs us : List Nat} {g : DenG} {r : DenGs} (h1 : DG X G e vs g) (h2 : DGs X G es us r) (hs : (assignEach (e :: es) X.env).map (·.2) = assign e X.env :: (assignEach es X.env).map (·.2) := by rfl) : DGs X G (e :: es) (vs ++ us) (gsCons g r) := ⟨PGs.imp (pgs_cons h1.run h2.run hs) fun v σ H Q h => by
  obtain ⟨ι, S, ρ, w, s, re, rw', h⟩ := h
  unfold gsCons at h
  split at h
  · rename_i w ws
    cases rw' with
    | cons r1 r2 =>
      refine ⟨_, _, rfl, ι, S, ρ, w, s, re, r1, ?_⟩
      cases e2 : g w ρ S with
      | ok ρ1 S1 =>
        rw [e2] at h
        refine fun ι1 H1 p σ1 re1 hv hl => ⟨ι1, S1, ρ1, ws, p.sim, re1, p.rws r2, (fin.later p h).mono fun ρ2 ι2 H2 S2 p2 _ h2 σ2 re2 hv2 hl2 => ?_⟩
        refine h2 σ2 re2 (fun j hj => ?_) (hl2.trans hl)
        rw [List.mem_append, not_or] at hj
        exact (hv2 j hj.2).trans (hv j hj.1)
      | err c fs S1 => rw [e2] at h; exact h.elim
      | stuck => rw [e2] at h; exact h.elim
  · exact h.elim⟩
def gT (r : DenGs) : DenG := fun w ρ S => match w with
  | .tup l => r l ρ S
  | _ => .stuck
theorem dg_tup {es : List Expr} {k : Nat} {vs : List Nat} {r : DenGs} {n : Nat} (hK : X.K = G.K) (hc : X.calm = true) (h : DGs X G es vs r) (hl : ∀ l ρ S, r l ρ S ≠ .stuck → l.length = n)
    (hn : (assignEach es X.env).length = n := by rfl) (hst : (assignEach es X.env).findIdx? (·.1) = none := by rfl) : DG X G (.Tuple es k pos) vs (gT r) := by
  refine ⟨PG.imp (pg_tup hc h.run hn hst) fun v σ H Q h => ?_⟩
  obtain ⟨ι, S, ρ, w, s, re, rw', h⟩ := h
  unfold gT at h
  split at h
  · rename_i l
    cases rw' with
    | tup t q =>
      refine ⟨_, _, rfl, by rw [hK]; exact t, ?_, ι, S, ρ, l, s, re, q, h⟩
      rw [← q.length]
      exact hl l ρ S fun z => by rw [z] at h; exact h
  · exact h.elim
theorem gs_len0 : ∀ l ρ S, gsNil l ρ S ≠ .stuck → l.length = 0 := fun l ρ S h => by
  cases l with
  | nil => rfl
  | cons a l => exact absurd rfl h
theorem gs_len {g : DenG} {r : DenGs} {n : Nat} (hr : ∀ l ρ S, r l ρ S ≠ .stuck → l.length = n) : ∀ l ρ S, gsCons g r l ρ S ≠ .stuck → l.length = n + 1 := fun l ρ S h => by
  cases l with
  | nil => exact absurd rfl h
  | cons w l =>
    unfold gsCons at h
    dsimp only at h
    cases e : g w ρ S with
    | ok ρ1 S1 =>
      rw [e] at h
      rw [List.length_cons, hr l ρ1 S1 h]
    | err c fs S1 => rw [e] at h; exact absurd rfl h
    | stuck => rw [e] at h; exact absurd rfl h
def fSet (o i w : MV) (S : Store) : Option Store := match o with
  | .ref n => match S[n]?, i with
    | some (.lst l), .int k => match ixN l.length k with
      | some j => some (S.set n (.lst (l.set j w)))
      | none => none
    | some (.dic kvs), i => match keyM i with
      | some k => if kvs.length ≤ 100000 then some (S.set n (.dic (putM kvs k w))) else none
      | none => none
    | _, _ => none
  | _ => none
def gS (o i : Den) : DenG := fun w ρ S => match o ρ S with
  | .ok ov S1 => match i ρ S1 with
    | .ok iv S2 => match fSet ov iv w S2 with
      | some S3 => .ok ρ S3
      | none => .stuck
    | _ => .stuck
  | _ => .stuck
theorem PSet.or {t t' : TSet} (h : PSet X t) (h' : PSet X t') : PSet X (fun o i v H Q => t o i v H Q ∨ t' o i v H Q) := fun pins s σ H o i v ov iv u Q I ro ri rv q => by
  rcases q with q | q
  · exact h pins s σ H o i v ov iv u Q I ro ri rv q
  · exact h' pins s σ H o i v ov iv u Q I ro ri rv q
theorem set_dic (hu : X.A.units + 1 < cLine) : PSet X (fun o i v H Q => ∃ a H4, o = .ref a ∧ DPut H a i v H4 ∧ Q H4) := fun pins s σ H o i v ov iv u Q I ro ri rv q => by
  obtain ⟨a, H4, rfl, g, q⟩ := q
  cases ro
  exact d_setItem hu I g ri rv fun s4 I4 => ⟨H4, I4, q⟩
theorem set_w {ι : List Addr} {H : Hp} {S S3 : Store} {w1 w2 w3 : MV} {v1 v2 v3 : V} {Q : Hp → Prop} (s : Sim G ι H S) (r1 : RW G ι H w1 v1) (r2 : RW G ι H w2 v2) (r3 : RW G ι H w3 v3) (e : fSet w1 w2 w3 S = some S3) (h : ∀ H', Post G ι H ι H' S3 → Q H') :
    rSetL v1 v2 v3 H Q ∨ ∃ a H4, v1 = .ref a ∧ DPut H a v2 v3 H4 ∧ Q H4 := by
  unfold fSet at e
  split at e
  · cases r1 with
    | ref i =>
      split at e
      · rename_i l k hS
        obtain ⟨vs, g, q⟩ := s.obj _ _ _ hS i
        cases r2
        split at e
        · rename_i j hj
          cases e
          refine .inl ⟨_, _, _, _, rfl, rfl, g, by rw [← q.length]; exact hj, h _ (s.write i g (fun _ z => by cases z) (fun _ _ z => by cases z) ?_)⟩
          have t := sqT_upd (K := G.K) (ho := .lst (vs.set j v3)) (noTup_of g (fun _ z => by cases z) (fun _ _ z => by cases z))
          exact ⟨_, upd_same, (RWs.set r3 j q).mono (fun _ _ e => e) t⟩
        · cases e
      · rename_i kvs hS
        obtain ⟨kv, g, q1, q2⟩ := s.obj _ _ _ hS i
        split at e
        · rename_i k hk
          split at e
          · rename_i hz
            cases e
            have ev := key_ok r2 hk
            subst ev
            have hl : kv.length = kvs.length := by
              have := congrArg List.length q1
              simpa using this
            refine .inr ⟨_, _, rfl, .k g (by rw [hl]; exact Nat.lt_of_le_of_lt hz (by rw [sizeLine_eq]; decide)), h _ (s.write i g (fun _ z => by cases z) (fun _ _ z => by cases z) ?_)⟩
            have t := sqT_upd (K := G.K) (ho := .dK (putK kv k v3)) (noTup_of g (fun _ z => by cases z) (fun _ _ z => by cases z))
            obtain ⟨p1, p2⟩ := kvs_put (k := k) r3 q1 q2
            exact ⟨_, upd_same, p1, p2.mono (fun _ _ e => e) t⟩
          · cases e
        · cases e
      · cases e
  · cases e
theorem dg_sub {o i : Expr} {dO dI : Den} (hu : X.A.units + 64 < cLine) (ho : DE X G W o dO) (hi : DE X G W i dI)
    (ha : ∀ v, assign (.Subscript o i pos) X.env v = (do
      let ov ← holding [v] (eval o X.env)
      let iv ← holding [v, ov] (eval i X.env)
      standAt pos
      holding [v, ov, iv] (setItem ov iv v)
      release [v, ov, iv] []) := by intro _; rfl) : DG X G (.Subscript o i pos) [] (gS dO dI) := by
  refine ⟨PG.imp (pg_sub ho.run hi.run (PSet.or set_list (set_dic (by omega))) ha) fun v σ H Q h => ?_⟩
  obtain ⟨ι, S, ρ, w, s, re, r, h⟩ := h
  refine ⟨ι, S, ρ, s, re, ?_⟩
  unfold gS at h
  cases e1 : dO ρ S with
  | ok ov S1 =>
    rw [e1] at h
    dsimp only at h
    refine fun ι1 H1 p1 v1 r1 => ⟨ι1, S1, ρ, p1.sim, p1.re re, ?_⟩
    cases e2 : dI ρ S1 with
    | ok iv S2 =>
      rw [e2] at h
      dsimp only at h
      refine fun ι2 H2 p2 v2 r2 => ?_
      cases e3 : fSet ov iv w S2 with
      | some S3 =>
        rw [e3] at h
        refine set_w p2.sim (p2.rw r1) r2 (p2.rw (p1.rw r)) e3 fun H' p3 => ?_
        have pp := (p1.trans p2).trans p3
        exact h ι2 H' pp σ (pp.re re) (fun _ _ => rfl) rfl
      | none => rw [e3] at h; exact h.elim
    | err c fs S2 => rw [e2] at h; exact h.elim
    | stuck => rw [e2] at h; exact h.elim
  | err c fs S1 => rw [e1] at h; exact h.elim
  | stuck => rw [e1] at h; exact h.elim
def sAsg (d : Den) (g : DenG) : DenS := fun ρ S => (d ρ S).bindS ρ fun w S1 => match g w ρ S1 with
  | .ok ρ1 S2 => .ok (.next ρ1) S2
  | _ => .stuck
theorem asg_imp {tg : Expr} {vs : List Nat} {g : DenG} {D : Ends} {σ : L2.St} {H : Hp} (h : tS G W (sAsg da g) D σ H) : tAsg (tD G W da) (tG G vs g) D σ H := by
  obtain ⟨ι, S, ρ, s, re, h⟩ := h
  refine ⟨ι, S, ρ, s, re, (fin.bindS re h).mono fun w ι1 H1 S1 p _ h1 v r => ?_⟩
  obtain ⟨S1, s1, re1, _, h1⟩ := h1
  refine ⟨ι1, S1, ρ, w, s1, re1, r, ?_⟩
  cases e : g w ρ S1 with
  | ok ρ1 S2 =>
    rw [e] at h1
    exact fun ι2 H2 p2 σ2 re2 _ _ => h1 ι2 H2 p2 σ2 re2
  | err c fs S2 => rw [e] at h1; exact h1.elim
  | stuck => rw [e] at h1; exact h1.elim
theorem ds_asg {tg : Expr} {vs : List Nat} {g : DenG} (ha : DE X G W a da) (hg : DG X G tg vs g) (hs : swapsWithSole [tg] a pos.line X.env = pure false := by rfl) (hw : swappedStores [tg] a X.env = pure none := by rfl)
    (h1 : (assignEach [tg] X.env).map (·.2) = [assign tg X.env] := by rfl) : DS X G W (.Assign [tg] a pos) (sAsg da g) := ⟨PS.imp (ps_asg ha.run hg.run hs hw h1) fun D σ H h => asg_imp (tg := tg) h⟩
theorem ds_set (i : Nat) {x : Str} {pos' : Pos} (hN : X.N.Nodup) (ha : DE X G W a da) (hi : X.N[i]? = some x := by rfl) (hx : Loc X.env.scope x := by first | exact Or.inl rfl | exact Or.inr rfl) (hs : swapsWith a (some (.Name x pos')) pos.line X.env = pure false := by rfl)
    (hf : X.fn x = true ∨ X.env.scope.names.lookup x = some .local := by first | exact .inl rfl | exact .inr rfl) : DS X G W (.Assign [.Name x pos'] a pos) (sAsg da (gN i)) := ⟨PS.imp (ps_set (i := i) hN hi hx ha.run hs hf) fun D σ H h => by
  obtain ⟨ι, S, ρ, s, re, h⟩ := h
  refine ⟨ι, S, ρ, s, re, (fin.bindS re h).mono fun w ι1 H1 S1 p _ h1 v r => ?_⟩
  obtain ⟨S1, s1, re1, _, h1⟩ := h1
  exact h1 ι1 H1 (.refl s1) _ (re1.set r i)⟩
def sPar (i j : Nat) (da : DenL) : DenS := fun ρ S => (da ρ S).bindS ρ fun ws S1 => match ws with
  | [x, y] => .ok (.next ((ρ.set i (some x)).set j (some y))) S1
  | _ => .stuck
--PAR
end
end MI
set_option Elab.async false
set_option linter.all false
set_option maxRecDepth 100000
namespace MI
open PySem PySem.Spec PyProof.Rows L2
section
variable {X : Cx} {G : Gx} {W : WX} {e a b c : Expr} {pos : Pos} {d da db : Den} {dr : DenL}
def sPar3 (i j l : Nat) (da : DenL) : DenS := fun ρ S => (da ρ S).bindS ρ fun ws S1 => match ws with
  | [x, y, z] => .ok (.next (((ρ.set i (some x)).set j (some y)).set l (some z))) S1
  | _ => .stuck
/-! ### what a loop walks -/
inductive Nx where
  | yield (w : MV) | stop | stuck
abbrev Src := Nat → Store → Nx
def ItOk (G : Gx) (ι : List Addr) (H : Hp) (J : It) (nx : Src) : Prop := ∀ (i : Nat) (ι1 : List Addr) (H1 : Hp) (S1 : Store), Post G ι H ι1 H1 S1 → match nx i S1 with
  | .yield w => J.go i H1 ∧ ∀ x H', J.yld i H1 x H' → Post G ι1 H1 ι1 H' S1 ∧ RW G ι1 H' w x
  | .stop => J.stop i H1
  | .stuck => True
theorem ItOk.later {ι ι1 : List Addr} {H H1 : Hp} {S1 : Store} {J : It} {nx : Src} (k : ItOk G ι H J nx) (p : Post G ι H ι1 H1 S1) : ItOk G ι1 H1 J nx := fun i ι2 H2 S2 p2 => k i ι2 H2 S2 (p.trans p2)
abbrev DenI := Env' → Store → Res Src
def tI (G : Gx) (W : WX) (d : DenI) : TI := fun σ H R => ∃ ι S ρ, Sim G ι H S ∧ RE G ι H ρ σ ∧ fin G ι H (fun c x H' => W c x σ H') (fun nx ι' H' => ∀ J, ItOk G ι' H' J nx → R J H') (d ρ S)
structure DI (X : Cx) (G : Gx) (W : WX) (tg : Expr) (e : Expr) (d : DenI) : Prop where
  run : PI X tg e (tI G W d)
theorem PI.imp {X : Cx} {tg e : Expr} {t t' : TI} (h : PI X tg e t) (k : ∀ σ H Q, t' σ H Q → t σ H Q) : PI X tg e t' := ⟨fun pins s σ H Q I q => h.run pins s σ H Q I (k σ H Q q)⟩
def srcL (l : List MV) : Src := fun i _ => match l[i]? with
  | some w => .yield w
  | none => .stop
def srcRef (n : Nat) : Src := fun i S => match S[n]? with
  | some (.lst l) => (match l[i]? with
    | some w => .yield w
    | none => .stop)
  | some (.rol l) => (match l[i]? with
    | some w => .yield w
    | none => .stop)
  | _ => .stuck
def srcStr (z : Str) : Src := fun i _ => match z.cps[i]? with
  | some c => .yield (.str ⟨#[c]⟩)
  | none => .stop
def srcRng (lo hi : Int) : Src := fun i _ => if i < (hi - lo).toNat then .yield (.int (lo + i)) else .stop
def iAny (K : PySem.W.Frag) (tl : TE) : TI := fun σ H R => tl σ H fun x H1 => (∃ a xs, x = .ref a ∧ SqL K H1 a xs ∧ R (Itl K a) H1) ∨ (∃ a xs, x = .ref a ∧ SqT K H1 a xs ∧ R (Itt K a) H1) ∨ ∃ z, x = .str z ∧ R (Its z) H1
theorem pi_any {tg l : Expr} {tl : TE} (hl : PE X l tl) : PI X tg l (iAny X.K tl) := by
  constructor
  intro pins s σ H R I h
  refine thn (hl.run pins s σ H _ I h) fun v s1 q1 => ?_
  obtain ⟨x, H1, I1, r1, q1⟩ := q1
  rcases q1 with ⟨a, xs, rfl, hq, q⟩ | ⟨a, xs, rfl, hq, q⟩ | ⟨z, rfl, q⟩
  · cases r1
    obtain ⟨its, _, pl, _⟩ := I1.list hq
    refine wpAny_pyIter_list pl.isList ?_
    refine ⟨_, [s1.heap.objs.size], _, _, H1, rfl, I1.kept (t' := s1.toks) (fun b o e => Heap.get?_push_of_some _ e), turn_list a _, ⟨_, Heap.get?_push_size _ rfl, rfl, rfl⟩, ?_, q⟩
    intro b hb
    rw [List.mem_singleton] at hb
    rw [hb]
    exact I1.fpOk (Nat.le_refl _) (I1.hok.fresh (Nat.le_refl _))
  · cases r1
    obtain ⟨its, _, pl, _⟩ := I1.tuple hq
    refine wpAny_pyIter_tuple (show s1.heap.IsTuple a its.toArray from pl) ?_
    refine ⟨_, [s1.heap.objs.size], _, _, H1, rfl, I1.kept (t' := s1.toks) (fun b o e => Heap.get?_push_of_some _ e), turn_tuple a _, ⟨_, Heap.get?_push_size _ rfl, rfl, rfl⟩, ?_, q⟩
    intro b hb
    rw [List.mem_singleton] at hb
    rw [hb]
    exact I1.fpOk (Nat.le_refl _) (I1.hok.fresh (Nat.le_refl _))
  · obtain ⟨t, rfl⟩ := r1
    by_cases ha : z.cps.all (· < 128) = true
    · exact wpAny_pyIter_ascii ha (pi_one (tk := s1.toks) I1 _ (turn_str _ z t "str_ascii_iterator" (.inl rfl)) ⟨_, Heap.get?_push_size _ rfl, rfl, rfl⟩ q)
    · have ha' : z.cps.all (· < 128) = false := by simpa using ha
      exact wpAny_pyIter_wide ha' (pi_one (tk := s1.toks) I1 _ (turn_str _ z t "str_iterator" (.inr rfl)) ⟨_, Heap.get?_push_size _ rfl, rfl, rfl⟩ q)
def srcOf (w : MV) (S : Store) : Res Src := match w with
  | .tup l => .ok (srcL l) S
  | .str z => .ok (srcStr z) S
  | .ref n => match S[n]? with
    | some (.lst _) => .ok (srcRef n) S
    | some (.rol _) => .ok (srcRef n) S
    | _ => .stuck
  | _ => .stuck
def iAnyD (d : Den) : DenI := fun ρ S => (d ρ S).bind srcOf
theorem it_tup {K : PySem.W.Frag} (hK : K = G.K) {ι : List Addr} {H : Hp} {a : Addr} {vs : List V} {l : List MV} (t : SqT K H a vs) (q : RWs G ι H l vs) : ItOk G ι H (Itt K a) (srcL l) := fun i ι1 H1 S1 p => by
  subst hK
  have t1 := p.tup _ _ t
  have q1 := p.rws q
  unfold srcL
  cases e : l[i]? with
  | some w =>
    obtain ⟨v, e2, r⟩ := q1.get e
    refine ⟨⟨vs, v, t1, e2⟩, fun x H' y => ?_⟩
    obtain ⟨rfl, y⟩ := y
    have := y vs t1
    rw [e2] at this
    cases this
    exact ⟨.refl p.sim, r⟩
  | none =>
    refine ⟨vs, t1, ?_⟩
    rw [← q1.length]
    exact List.getElem?_eq_none_iff.mp e
theorem it_lst {K : PySem.W.Frag} (hK : K = G.K) {ι : List Addr} {H : Hp} {a : Addr} {n : Nat} (t : ι[n]? = some a) : ItOk G ι H (Itl K a) (srcRef n) := fun i ι1 H1 S1 p => by
  subst hK
  have t1 := p.ext _ _ t
  have main : ∀ (l : List MV) (vs : List V), SqL G.K H1 a vs → RWs G ι1 H1 l vs → (match (match l[i]? with
    | some w => Nx.yield w
    | none => .stop) with
    | .yield w => (Itl G.K a).go i H1 ∧ ∀ x H', (Itl G.K a).yld i H1 x H' → Post G ι1 H1 ι1 H' S1 ∧ RW G ι1 H' w x
    | .stop => (Itl G.K a).stop i H1
    | .stuck => True) := fun l vs hs q1 => by
    cases e : l[i]? with
    | some w =>
      obtain ⟨v, e2, r⟩ := q1.get e
      refine ⟨⟨vs, v, hs, e2⟩, fun x H' y => ?_⟩
      obtain ⟨rfl, y⟩ := y
      have := y vs hs
      rw [e2] at this
      cases this
      exact ⟨.refl p.sim, r⟩
    | none =>
      refine ⟨vs, hs, ?_⟩
      rw [← q1.length]
      exact List.getElem?_eq_none_iff.mp e
  unfold srcRef
  cases hS : S1[n]? with
  | none => trivial
  | some o =>
    cases o with
    | lst l =>
      obtain ⟨vs, g, q1⟩ := p.sim.obj _ _ _ hS t1
      exact main l vs (.of g) q1
    | rol l =>
      obtain ⟨o, vs, g, q1, _⟩ := p.sim.obj _ _ _ hS t1
      exact main l vs (.inl (.inr ⟨o, g⟩)) q1
    | dic kvs => trivial
    | ins c fs => trivial
    | tpo l => trivial
    | tpp l => trivial
    | dct kvs => trivial
    | fdt kvs => trivial
    | set zs => trivial
theorem di_any {tg : Expr} (hK : X.K = G.K) (ha : DE X G W a da) : DI X G W tg a (iAnyD da) := ⟨PI.imp (pi_any ha.run) fun σ H R h => by
  obtain ⟨ι, S, ρ, s, re, h⟩ := h
  refine ⟨ι, S, ρ, s, re, (fin.bind h).mono fun w ι1 H1 S1 p _ h1 v r => ?_⟩
  obtain ⟨S1, s1, _, _, _, h1⟩ := h1
  unfold srcOf at h1
  split at h1
  · cases r with
    | tup t q => exact .inr (.inl ⟨_, _, rfl, by rw [hK]; exact t, h1 ι1 H1 (.refl s1) _ (it_tup hK (by rw [hK]; exact t) q)⟩)
  · cases r
    refine .inr (.inr ⟨_, rfl, h1 ι1 H1 (.refl s1) _ fun i ι2 H2 S2 p2 => ?_⟩)
    rename_i z _ _
    unfold srcStr
    cases e : z.cps[i]? with
    | some c =>
      refine ⟨(Array.getElem?_eq_some_iff.mp e).1, fun x H' y => ?_⟩
      obtain ⟨rfl, c', e', rfl⟩ := y
      rw [e] at e'
      cases e'
      exact ⟨.refl p2.sim, .str _⟩
    | none => exact Array.getElem?_eq_none_iff.mp e
  · cases r with
    | ref i =>
      split at h1
      · rename_i l hS
        obtain ⟨vs, g, q⟩ := s1.obj _ _ _ hS i
        exact .inl ⟨_, vs, rfl, .of g, h1 ι1 H1 (.refl s1) _ (it_lst hK i)⟩
      · rename_i l hS
        obtain ⟨o, vs, g, q, _⟩ := s1.obj _ _ _ hS i
        exact .inl ⟨_, vs, rfl, .inl (.inr ⟨o, g⟩), h1 ι1 H1 (.refl s1) _ (it_lst hK i)⟩
      · exact h1.elim
  · exact h1.elim⟩
def rng1 (ws : List MV) (S : Store) : Res Src := match ws with
  | [.int j] => if decide (-100000 ≤ j) && decide (j ≤ 100000) then .ok (srcRng 0 j) S else .stuck
  | _ => .stuck
def rng2 (ws : List MV) (S : Store) : Res Src := match ws with
  | [.int i, .int j] => if (decide (-100000 ≤ i) && decide (i ≤ 100000)) && (decide (-100000 ≤ j) && decide (j ≤ 100000)) then .ok (srcRng i j) S else .stuck
  | _ => .stuck
def iRng (f : List MV → Store → Res Src) (d : DenL) : DenI := fun ρ S => (d ρ S).bind f
theorem it_rng {ι : List Addr} {H : Hp} (lo hi : Int) : ItOk G ι H (Itr lo (hi - lo).toNat) (srcRng lo hi) := fun i ι1 H1 S1 p => by
  unfold srcRng
  by_cases hl : i < (hi - lo).toNat
  · rw [if_pos hl]
    refine ⟨hl, fun x H' y => ?_⟩
    obtain ⟨rfl, rfl⟩ := y
    exact ⟨.refl p.sim, .int _⟩
  · rw [if_neg hl]
    exact Nat.le_of_not_lt hl
theorem di_rng1 {tg : Expr} {p : Pos} (hg : Gl X "range") (hm : X.mg "range" = none) (ha : DA X G W [a] dr) (hs : starEach [a] X.env = [(false, eval a X.env)] := by rfl) : DI X G W tg (.Call (.Name "range" p) [a] [] pos) (iRng rng1 dr) := ⟨PI.imp (pi_range1 hg hm ha.run hs) fun σ H R h => by
  obtain ⟨ι, S, ρ, s, re, h⟩ := h
  refine ⟨ι, S, ρ, s, re, (fin.bind h).mono fun ws ι1 H1 S1 p _ h1 vs r => ?_⟩
  obtain ⟨S1, s1, _, _, _, h1⟩ := h1
  unfold rng1 at h1
  split at h1
  · split at h1
    · rename_i j _ _ hz
      rw [Bool.and_eq_true] at hz
      have z1 := of_decide_eq_true hz.1
      have z2 := of_decide_eq_true hz.2
      obtain ⟨v, rfl, r1⟩ := rws1 r
      cases r1
      refine ⟨j, rfl, by omega, by omega, h1 ι1 H1 (.refl s1) _ ?_⟩
      have := it_rng (G := G) (ι := ι1) (H := H1) 0 j
      rw [Int.sub_zero] at this
      exact this
    · exact h1.elim
  · exact h1.elim⟩
/-! ### for -/
def forM (nx : Src) (g : DenG) (body : DenS) : Nat → Nat → DenS
  | 0, _ => fun _ _ => .stuck
  | f + 1, i => fun ρ S => match nx i S with
    | .stop => .ok (.next ρ) S
    | .stuck => .stuck
    | .yield w => match g w ρ S with
      | .ok ρ1 S1 => match body ρ1 S1 with
        | .ok (.next ρ2) S2 => forM nx g body f (i + 1) ρ2 S2
        | .ok (.cont ρ2) S2 => forM nx g body f (i + 1) ρ2 S2
        | .ok (.brk ρ2) S2 => .ok (.next ρ2) S2
        | r => r
      | _ => .stuck
def sFor (f : Nat) (it : DenI) (g : DenG) (body : DenS) : DenS := fun ρ S => (it ρ S).bindS ρ fun nx S1 => forM nx g body f 0 ρ S1
theorem ds_for {f : Nat} {tg iter : Expr} {body : List Stmt} {it : DenI} {vs : List Nat} {g : DenG} {sb : DenS} (hp : PassesOwn (model X.prog X.w) X.A X.env X.xe) (hc : X.calm = true) (hi : DI X G W tg iter it) (hg : DG X G tg vs g) (hb : DSs X G W body sb)
    (hs : ∀ x, foldedSetIterable iter X.env x = pure x := by intro _; rfl) : DS X G W (.For tg iter body [] pos) (sFor f it g sb) := ⟨PS.imp (ps_for hp hc hi.run hg.run hb.run hs) fun D σ H h => by
  obtain ⟨ι, S, ρ, s, re, h⟩ := h
  refine ⟨ι, S, ρ, s, re, (fin.bindS re h).mono fun nx ι1 H1 S1 p _ h1 J hJ => ?_⟩
  obtain ⟨S1, s1, re1, _, h1⟩ := h1
  refine ⟨fun i m σ2 H2 => ∃ ι2 S2 ρ2, Post G ι1 H1 ι2 H2 S2 ∧ RE G ι2 H2 ρ2 σ2 ∧ fin G ι2 H2 NoE (want G W D) (forM nx g sb m i ρ2 S2), ⟨f, ι1, S1, ρ, .refl s1, re1, h1⟩, ?_⟩
  rintro i m σ2 H2 ⟨ι2, S2, ρ2, p2, re2, h2⟩
  have kJ := hJ i ι2 H2 S2 p2
  cases m with
  | zero => exact h2.elim
  | succ m =>
    unfold forM at h2
    cases e : nx i S2 with
    | stop =>
      rw [e] at h2 kJ
      exact .inl ⟨kJ, h2 ι2 H2 (.refl p2.sim) σ2 re2⟩
    | stuck => rw [e] at h2; exact h2.elim
    | yield w =>
      rw [e] at h2 kJ
      dsimp only at h2 kJ
      refine .inr ⟨kJ.1, fun σ3 H3 => ∃ ι3 S3 ρ3, Post G ι1 H1 ι3 H3 S3 ∧ RE G ι3 H3 ρ3 σ3 ∧ fin G ι3 H3 NoE (want G W D) (forM nx g sb m (i + 1) ρ3 S3), fun σ3 H3 n => ⟨m, Nat.lt_succ_self _, n⟩, fun x H3 y => ?_⟩
      obtain ⟨p3, r3⟩ := kJ.2 x H3 y
      refine ⟨ι2, S2, ρ2, w, p3.sim, p3.re re2, r3, ?_⟩
      have p23 := p2.trans p3
      cases e1 : g w ρ2 S2 with
      | err c fs S' => rw [e1] at h2; exact h2.elim
      | stuck => rw [e1] at h2; exact h2.elim
      | ok ρ4 S4 =>
        rw [e1] at h2
        dsimp only at h2
        refine fun ι4 H4 p4 σ4 re4 _ _ => ⟨ι4, S4, ρ4, p4.sim, re4, ?_⟩
        have p34 := p3.trans p4
        cases e2 : sb ρ4 S4 with
        | err c fs S' => rw [e2] at h2; exact fin.later p34 h2
        | stuck => rw [e2] at h2; exact h2.elim
        | ok fl S5 =>
          rw [e2] at h2
          cases fl with
          | next ρ5 => exact fun ι5 H5 p5 σ5 re5 => ⟨ι5, S5, ρ5, (p23.trans p4).trans p5, re5, fin.later (p34.trans p5) h2⟩
          | cont ρ5 => exact fun ι5 H5 p5 σ5 re5 => ⟨ι5, S5, ρ5, (p23.trans p4).trans p5, re5, fin.later (p34.trans p5) h2⟩
          | brk ρ5 => exact fun ι5 H5 p5 σ5 re5 => h2 ι5 H5 (p34.trans p5) σ5 re5
          | ret w' => exact fun ι5 H5 p5 => h2 ι5 H5 (p34.trans p5)
          | exc c fs ρ5 => exact fun ι5 H5 p5 => h2 ι5 H5 (p34.trans p5)⟩
/-! ### while -/
def whM (t : DenB) (body : DenS) : Nat → DenS
  | 0 => fun _ _ => .stuck
  | f + 1 => fun ρ S => (t ρ S).bindS ρ fun k S1 => if k = true then (match body ρ S1 with
      | .ok (.next ρ2) S2 => whM t body f ρ2 S2
      | .ok (.cont ρ2) S2 => whM t body f ρ2 S2
      | .ok (.brk ρ2) S2 => .ok (.next ρ2) S2
      | r => r) else .ok (.next ρ) S1
theorem ds_while {f : Nat} {body : List Stmt} {dt : DenB} {sb : DenS} (hp : PassesOwn (model X.prog X.w) X.A X.env X.xe) (hc : DT X G W c dt) (hb : DSs X G W body sb) : DS X G W (.While c body [] pos) (whM dt sb f) := ⟨PS.imp (ps_while hp hc.run hb.run) fun D σ H h => by
  obtain ⟨ι, S, ρ, s, re, h⟩ := h
  refine ⟨fun m σ2 H2 => ∃ ι2 S2 ρ2, Sim G ι2 H2 S2 ∧ RE G ι2 H2 ρ2 σ2 ∧ fin G ι2 H2 NoE (want G W D) (whM dt sb m ρ2 S2), ⟨f, ι, S, ρ, s, re, h⟩, ?_⟩
  rintro m σ2 H2 ⟨ι2, S2, ρ2, s2, re2, h2⟩
  cases m with
  | zero => exact ⟨ι2, S2, ρ2, s2, re2, by
      have z : False := h2
      exact z.elim⟩
  | succ m =>
    unfold whM at h2
    refine ⟨ι2, S2, ρ2, s2, re2, (fin.bindS re2 h2).mono fun k ι3 H3 S3 p3 _ h3 => ?_⟩
    obtain ⟨S3, s3, re3, _, h3⟩ := h3
    cases k with
    | false => exact h3 ι3 H3 (.refl s3) σ2 re3
    | true =>
      rw [if_pos rfl] at h3 ⊢
      refine ⟨fun σ4 H4 => ∃ ι4 S4 ρ4, Sim G ι4 H4 S4 ∧ RE G ι4 H4 ρ4 σ4 ∧ fin G ι4 H4 NoE (want G W D) (whM dt sb m ρ4 S4), fun σ4 H4 n => ⟨m, Nat.lt_succ_self _, n⟩, ι3, S3, ρ2, s3, re3, ?_⟩
      cases e2 : sb ρ2 S3 with
      | err c fs S' => rw [e2] at h3; exact h3
      | stuck => rw [e2] at h3; exact h3.elim
      | ok fl S5 =>
        rw [e2] at h3
        cases fl with
        | next ρ5 => exact fun ι5 H5 p5 σ5 re5 => ⟨ι5, S5, ρ5, p5.sim, re5, fin.later p5 h3⟩
        | cont ρ5 => exact fun ι5 H5 p5 σ5 re5 => ⟨ι5, S5, ρ5, p5.sim, re5, fin.later p5 h3⟩
        | brk ρ5 => exact fun ι5 H5 p5 σ5 re5 => h3 ι5 H5 p5 σ5 re5
        | ret w' => exact fun ι5 H5 p5 => h3 ι5 H5 p5
        | exc c fs ρ5 => exact fun ι5 H5 p5 => h3 ι5 H5 p5⟩
end
end MI
set_option Elab.async false
set_option linter.all false
set_option maxRecDepth 100000
namespace MI
open PySem PySem.Spec PyProof.Rows L2
/-! ### comprehensions -/
abbrev WF : WX := fun _ _ _ _ => False
def wipeM (ρ : Env') : List Nat → Env'
  | [] => ρ
  | v :: vs => (wipeM ρ vs).set v none
theorem wipe_get (σ : L2.St) (j : Nat) : ∀ vs : List Nat, (L2.wipe σ vs)[j]? = if j ∈ vs then (σ[j]?).map (fun _ => none) else σ[j]?
  | [] => by simp [L2.wipe]
  | v :: vs => by
    have ih := wipe_get σ j vs
    unfold L2.wipe
    rw [List.getElem?_set]
    by_cases h : v = j
    · subst h
      rw [if_pos rfl]
      by_cases hl : v < (L2.wipe σ vs).length
      · rw [if_pos hl, if_pos (by simp)]
        rw [L2.wipe_length] at hl
        simp [hl]
      · rw [if_neg hl, if_pos (by simp)]
        rw [L2.wipe_length] at hl
        simp [List.getElem?_eq_none_iff.mpr (Nat.le_of_not_lt hl)]
    · rw [if_neg h, ih]
      have h' : ¬ j = v := fun z => h z.symm
      simp [h']
theorem wipeM_get (σ : Env') (j : Nat) : ∀ vs : List Nat, (wipeM σ vs)[j]? = if j ∈ vs then (σ[j]?).map (fun _ => none) else σ[j]?
  | [] => by simp [wipeM]
  | v :: vs => by
    have ih := wipeM_get σ j vs
    have hlen : ∀ us : List Nat, (wipeM σ us).length = σ.length := fun us => by
      induction us with
      | nil => rfl
      | cons u us ih => unfold wipeM; rw [List.length_set, ih]
    unfold wipeM
    rw [List.getElem?_set]
    by_cases h : v = j
    · subst h
      rw [if_pos rfl]
      by_cases hl : v < (wipeM σ vs).length
      · rw [if_pos hl, if_pos (by simp)]
        rw [hlen] at hl
        simp [hl]
      · rw [if_neg hl, if_pos (by simp)]
        rw [hlen] at hl
        simp [List.getElem?_eq_none_iff.mpr (Nat.le_of_not_lt hl)]
    · rw [if_neg h, ih]
      have h' : ¬ j = v := fun z => h z.symm
      simp [h']
theorem wipeM_length (σ : Env') : ∀ us : List Nat, (wipeM σ us).length = σ.length
  | [] => rfl
  | u :: us => by unfold wipeM; rw [List.length_set, wipeM_length σ us]
theorem RE.wipe {G : Gx} {ι : List Addr} {H : Hp} {ρ : Env'} {σ : L2.St} (r : RE G ι H ρ σ) (vs : List Nat) (hy : G.dyn = []) : RE G ι H (wipeM ρ vs) (L2.wipe σ vs) := by
  refine ⟨by rw [wipeM_length, L2.wipe_length, r.len], fun i w e => ?_, fun y h => by rw [hy] at h; exact (List.not_mem_nil h).elim⟩
  rw [wipeM_get] at e
  by_cases h : i ∈ vs
  · rw [if_pos h] at e
    cases e2 : ρ[i]? with
    | none => rw [e2] at e; cases e
    | some x => rw [e2] at e; cases e
  · rw [if_neg h] at e
    obtain ⟨v, h1, h2⟩ := r.get i w e
    exact ⟨v, by rw [wipe_get, if_neg h]; exact h1, h2⟩
theorem wipe_agree {σ σ2 : L2.St} {own vs : List Nat} (hv : ∀ j ∈ vs, j ∈ own) (h : ∀ j, j ∉ vs → σ2[j]? = (L2.wipe σ own)[j]?) (hl : σ2.length = (L2.wipe σ own).length) : L2.wipe σ2 own = L2.wipe σ own := by
  apply List.ext_getElem?
  intro j
  rw [wipe_get, wipe_get]
  by_cases hj : j ∈ own
  · rw [if_pos hj, if_pos hj]
    rw [L2.wipe_length] at hl
    by_cases hb : j < σ.length
    · have hb2 : j < σ2.length := by omega
      simp [hb, hb2]
    · have hb2 : ¬ j < σ2.length := by omega
      rw [List.getElem?_eq_none_iff.mpr (Nat.le_of_not_lt hb), List.getElem?_eq_none_iff.mpr (Nat.le_of_not_lt hb2)]
  · rw [if_neg hj, if_neg hj, h j fun z => hj (hv j z), wipe_get, if_neg hj]
def lcM (nx : Src) (g : DenG) (t : DenB) (d : Den) (ρ0 : Env') (m : Nat) : Nat → Nat → Store → Option Store
  | 0, _ => fun _ => none
  | f + 1, i => fun S => match nx i S with
    | .stop => some S
    | .stuck => none
    | .yield w => match g w ρ0 S with
      | .ok ρ1 S1 => match t ρ1 S1 with
        | .ok true S2 => match d ρ1 S2 with
          | .ok w' S3 => match S3[m]? with
            | some (.lst acc) => if acc.length < 100000 then lcM nx g t d ρ0 m f (i + 1) (S3.set m (.lst (acc ++ [w']))) else none
            | _ => none
          | _ => none
        | .ok false S2 => lcM nx g t d ρ0 m f (i + 1) S2
        | _ => none
      | _ => none
def dLc (f : Nat) (it : DenI) (g : DenG) (t : DenB) (d : Den) (own : List Nat) : Den := fun ρ S => (it ρ S).bind fun nx S1 => match lcM nx g t d (wipeM ρ own) S1.length f 0 (S1 ++ [.lst []]) with
  | some S2 => .ok (.ref S1.length) S2
  | none => .stuck
section
variable {X : Cx} {G : Gx} {W : WX} {e a b c : Expr} {pos : Pos} {d da db : Den} {dr : DenL}
structure DTs (X : Cx) (G : Gx) (W : WX) (es : List Expr) (d : DenB) : Prop where
  run : PTs X es (tT G W d)
theorem PTs.imp {X : Cx} {e : List Expr} {t t' : TT} (h : PTs X e t) (k : ∀ σ H Q, t' σ H Q → t σ H Q) : PTs X e t' := ⟨fun pins s σ H Q I q => h.run pins s σ H Q I (k σ H Q q)⟩
def bYes : DenB := fun _ S => .ok true S
theorem dts_nil : DTs X G W [] bYes := ⟨PTs.imp pts_nil fun σ H Q h => by
  obtain ⟨ι, S, ρ, s, re, h⟩ := h
  exact h ι H (.refl s)⟩
theorem dts_one {dt : DenB} (h : DT X G W c dt) : DTs X G W [c] dt := ⟨pts_one h.run⟩
theorem lc_imp {f : Nat} {it : DenI} {vs own : List Nat} {g : DenG} {t : DenB} (hv : ∀ j ∈ vs, j ∈ own) (hdy : G.dyn = []) {σ : L2.St} {H : Hp} {Q : VK} (h : tD G W (dLc f it g t d own) σ H Q) : tLc (tI G W it) (tG G vs g) (tT G WF t) (tD G WF d) own σ H Q := by
  obtain ⟨ι, S, ρ, s, re, h⟩ := h
  refine ⟨ι, S, ρ, s, re, (fin.bind h).mono fun nx ι1 H1 S1 p _ h1 J hJ D hD => ?_⟩
  obtain ⟨S1, s1, _, re1, _, h1⟩ := h1
  have re1 := re1 _ _ re
  have ext0 : ∀ (n : Nat) (a : Addr), ι1[n]? = some a → (ι1 ++ [D])[n]? = some a := fun n a e => by
    rw [List.getElem?_append_left (List.getElem?_eq_some_iff.mp e).1]; exact e
  have p0 := s1.new hD (ho := .lst []) (mo := .lst []) ⟨[], upd_same, .nil⟩
  refine ⟨fun i m H2 => ∃ ι2 S2, Post G ι1 H1 ι2 H2 S2 ∧ ι2[S1.length]? = some D ∧ ∃ S', lcM nx g t d (wipeM ρ own) S1.length m i S2 = some S' ∧ fin G ι2 H2 (fun c x H' => W c x σ H') (PV G Q) (.ok (.ref S1.length) S'), ⟨f, ι1 ++ [D], S1 ++ [.lst []], p0, by rw [← s1.len]; simp, ?_⟩, ?_⟩
  · cases e : lcM nx g t d (wipeM ρ own) S1.length f 0 (S1 ++ [.lst []]) with
    | none => rw [e] at h1; exact h1.elim
    | some S' => rw [e] at h1; exact ⟨S', rfl, fin.later p0 h1⟩
  · rintro i m H2 ⟨ι2, S2, p2, hD2, S', e2, h2⟩
    have kJ := hJ i ι2 H2 S2 p2
    cases m with
    | zero => cases e2
    | succ m =>
      unfold lcM at e2
      cases e : nx i S2 with
      | stop =>
        rw [e] at e2 kJ
        cases e2
        exact .inl ⟨kJ, h2 ι2 H2 (.refl p2.sim) (.ref D) (.ref hD2)⟩
      | stuck => rw [e] at e2; cases e2
      | yield w =>
        rw [e] at e2 kJ
        dsimp only at e2 kJ
        refine .inr ⟨kJ.1, fun H3 => ∃ ι3 S3, Post G ι1 H1 ι3 H3 S3 ∧ ι3[S1.length]? = some D ∧ ∃ S', lcM nx g t d (wipeM ρ own) S1.length m (i + 1) S3 = some S' ∧ fin G ι3 H3 (fun c x H' => W c x σ H') (PV G Q) (.ok (.ref S1.length) S'), fun H3 n => ⟨m, Nat.lt_succ_self _, n⟩, fun x H3 y => ?_⟩
        obtain ⟨p3, r3⟩ := kJ.2 x H3 y
        have re3 : RE G ι2 H3 (wipeM ρ own) (L2.wipe σ own) := (p2.trans p3).re (re1.wipe own hdy)
        refine ⟨ι2, S2, wipeM ρ own, w, p3.sim, re3, r3, ?_⟩
        cases e4 : g w (wipeM ρ own) S2 with
        | err c fs S' => rw [e4] at e2; cases e2
        | stuck => rw [e4] at e2; cases e2
        | ok ρ4 S4 =>
          rw [e4] at e2
          dsimp only at e2
          refine fun ι4 H4 p4 σ4 re4 hv4 hl4 => ⟨wipe_agree hv hv4 hl4, ι4, S4, ρ4, p4.sim, re4, ?_⟩
          have p24 := p3.trans p4
          cases e5 : t ρ4 S4 with
          | err c fs S' => rw [e5] at e2; cases e2
          | stuck => rw [e5] at e2; cases e2
          | ok k S5 =>
            rw [e5] at e2
            cases k with
            | false =>
              dsimp only at e2
              refine fun ι5 H5 p5 => ?_
              dsimp only
              rw [if_neg Bool.false_ne_true]
              exact ⟨ι5, S5, p2.trans (p24.trans p5), (p24.trans p5).ext _ _ hD2, S', e2, fin.later (p24.trans p5) h2⟩
            | true =>
              dsimp only at e2
              refine fun ι5 H5 p5 => ?_
              dsimp only
              rw [if_pos rfl]
              refine ⟨ι5, S5, ρ4, p5.sim, p5.re re4, ?_⟩
              cases e6 : d ρ4 S5 with
              | err c fs S' => rw [e6] at e2; cases e2
              | stuck => rw [e6] at e2; cases e2
              | ok w' S6 =>
                rw [e6] at e2
                dsimp only at e2
                refine fun ι6 H6 p6 v6 r6 => ?_
                cases e7 : S6[S1.length]? with
                | none => rw [e7] at e2; cases e2
                | some o =>
                  rw [e7] at e2
                  cases o with
                  | lst acc =>
                    dsimp only at e2
                    split at e2
                    · rename_i hz
                      have pp := p24.trans (p5.trans p6)
                      have hD6 := pp.ext _ _ hD2
                      obtain ⟨vs', g', q'⟩ := p6.sim.obj _ _ _ e7 hD6
                      have t6 := sqT_upd (K := G.K) (ho := .lst (vs' ++ [v6])) (noTup_of g' (fun _ z => by cases z) (fun _ _ z => by cases z))
                      have p7 := p6.sim.write hD6 g' (fun _ z => by cases z) (fun _ _ z => by cases z) (ho' := .lst (vs' ++ [v6])) (mo := .lst (acc ++ [w'])) ⟨_, upd_same, (q'.append (.cons r6 .nil)).mono (fun _ _ e => e) t6⟩
                      exact ⟨vs', g', by rw [← q'.length]; exact Nat.lt_of_lt_of_le hz (by rw [sizeLine_eq]; decide), ι6, _, p2.trans (pp.trans p7), hD6, S', e2, fin.later (pp.trans p7) h2⟩
                    · cases e2
                  | rol acc => cases e2
                  | dic kvs => cases e2
                  | ins c fs => cases e2
                  | tpo l => cases e2
                  | tpp l => cases e2
                  | dct kvs => cases e2
                  | fdt kvs => cases e2
                  | set zs => cases e2
theorem de_lc {f : Nat} {elt tg iter : Expr} {ifs : List Expr} {scope : Scope} {own : List (Str × Nat)} {it : DenI} {vs : List Nat} {g : DenG} {t : DenB} (hc : X.calm = true) (hN : X.N.Nodup) (hi : DI X G W tg iter it) (ok : BlkOk X.N X.env.scope scope own)
    (hg : ∀ (s : Shared) (H : Hp) (C : Addr) (cl : List (Str × Addr)) (fp : List Addr), DG (X.blk s H scope (compEnvC scope cl C X.env) fp) G tg vs g) (ht : ∀ (s : Shared) (H : Hp) (C : Addr) (cl : List (Str × Addr)) (fp : List Addr), DTs (X.blk s H scope (compEnvC scope cl C X.env) fp) G WF ifs t)
    (he : ∀ (s : Shared) (H : Hp) (C : Addr) (cl : List (Str × Addr)) (fp : List Addr), DE (X.blk s H scope (compEnvC scope cl C X.env) fp) G WF elt d) (hv : ∀ j ∈ vs, j ∈ own.map (·.2) := by decide) (hdy : G.dyn = [] := by rfl) (hs : ∀ x, foldedSetIterable iter X.env x = pure x := by intro _; rfl) :
    DE X G W (.ListComp elt [⟨tg, iter, ifs, 0⟩] scope pos) (dLc f it g t d (own.map (·.2))) :=
  ⟨PE.imp (pe_lc hc hN hi.run ok (fun s H C cl fp => (hg s H C cl fp).run) (fun s H C cl fp => (ht s H C cl fp).run) (fun s H C cl fp => (he s H C cl fp).run) hs) fun _ _ _ h => lc_imp hv hdy h⟩
theorem ds_setLc (i : Nat) {f : Nat} {y : Str} {py : Pos} {elt tg iter : Expr} {ifs : List Expr} {scope : Scope} {own : List (Str × Nat)} {spos : Pos} {it : DenI} {vs : List Nat} {g : DenG} {t : DenB} (hc : X.calm = true) (hN : X.N.Nodup) (hi : DI X G W tg iter it) (ok : BlkOk X.N X.env.scope scope own)
    (hg : ∀ (s : Shared) (H : Hp) (C : Addr) (cl : List (Str × Addr)) (fp : List Addr), DG (X.blk s H scope (compEnvC scope cl C X.env) fp) G tg vs g) (ht : ∀ (s : Shared) (H : Hp) (C : Addr) (cl : List (Str × Addr)) (fp : List Addr), DTs (X.blk s H scope (compEnvC scope cl C X.env) fp) G WF ifs t)
    (he : ∀ (s : Shared) (H : Hp) (C : Addr) (cl : List (Str × Addr)) (fp : List Addr), DE (X.blk s H scope (compEnvC scope cl C X.env) fp) G WF elt d)
    (hsw : swapsWith (.ListComp elt [⟨tg, iter, ifs, 0⟩] scope pos) (some (.Name y py)) spos.line X.env = pure true)
    (hy : X.N[i]? = some y := by rfl) (hyl : X.env.scope.names.lookup y = some .local := by rfl) (hv : ∀ j ∈ vs, j ∈ own.map (·.2) := by decide) (hdy : G.dyn = [] := by rfl) (hs : ∀ x, foldedSetIterable iter X.env x = pure x := by intro _; rfl) :
    DS X G W (.Assign [.Name y py] (.ListComp elt [⟨tg, iter, ifs, 0⟩] scope pos) spos) (sAsg (dLc f it g t d (own.map (·.2))) (gN i)) :=
  ⟨PS.imp (ps_setLc hc hN hy hyl hsw hi.run ok (fun s H C cl fp => (hg s H C cl fp).run) (fun s H C cl fp => (ht s H C cl fp).run) (fun s H C cl fp => (he s H C cl fp).run) hs) fun D σ H h => by
    refine lc_imp (f := f) (W := W) hv hdy ?_
    obtain ⟨ι, S, ρ, s, re, h⟩ := h
    refine ⟨ι, S, ρ, s, re, (fin.bindS re h).mono fun w ι1 H1 S1 p _ h1 v r => ?_⟩
    obtain ⟨S1, s1, re1, _, h1⟩ := h1
    exact h1 ι1 H1 (.refl s1) _ (re1.set r i)⟩
end
end MI
set_option Elab.async false
set_option linter.all false
set_option maxRecDepth 100000
namespace MI
open PySem PySem.Spec PyProof.Rows L2
/-! ### what a def leaves behind: what nobody can reach is forgotten -/
mutual
def below (n : Nat) : MV → Bool
  | .tup l => belows n l
  | .ref k => decide (k < n)
  | .non => true
  | .bl _ => true
  | .int _ => true
  | .str _ => true
  | .out k => decide (k < 1000)
def belows (n : Nat) : List MV → Bool
  | [] => true
  | w :: ws => below n w && belows n ws
end
def belowO (n : Nat) : MO → Bool
  | .lst l => belows n l
  | .rol _ => true
  | .dic kvs => belows n (kvs.map (·.2))
  | .ins _ fs => belows n (fs.map (·.2))
  | .tpo l => belows n l
  | .tpp l => belows n l
  | .dct kvs => belows n (kvs.map (·.2))
  | .fdt kvs => belows n (kvs.map (·.2))
  | .set _ => true
section
variable {G : Gx} {ι ι' : List Addr} {H : Hp} {n : Nat}
mutual
theorem RW.lower (k : ∀ (m : Nat) (a : Addr), m < n → ι'[m]? = some a → ι[m]? = some a) : ∀ (w : MV) (v : V), RW G ι' H w v → below n w = true → RW G ι H w v
  | .non, _, r, _ => by cases r; exact .non
  | .bl b, _, r, _ => by cases r; exact .bl b
  | .int b, _, r, _ => by cases r; exact .int b
  | .str b, _, r, _ => by cases r; exact .str b
  | .tup l, _, r, h => by
    cases r with
    | tup t q => exact .tup t (RWs.lower k l _ q (by unfold below at h; exact h))
  | .ref m, _, r, h => by
    cases r with
    | ref i => exact .ref (k _ _ (by unfold below at h; exact of_decide_eq_true h) i)
  | .out m, _, r, _ => by
    cases r with
    | out e => exact .out e
theorem RWs.lower (k : ∀ (m : Nat) (a : Addr), m < n → ι'[m]? = some a → ι[m]? = some a) : ∀ (w : List MV) (v : List V), RWs G ι' H w v → belows n w = true → RWs G ι H w v
  | [], _, r, _ => by cases r; exact .nil
  | w :: ws, _, r, h => by
    cases r with
    | cons r1 r2 =>
      unfold belows at h
      rw [Bool.and_eq_true] at h
      exact .cons (RW.lower k w _ r1 h.1) (RWs.lower k ws _ r2 h.2)
end
theorem ints_low (n : Nat) : ∀ l : List MV, (∀ w ∈ l, ∃ i, w = MV.int i) → belows n l = true
  | [], _ => rfl
  | w :: l, h => by
    obtain ⟨i, rfl⟩ := h _ List.mem_cons_self
    unfold belows
    rw [ints_low n l fun w hw => h w (List.mem_cons_of_mem _ hw)]
    rfl
theorem RO.lower (k : ∀ (m : Nat) (a : Addr), m < n → ι'[m]? = some a → ι[m]? = some a) {a : Addr} {o : MO} (r : RO G ι' H a o) (h : belowO n o = true) : RO G ι H a o := by
  cases o with
  | lst l => obtain ⟨vs, g, q⟩ := r; exact ⟨vs, g, q.lower k _ _ h⟩
  | rol l => obtain ⟨o, vs, g, q, ii⟩ := r; exact ⟨o, vs, g, q.lower k _ _ (ints_low n l ii), ii⟩
  | dic kvs => obtain ⟨kv', g, z, q⟩ := r; exact ⟨kv', g, z, q.lower k _ _ h⟩
  | ins c fs => obtain ⟨C, dx, fs', hc, g, z, q⟩ := r; exact ⟨C, dx, fs', hc, g, z, q.lower k _ _ h⟩
  | tpo l => obtain ⟨o, vs, g, c, d, q⟩ := r; exact ⟨o, vs, g, c, d, q.lower k _ _ h⟩
  | tpp l => obtain ⟨vs, g, q⟩ := r; exact ⟨vs, g, q.lower k _ _ h⟩
  | dct kvs => obtain ⟨kv', g, z, q⟩ := r; exact ⟨kv', g, z, q.lower k _ _ h⟩
  | fdt kvs => obtain ⟨o, kv', g, z, q⟩ := r; exact ⟨o, kv', g, z, q.lower k _ _ h⟩
  | set zs => obtain ⟨w, c, g, l, e⟩ := r; exact ⟨w, c, g, l, e⟩
end
def gc (n : Nat) (w : MV) (S : Store) : Res MV :=
  if S.length = n then .ok w S
  else if (S.take n).all (belowO n) then
    if below n w then .ok w (S.take n)
    else match w with
      | .ref m => match S[m]? with
        | some o => if belowO n o then .ok (.ref n) (S.take n ++ [o]) else .ok w S
        | none => .ok w S
      | _ => .ok w S
  else .ok w S
theorem gc_ok {G : Gx} {ι ι' : List Addr} {H H' : Hp} {S S' : Store} {w : MV} {v : V} {E : Value → Option Addr → Hp → Prop} {Q : VK} (s : Sim G ι H S) (p : Post G ι H ι' H' S') (r : RW G ι' H' w v) (h : fin G ι H E (PV G Q) (gc S.length w S')) : Q v H' := by
  have low : ∀ (m : Nat) (a : Addr), m < S.length → ι'[m]? = some a → ι[m]? = some a := fun m a hm e => by
    have hm' : m < ι.length := by rw [s.len]; exact hm
    have e2 := p.ext m ι[m] (by simp [hm'])
    rw [e] at e2
    cases e2
    simp [hm']
  unfold gc at h
  split at h
  · exact h ι' H' p v r
  · split at h
    · rename_i hne hcl
      have hlen : S.length ≤ S'.length := by
        rw [← s.len, ← p.sim.len]
        by_cases hz : ι.length = 0
        · omega
        · have := p.ext (ι.length - 1) ι[ι.length - 1] (List.getElem?_eq_getElem (by omega))
          have := (List.getElem?_eq_some_iff.mp this).1
          omega
      have cl : ∀ k o, S'[k]? = some o → k < S.length → belowO S.length o = true := fun k o e hk => by
        rw [List.all_eq_true] at hcl
        refine hcl o ?_
        have : (S'.take S.length)[k]? = some o := by rw [List.getElem?_take_of_lt hk]; exact e
        exact List.mem_of_getElem? this
      split at h
      · rename_i hb
        refine h ι H' ⟨fun _ _ e => e, p.tup, p.frz, p.kp, ?_, s.nd, fun k o a hk ha => ?_, p.sim.inv⟩ v (r.lower low _ _ hb)
        · rw [s.len, List.length_take]; omega
        · have hkl : k < S.length := by
            have := (List.getElem?_eq_some_iff.mp hk).1
            rw [List.length_take] at this
            omega
          rw [List.getElem?_take_of_lt hkl] at hk
          exact (p.sim.obj k o a hk (p.ext _ _ ha)).lower low (cl k o hk hkl)
      · rename_i hb
        split at h
        · rename_i m
          split at h
          · rename_i o ho
            split at h
            · rename_i hbo
              cases r with
              | ref hi =>
                rename_i D
                have hm : S.length ≤ m := by
                  unfold below at hb
                  simp only [decide_eq_true_eq] at hb
                  omega
                have low' : ∀ (k : Nat) (a : Addr), k < S.length → ι'[k]? = some a → (ι ++ [D])[k]? = some a := fun k a hk e => by
                  rw [List.getElem?_append_left (by rw [s.len]; exact hk)]
                  exact low k a hk e
                refine h (ι ++ [D]) H' ⟨fun k a e => by rw [List.getElem?_append_left (List.getElem?_eq_some_iff.mp e).1]; exact e, p.tup, p.frz, p.kp, ?_, ?_, fun k o' a hk ha => ?_, p.sim.inv⟩ (.ref D) (.ref (by rw [← s.len]; simp))
                · rw [List.length_append, List.length_append, List.length_take, s.len]
                  simp
                  omega
                · refine List.nodup_append.mpr ⟨s.nd, by simp, fun a ha b hb' e => ?_⟩
                  have hb2 : b = D := by simpa using hb'
                  subst hb2
                  subst e
                  obtain ⟨k, hk⟩ := List.getElem?_of_mem ha
                  have hk' := p.ext _ _ hk
                  obtain ⟨h1, e1⟩ := List.getElem?_eq_some_iff.mp hk'
                  obtain ⟨h2, e2⟩ := List.getElem?_eq_some_iff.mp hi
                  have : k = m := (List.getElem_inj p.sim.nd).mp (e1.trans e2.symm)
                  have hkl := (List.getElem?_eq_some_iff.mp hk).1
                  rw [s.len] at hkl
                  omega
                · by_cases hkl : k < S.length
                  · rw [List.getElem?_append_left (by rw [List.length_take]; omega), List.getElem?_take_of_lt hkl] at hk
                    rw [List.getElem?_append_left (by rw [s.len]; exact hkl)] at ha
                    exact (p.sim.obj k o' a hk (p.ext _ _ ha)).lower low' (cl k o' hk hkl)
                  · have hkn : k = S.length := by
                      have := (List.getElem?_eq_some_iff.mp hk).1
                      rw [List.length_append, List.length_take] at this
                      simp at this
                      omega
                    subst hkn
                    rw [List.getElem?_append_right (by rw [List.length_take]; omega)] at hk
                    rw [List.getElem?_append_right (by rw [s.len]; exact Nat.le_refl _)] at ha
                    have e0 : S.length - (S'.take S.length).length = 0 := by rw [List.length_take]; omega
                    rw [e0] at hk
                    rw [s.len] at ha
                    simp at hk ha
                    subst hk
                    subst ha
                    exact (p.sim.obj m o D ho hi).lower low' hbo
            · exact h ι' H' p v r
          · exact h ι' H' p v r
        · exact h ι' H' p v r
    · exact h ι' H' p v r
/-! ### defs -/
def mkFn (n N : Nat) (body : DenS) : FnM := fun ws S => if ws.length = n then
    match body (ws.map some ++ List.replicate (N - ws.length) none) S with
    | .ok (.ret w) S' => gc S.length w S'
    | .ok (.next _) S' => gc S.length .non S'
    | .ok (.exc c fs _) S' => .err c fs S'
    | _ => .stuck
  else .stuck
def spF (G : Gx) (g : FnM) : Sp := fun vs H Q E => ∃ ι S ws, Sim G ι H S ∧ RWs G ι H ws vs ∧ fin G ι H E (PV G Q) (g ws S)
theorem re_start {G : Gx} {ι : List Addr} {H : Hp} {ws : List MV} {vs : List V} {N : List Str} (r : RWs G ι H ws vs) (hdy : G.dyn = []) : RE G ι H (ws.map some ++ List.replicate (N.length - ws.length) none) (L2.start N vs) := by
  unfold L2.start
  rw [← r.length]
  refine ⟨by simp [r.length], fun i w e => ?_, fun y h => by rw [hdy] at h; exact (List.not_mem_nil h).elim⟩
  by_cases h : i < ws.length
  · rw [List.getElem?_append_left (by simpa using h)] at e
    rw [List.getElem?_map] at e
    have e2 : ws[i]? = some w := by
      cases e3 : ws[i]? with
      | none => rw [e3] at e; cases e
      | some x => rw [e3] at e; cases e; rfl
    obtain ⟨v, e4, q⟩ := r.get e2
    refine ⟨v, ?_, q⟩
    rw [List.getElem?_append_left (by rw [List.length_map, ← r.length]; exact h), List.getElem?_map, e4]
    rfl
  · rw [List.getElem?_append_right (by simpa using Nat.le_of_not_lt h)] at e
    rw [List.getElem?_replicate] at e
    split at e <;> cases e
section
variable {P : Program} {w : World} {K : PySem.W.Frag} {mg : Str → Option Value} {base : Heap} {G : Gx}
theorem fn_ok {x qual : Str} {st : Stmt} {f : Addr} {fd : FuncData} {N ps : List Str} {k : Nat} {body : DenS} (F : Fun K x qual st f fd) (S : FnScope N ps (defScope st))
    (hb : ∀ (cdv : Value) (A : Around) (outer : List Env) (s : Shared) (H : Hp) (E : XK), Room k (A.deeper (envOfC qual (defScope st) s.heap.objs.size f cdv)) → DSs (cxOf (L2.CX P w) P w K mg base N qual (defScope st) f cdv A outer s H E) G (fun cls d _ H => E cls d H) (defBody st) body) (hdy : G.dyn = [] := by rfl) :
    FnOk P w K mg base (L2.CX P w) (k + 1) f fd ps (spF G (mkFn ps.length N.length body)) := by
  refine F.okX S (fun vs H Q E h => ?_) (fun cdv A outer s H vs Q E hr h => ⟨_, (hb cdv A outer s H E hr).run, ?_⟩)
  · obtain ⟨ι, S, ws, s, r, h⟩ := h
    rw [← r.length]
    unfold mkFn at h
    split at h
    · rename_i e; exact e
    · exact h.elim
  · obtain ⟨ι, S, ws, s, r, h⟩ := h
    refine ⟨ι, S, _, s, re_start r hdy, ?_⟩
    unfold mkFn at h
    split at h
    · cases e : body (ws.map some ++ List.replicate (N.length - ws.length) none) S with
      | err c fs S' => rw [e] at h; exact h.elim
      | stuck => rw [e] at h; exact h.elim
      | ok fl S' =>
        rw [e] at h
        cases fl with
        | next ρ => exact fun ι' H' p σ' _ => gc_ok s p .non h
        | ret w' => exact fun ι' H' p v r' => gc_ok s p r' h
        | brk ρ => exact h.elim
        | cont ρ => exact h.elim
        | exc c fs ρ => exact fun ι' H' p σ' cls d _ q => h ι' H' cls d p q
    · exact h.elim
end
section
variable {X : Cx} {G : Gx} {W : WX} {e a b c : Expr} {es : List Expr} {pos : Pos} {d da db : Den} {dr : DenL}
theorem de_call {k : Nat} {f : Addr} {fd : FuncData} {ps : List Str} {g : FnM} {x : Str} {p : Pos} (tk : Takes X W) (F : FnOk X.prog X.w X.K X.mg X.base (L2.CX X.prog X.w) k f fd ps (spF G g)) (hr : Room k X.A) (hg : Gl X x) (hm : X.mg x = some (.ref f)) (hk : PySem.W.keepIn X.K (.ref f) = true) (hb : Binds X.K fd ps [])
    (ha : DA X G W (a :: es) dr) (hdb : (x == ("__debug__" : Str)) = false := by decide) (he : starEach (a :: es) X.env = (false, eval a X.env) :: starEach es X.env := by rfl) (hpl : (backTo pos (starEach es X.env)).any (·.1) = false := by rfl) :
    DE X G W (.Call (.Name x p) (a :: es) [] pos) (dCall g dr) := ⟨PE.imp (pe_callS F hr hg hm hk hb (fun σ => passAt tk σ) ha.run hdb he hpl) fun σ H Q h => by
  obtain ⟨ι, S, ρ, s, re, h⟩ := h
  refine ⟨ι, S, ρ, s, re, (fin.bind h).mono fun ws ι1 H1 S1 p _ h1 vs r => ?_⟩
  obtain ⟨S1, s1, _, _, _, h1⟩ := h1
  exact ⟨ι1, S1, ws, s1, r, h1⟩⟩
/-! ### methods of lists -/
def dMet (chk : MV → Store → Bool) (f : MV → List MV → Store → Res MV) (o : Den) (r : DenL) : Den := fun ρ S => (o ρ S).bind fun ow S1 => if chk ow S1 then (r ρ S1).bind fun ws S2 => f ow ws S2 else .stuck
def isLst (w : MV) (S : Store) : Bool := match w with
  | .ref n => match S[n]? with
    | some (.lst _) => true
    | _ => false
  | _ => false
def MtW (G : Gx) (f : MV → List MV → Store → Res MV) (r : V → List V → Hp → VK → Prop) : Prop := ∀ (ι : List Addr) (H : Hp) (S : Store) (E : Value → Option Addr → Hp → Prop) (Q : VK) (w : MV) (v : V) (ws : List MV) (vs : List V), Sim G ι H S → RW G ι H w v → RWs G ι H ws vs → fin G ι H E (PV G Q) (f w ws S) → r v vs H Q
theorem met_imp {f : MV → List MV → Store → Res MV} {r : V → List V → Hp → VK → Prop} (hw : MtW G f r) {σ : L2.St} {H : Hp} {Q : VK} (h : tD G W (dMet isLst f da dr) σ H Q) : tBM G.K "list" r (tD G W da) (tDs G W dr) σ H Q := by
  obtain ⟨ι, S, ρ, s, re, h⟩ := h
  refine ⟨ι, S, ρ, s, re, (fin.bind h).mono fun w ι1 H1 S1 p _ h1 v r1 => ?_⟩
  obtain ⟨S1, s1, _, re1, _, h1⟩ := h1
  split at h1
  · rename_i hc
    refine ⟨?_, ι1, S1, ρ, s1, re1 _ _ re, (fin.bind h1).mono fun ws ι2 H2 S2 p2 _ h2 vs r2 => ?_⟩
    · unfold isLst at hc
      split at hc
      · cases r1 with
        | ref i =>
          split at hc
          · rename_i hS
            obtain ⟨vs, g, q⟩ := s1.obj _ _ _ hS i
            exact .inl ⟨rfl, vs, .of g⟩
          · cases hc
      · cases hc
    · obtain ⟨S2, s2, m2, _, _, h2⟩ := h2
      exact hw ι2 H2 S2 _ Q w v ws vs s2 (m2 _ _ r1) r2 h2
  · exact h1.elim
def fAppend (o : MV) (ws : List MV) (S : Store) : Res MV := match o, ws with
  | .ref n, [w] => match S[n]? with
    | some (.lst l) => if l.length < 100000 then .ok .non (S.set n (.lst (l ++ [w]))) else .stuck
    | _ => .stuck
  | _, _ => .stuck
theorem lst_write {ι : List Addr} {H : Hp} {S : Store} {n : Nat} {p : Addr} {vs vs' : List V} {l' : List MV} {Q : VK} {E : Value → Option Addr → Hp → Prop} (s : Sim G ι H S) (hi : ι[n]? = some p) (g : H p = some (.lst vs)) (q : RWs G ι H l' vs') (h : fin G ι H E (PV G Q) (.ok .non (S.set n (.lst l')))) : Q .non (upd H p (.lst vs')) := by
  have t := sqT_upd (K := G.K) (ho := .lst vs') (noTup_of g (fun _ z => by cases z) (fun _ _ z => by cases z))
  exact h ι _ (s.write hi g (fun _ z => by cases z) (fun _ _ z => by cases z) ⟨_, upd_same, q.mono (fun _ _ e => e) t⟩) _ .non
theorem w_append : MtW G fAppend rAppend := fun ι H S E Q w v ws vs s r1 r2 h => by
  unfold fAppend at h
  split at h
  · cases r1 with
    | ref i =>
      split at h
      · rename_i l hS
        obtain ⟨xs, g, q⟩ := s.obj _ _ _ hS i
        split at h
        · rename_i hz
          obtain ⟨y, rfl, r3⟩ := rws1 r2
          exact ⟨_, xs, y, rfl, rfl, g, by rw [← q.length]; exact Nat.lt_of_lt_of_le hz (by rw [sizeLine_eq]; decide), lst_write s i g (q.append (.cons r3 .nil)) h⟩
        · exact h.elim
      · exact h.elim
  · exact h.elim
theorem de_append {apos : Pos} (hK : X.K = G.K) (ho : DE X G W a da) (ha : DA X G W (b :: es) dr) (hbase : attributeBase a "append" X.env (eval a X.env) = eval a X.env := by rfl)
    (hfew : ((backTo pos (starEach (b :: es) X.env)).all (fun x => !x.1) && (backToKw pos (keywordEach [] X.env)).all (fun x => x.1.isSome)
      && decide ((b :: es).length + ([] : List Keyword).length + (if ([] : List Keyword).isEmpty then 0 else 1) < 30)) = true := by rfl)
    (hline : (apos.endLine == pos.line) = true := by rfl) (hs : starEach (b :: es) X.env = (false, eval b X.env) :: starEach es X.env := by rfl) (hplain : (backTo pos (starEach es X.env)).any (·.1) = false := by rfl) :
    DE X G W (.Call (.Attribute a "append" apos) (b :: es) [] pos) (dMet isLst fAppend da dr) :=
  ⟨PE.imp (pe_bm PySem.F.plainAttrs_list PySem.F.slot_list_append PySem.F.type_list_append mt_append ho.run ha.run hbase hfew hline hs hplain) fun σ H Q h => by rw [hK]; exact met_imp w_append h⟩
/-! ### isinstance of the built-in classes -/
def tyM (w : MV) (S : Store) : Option String := match w with
  | .non => some "NoneType"
  | .bl _ => some "bool"
  | .int _ => some "int"
  | .str _ => some "str"
  | .tup _ => some "tuple"
  | .ref n => match S[n]? with
    | some (.lst _) => some "list"
    | some (.rol _) => some "list"
    | some (.dic _) => some "dict"
    | _ => none
  | .out _ => none
theorem tyM_ok {ι : List Addr} {H : Hp} {S : Store} {w : MV} {v : V} {t : String} (s : Sim G ι H S) (r : RW G ι H w v) (e : tyM w S = some t) : TyX G.K H v (.type t) := by
  unfold tyM at e
  split at e
  · cases r; cases e; exact .base .non
  · cases r; cases e; exact .base (.bl _)
  · cases r; cases e; exact .base (.int _)
  · cases r; cases e; exact .base (.str _)
  · cases r with
    | tup t q =>
      cases e
      rcases t with (t | ⟨o, t⟩) | ⟨o, its, n, t, hc, _⟩
      · exact .base (.tup t)
      · exact .fTuple t
      · exact .kTuple t hc
  · cases r with
    | ref i =>
      split at e
      · rename_i hS
        obtain ⟨vs, g, q⟩ := s.obj _ _ _ hS i
        cases e
        exact .base (.lst g)
      · rename_i hS
        obtain ⟨o, vs, g, q, _⟩ := s.obj _ _ _ hS i
        cases e
        exact .base (.frz g)
      · rename_i hS
        obtain ⟨kv, g, q⟩ := s.obj _ _ _ hS i
        cases e
        exact .base (.dK g)
      · cases e
  · cases e
def isTy (t T : String) : Bool := t == T || (t == "bool" && T == "int")
def fIsT (T : String) (w : MV) (S : Store) : Res MV := match tyM w S with
  | some t => .ok (.bl (isTy t T)) S
  | none => .stuck
theorem tyM_in {w : MV} {S : Store} {t : String} (e : tyM w S = some t) : t ∈ ["NoneType", "bool", "int", "str", "tuple", "list", "dict"] := by
  unfold tyM at e
  split at e <;> first | (cases e; decide) | (cases e; done) | skip
  split at e <;> first | (cases e; decide) | cases e
theorem de_isT {T : String} {x : Str} {p p2 : Pos} (hK : X.K = G.K) (hg : Gl X "isinstance") (hm : X.mg "isinstance" = none) (hg2 : Gl X x) (hm2 : X.mg x = none) (hv2 : bootBuiltins x = some (.type T)) (hk : ∀ t ∈ ["NoneType", "bool", "int", "str", "tuple", "list", "dict"], kitB t T = some (isTy t T))
    (hn2 : x ≠ "__name__") (hd2 : (x == ("__debug__" : Str)) = false) (ha : DE X G W a da) (hs : starEach [a, .Name x p2] X.env = (false, eval a X.env) :: starEach [.Name x p2] X.env := by rfl) (hpl : (backTo pos (starEach [.Name x p2] X.env)).any (·.1) = false := by rfl) :
    DE X G W (.Call (.Name "isinstance" p) [a, .Name x p2] [] pos) (dUn (fIsT T) da) := by
  refine ⟨PE.imp (pe_callB call_isi hg hm (by decide +kernel) (pa_cons ha.run (pa_cons (pe_bltn (v := .ty T) hg2 hm2 hv2 rfl hn2 hd2) pa_nil) hs) (by decide) (by decide) hs hpl) fun σ H Q h => ?_⟩
  obtain ⟨ι, S, ρ, s, re, h⟩ := h
  refine ⟨ι, S, ρ, s, re, (fin.bind h).mono fun w ι1 H1 S1 p _ h1 v r => ?_⟩
  obtain ⟨S1, s1, _, re1, _, h1⟩ := h1
  unfold fIsT at h1
  split at h1
  · rename_i t e
    exact ⟨v, .ty T, .type t, .type T, isTy t T, rfl, .ty T, by rw [hK]; exact tyM_ok s1 r e, kit_ty (hk t (tyM_in e)), h1 ι1 H1 (.refl s1) _ (.bl _)⟩
  · exact h1.elim
end
end MI
set_option Elab.async false
set_option linter.all false
set_option maxRecDepth 100000
set_option maxHeartbeats 1000000
/-! ### enumerate of one argument, whatever begins an iterator -/
namespace PySem
namespace EnumOne
theorem made {v : Value} {o : Obj} {H : Heap → Prop} (B : Begins v o H) :
    Meets (Builtin.«enumerate.__new__» ⟨[.type "enumerate", v], []⟩) (fun _ R s => H s.heap ∧ R (.ok (.ret (.ref (s.heap.push o).objs.size))) { s with heap := (s.heap.push o).push { cls := .type "enumerate", data := .fields #[.none, .bool false, .ref s.heap.objs.size, rawInt 0, .none, .none] } }) := by
  refine .of_wp fun prog w A R s h => ?_
  obtain ⟨hp, g, d, tk, os⟩ := s
  have hsub := sub_enumerate
  have begin_ : ∀ {A' : Around} {E : Value → Shared → Prop} {Q : Value → Shared → Prop}, Q (.ref hp.objs.size) ⟨hp.push o, g, d, tk, os⟩ → wpAny (model prog w) A' (pyIter v) Q E ⟨hp, g, d, tk, os⟩ := fun q => B.iter prog w _ _ ⟨hp, g, d, tk, os⟩ _ h.1 q
  wp_walk using begin_
  refine wpAny_stack_any fun st => wpAny_pure ?_
  split
  · rename_i c _ _ _ _ _
    by_cases z : (c == Value.type "enumerate") = true <;> simp only [z, Bool.not_eq_true] at * <;> (wp_walk using begin_; exact ⟨_, rfl, h.2⟩)
  · wp_walk using begin_; exact ⟨_, rfl, h.2⟩
section
variable {prog : Program} {w : World} {A : Around} {E : Value → Shared → Prop} {s : Shared}
theorem call {v : Value} {o : Obj} {H : Heap → Prop} {Q : Value → Shared → Prop} (B : Begins v o H) (h1 : H s.heap)
    (h : ∀ h', IsEnum h' (s.heap.objs.size + 1) s.heap.objs.size 0 .none → h'.get? s.heap.objs.size = some o → (∀ b o, s.heap.get? b = some o → h'.get? b = some o) → Q (.ref (s.heap.objs.size + 1)) { s with heap := h' }) : wpAny (model prog w) A (PySem.call (.type "enumerate") [v]) Q E s := by
  refine callType_new F.called_enumerate (by decide) (F.typeCall_enumerate_1 _) (F.newCall_enumerate_1 _) (fun obj => F.args_object_init_2 obj _) F.entry_enumerate_new (made B) ⟨h1, ?_⟩
  have sz : (s.heap.push o).objs.size = s.heap.objs.size + 1 := Heap.size_push ..
  have en : IsEnum ((s.heap.push o).push { cls := .type "enumerate", data := .fields #[.none, .bool false, .ref s.heap.objs.size, rawInt 0, .none, .none] }) (s.heap.objs.size + 1) s.heap.objs.size 0 .none := by
    have t := Heap.get?_push_size (s.heap.push o) (o := { cls := .type "enumerate", data := .fields #[.none, .bool false, .ref s.heap.objs.size, rawInt 0, .none, .none] }) rfl
    rw [sz] at t
    exact t
  show _ ∧ _
  rw [sz]
  exact ⟨⟨_, en, rfl⟩, h _ en (Heap.get?_push_of_some _ (Heap.get?_push_size _ B.free)) fun b o' x => Heap.get?_push_of_some _ (Heap.get?_push_of_some _ x)⟩
end
end EnumOne
end PySem
namespace MI
open PySem PySem.Spec PyProof.Rows L2
def IteT (K : PySem.W.Frag) (a : Addr) (k : Int) : It :=
  ⟨fun i H => ∃ (xs : List V) (x : V), SqT K H a xs ∧ xs[i]? = some x, fun i H v H' => ∃ T x, v = .ref T ∧ H T = none ∧ H' = upd H T (.tup [.int (k + (i : Nat)), x]) ∧ ∀ xs, SqT K H a xs → xs[i]? = some x, fun i H => ∃ xs : List V, SqT K H a xs ∧ xs.length ≤ i⟩
theorem turn_enumT {P : Program} {w : World} {K : PySem.W.Frag} {elts : List Expr} {kk : Nat} {tpos : Pos} (a e it : Addr) (k : Int) (hae : a ≠ it) (hea : a ≠ e) :
    Turn P w K (.Tuple elts kk tpos) (IteT K a k) [e, it] e (fun i h => (∃ old, IsEnum h e it (k + ((i : Nat) : Int)) old) ∧ h.IsTupleIter it a i ∧ e ≠ it) where
  mem := List.mem_cons_self
  obj := fun i h st b hb => by
    obtain ⟨⟨old, he⟩, ⟨o, ho, hc, hd⟩, _⟩ := st
    rw [List.mem_cons, List.mem_singleton] at hb
    rcases hb with rfl | rfl
    · exact ⟨_, he, fun v q => nomatch q⟩
    · exact ⟨o, ho, fun v q => by rw [hd] at q; cases q⟩
  keep := fun i h h' st k => ⟨⟨st.1.choose, k e (by simp) _ st.1.choose_spec⟩, st.2.1.at fun o q => k it (by simp) o q, st.2.2⟩
  item := by
    intro X hP hw hK hc i pins s σ H E I hf st hg
    subst hP hw hK
    obtain ⟨⟨old, he⟩, hit, hne⟩ := st
    obtain ⟨xs, x, hq, hx⟩ := hg
    obtain ⟨its, rv, p, _⟩ := I.tuple hq
    obtain ⟨u, hu, ru⟩ := rv.get hx
    have hil : i < its.toArray.size := by
      rw [List.size_toArray]
      exact (List.getElem?_eq_some_iff.mp hu).1
    have lte := Heap.lt_size he
    have lti : it < s.heap.objs.size := by obtain ⟨_, q, _⟩ := hit; exact Heap.lt_size q
    have DT := Draws.tuple (prog := X.prog) (w := X.w) (A := X.A.in1) (I.ok.hd hc) it a hae its.toArray
    refine wpAny_pyNext_enum_itemC DT he ⟨hit, p⟩ hil hne (by simp only [List.mem_cons, List.not_mem_nil, or_false, not_or]; exact ⟨hne, Ne.symm hea⟩) fun x' h' tk hP ho hst' hT hsz hk => ?_
    have hxu : x' = u := by
      have z : its.toArray[i]? = some x' := hP
      rw [List.getElem?_toArray, hu] at z
      exact (Option.some.inj z).symm
    subst hxu
    refine ⟨_, rfl, wpAny_letOwnedTupleGo_enum (s := { s with heap := h', toks := tk + 1 }) ho fun h'' he' sb => ?_⟩
    have hT2 := (sb.2 _ (Nat.ne_of_gt lte)).trans hT
    have new : ObjOk X.prog X.w (upd H s.heap.objs.size (.tup [.int (k + (i : Nat)), x])) h'' s.heap.objs.size (.tup [.int (k + (i : Nat)), x]) := ⟨(show 2 ≤ sizeLine by decide), [.int (k + (i : Nat)) tk, x'], .cons ⟨_, rfl⟩ (.cons ru .nil), ⟨_, hT2, rfl, _, rfl⟩⟩
    have I1 : Inv X pins σ (upd H s.heap.objs.size (.tup [.int (k + (i : Nat)), x])) { s with heap := h'', toks := tk + 1 } :=
      I.turnedNew (t' := tk + 1) (ch := [e, it]) (fun b ob hb q => by
        rw [List.mem_cons, List.mem_singleton, not_or] at hb
        exact (sb.2 b hb.1).trans (hk b ob hb.1 hb.2 q)) hf (Nat.le_refl _) new
    refine ⟨.ref s.heap.objs.size, _, I1, rfl, ⟨_, x, rfl, I.hok.fresh (Nat.le_refl _), rfl, fun ys hy => by rw [I.tuple_inj hy hq]; exact hx⟩, ⟨⟨x', ?_⟩, hst'.1.at fun o q => (sb.2 it (Ne.symm hne)).trans q, hne⟩, fun b hb => ?_⟩
    · have e1 : k + ((i + 1 : Nat) : Int) = k + (i : Int) + 1 := by omega
      rw [e1]
      exact he'
    · have hb' : b < s.heap.objs.size := by
        rw [List.mem_cons, List.mem_singleton] at hb
        rcases hb with rfl | rfl
        · exact lte
        · exact lti
      rw [upd_ne (Nat.ne_of_lt hb')]
      exact (hf b hb).1
  done := by
    intro X hP hw hK hc i pins s σ H E I hf st hg
    subst hP hw hK
    obtain ⟨⟨old, he⟩, hit, hne⟩ := st
    obtain ⟨xs, hq, hx⟩ := hg
    obtain ⟨its, rv, p, _⟩ := I.tuple hq
    obtain ⟨f0, f1, f2, f3, f4, f5⟩ := hf it (by simp)
    have hl := rv.length
    have hend : its.toArray[i]? = none := by simp; omega
    unfold pyNext
    have hT : s.TypeIs (.ref e) "enumerate" := ⟨_, he, rfl⟩
    refine wpAny_bind (wpAny_attempt (wpAny_callSpecial?_slot (name := Str.ofString "__next__") hT F.slot_enumerate_next (wpAny_call_entry F.slot_enumerate_next hT F.entry_enumerate_next ?_ (F.args_enumerate_next_1 _))))
    show wpAny _ _ (field (.ref e) 2 >>= _) _ _ _
    refine wpAny_bind (wpAny_field he rfl (x := .ref it) rfl (wpAny_bind (wpAny_nextOf_tuple_end (I.ok.hd hc) hit p hend fun h' x he' hx' => ?_)))
    obtain ⟨o, ho, hc'⟩ := hx'
    exact wpAny_bind (wpAny_isInstance (T := "StopIteration") (b := true) ⟨o, ho, hc'⟩ isSubtype_stop (wpAny_pure ⟨rfl, I.turned (t' := s.toks) (fun b o hb q => he' b o hb q) f0 f1 f3 f4 f5⟩))
  self := fun A i s Q E st h => wpAny_pyIter_enum st.1.choose_spec h
def iEnumA (K : PySem.W.Frag) (ta : TA) : TI := fun σ H R => ta σ H fun vs H1 => (∃ a xs, vs = [.ref a] ∧ SqL K H1 a xs ∧ R (Ite K a) H1) ∨ ∃ a xs, vs = [.ref a] ∧ SqT K H1 a xs ∧ R (IteT K a 0) H1
theorem pi_enumA {X : Cx} {e : Expr} {ta : TA} {p pos tpos : Pos} {elts : List Expr} {kk : Nat} (hg : Gl X "enumerate") (hm : X.mg "enumerate" = none) (ha : PA X [e] ta) (hs : starEach [e] X.env = [(false, eval e X.env)] := by rfl) :
    PI X (.Tuple elts kk tpos) (.Call (.Name "enumerate" p) [e] [] pos) (iEnumA X.K ta) := by
  constructor
  intro pins s σ H R I h
  refine Call_ (ld_blt I hg hm boot_enumerate (PyProof.Rows.callWith_type1 (thn (ha.run pos pins s σ H _ I h) fun us s1 hh => ?_) hs rfl))
  obtain ⟨vs, H1, I1, r1, q1⟩ := hh
  have near : ∀ b, b ∈ [s1.heap.objs.size + 1, s1.heap.objs.size] → s1.heap.objs.size ≤ b := fun b hb => by
    rw [List.mem_cons, List.mem_singleton] at hb
    omega
  rcases q1 with ⟨a, xs, rfl, hq, q⟩ | ⟨a, xs, rfl, hq, q⟩
  · obtain ⟨u, rfl, ru⟩ := vals1 r1
    cases ru
    obtain ⟨its, rv, p', _⟩ := I1.list hq
    refine call_enumerate_list p'.isList fun h' he hit _ hk => wpAny_pyIter_enum he ?_
    exact ⟨_, [s1.heap.objs.size + 1, s1.heap.objs.size], _, _, H1, rfl, I1.kept (t' := s1.toks) hk, turn_enum a _ s1.heap.objs.size, ⟨⟨.none, he⟩, hit, Nat.succ_ne_self _⟩, fun b hb => I1.fpOk (near b hb) (I1.hok.fresh (near b hb)), q⟩
  · obtain ⟨u, rfl, ru⟩ := vals1 r1
    cases ru
    obtain ⟨its, rv, p', _⟩ := I1.tuple hq
    have hlt : a < s1.heap.objs.size := p'.lt
    refine PySem.EnumOne.call (begins_tuple a its.toArray) p' fun h' he ho hk => wpAny_pyIter_enum he ?_
    refine ⟨_, [s1.heap.objs.size + 1, s1.heap.objs.size], _, _, H1, rfl, I1.kept (t' := s1.toks) hk, turn_enumT a _ s1.heap.objs.size 0 (Nat.ne_of_lt hlt) (Nat.ne_of_lt (Nat.lt_succ_of_lt hlt)), ⟨⟨.none, ?_⟩, ⟨_, ho, rfl, rfl⟩, Nat.succ_ne_self _⟩, fun b hb => I1.fpOk (near b hb) (I1.hok.fresh (near b hb)), q⟩
    simpa using he
end MI
set_option Elab.async false
set_option linter.all false
set_option maxRecDepth 100000
set_option maxHeartbeats 1000000
/-! ### t[::-1] of a tuple -/
namespace PySem
namespace TupBack
open PySem.W PySem.Calls PyProof.Rows HT
theorem adjust (n : Nat) : Builtin.Slice.sliceAdjust none none (-1) (n : Int) = ((n : Int) - 1, -1) := by
  unfold Builtin.Slice.sliceAdjust
  simp
theorem places (n : Nat) : Builtin.Slice.slicePlaces ((n : Int) - 1) (-1) (-1) = n := by
  unfold Builtin.Slice.slicePlaces
  simp
  omega
theorem fm_map {α β : Type} {f : α → Option β} {g : α → β} : ∀ l : List α, (∀ m ∈ l, f m = some (g m)) → l.filterMap f = l.map g
  | [], _ => rfl
  | a :: l, h => by
    rw [List.filterMap_cons, h a List.mem_cons_self, List.map_cons, fm_map l fun m hm => h m (List.mem_cons_of_mem _ hm)]
theorem pick (xs : Array Value) : ((List.range xs.size).filterMap fun (m : Nat) => xs[(((xs.size : Int) - 1) + (m : Int) * (-1)).toNat]?) = xs.toList.reverse := by
  have e : ∀ m ∈ List.range xs.size, xs[(((xs.size : Int) - 1) + (m : Int) * (-1)).toNat]? = some (xs.toList.reverse[m]?.getD .none) := fun m hm => by
    rw [List.mem_range] at hm
    have h1 : (((xs.size : Int) - 1) + (m : Int) * (-1)).toNat = xs.size - 1 - m := by omega
    have h2 : m < xs.toList.reverse.length := by simpa using hm
    rw [h1, List.getElem?_eq_getElem h2, Option.getD_some, List.getElem_reverse]
    have h3 : xs.size - 1 - m < xs.size := by omega
    rw [Array.getElem?_eq_getElem h3]
    simp
  rw [fm_map _ e]
  apply List.ext_getElem?
  intro i
  rw [List.getElem?_map]
  by_cases h : i < xs.size
  · have h2 : i < xs.toList.reverse.length := by simpa using h
    rw [List.getElem?_range h, Option.map_some, List.getElem?_eq_getElem h2, Option.getD_some]
  · rw [List.getElem?_eq_none_iff.mpr (by simpa using Nat.le_of_not_lt h), List.getElem?_eq_none_iff.mpr (by simpa using Nat.le_of_not_lt h)]
    rfl
section
variable {prog : Program} {w : World} {A : Around} {E : Value → Shared → Prop} {s : Shared}
theorem applied {sl : Addr} {vl vu vs : Value} {n : Nat} {Q : Int × Int × Nat → Shared → Prop} (hs : s.heap.IsSliceOf sl vl vu vs) (pl : IsPart vl none) (pu : IsPart vu none) (ps : IsPart vs (some (-1))) (h : Q ((n : Int) - 1, -1, n) s) :
    wpAny (model prog w) A (Builtin.Slice.sliceApplied (.ref sl) (pure (n : Int))) Q E s := by
  obtain ⟨os, h1, h2, h3⟩ := hs
  unfold Builtin.Slice.sliceApplied Builtin.Slice.sliceFields
  refine wpAny_bind (wpAny_bind (wpAny_field h1 h3 (x := vl) rfl (wpAny_bind (wpAny_field h1 h3 (x := vu) rfl (wpAny_bind (wpAny_field h1 h3 (x := vs) rfl (wpAny_pure ?_)))))))
  refine wpAny_bind (slicePart_ ps ?_)
  show wpAny _ _ (if ((-1 : Int) == 0) = true then _ else _) _ _ s
  rw [if_neg (by decide : ¬ ((-1 : Int) == 0) = true)]
  refine wpAny_bind (slicePart_ pl (wpAny_bind (slicePart_ pu (wpAny_bind (wpAny_pure ?_)))))
  show wpAny _ _ (match Builtin.Slice.sliceAdjust none none (-1) (n : Int) with | (lo, hi) => pure (lo, (-1 : Int), Builtin.Slice.slicePlaces lo hi (-1))) _ _ s
  rw [adjust n]
  show wpAny _ _ (pure ((n : Int) - 1, (-1 : Int), Builtin.Slice.slicePlaces ((n : Int) - 1) (-1) (-1))) _ _ s
  rw [places]
  exact wpAny_pure h
theorem item {t sl : Addr} {items : Array Value} {vl vu vs : Value} {Q : Value → Shared → Prop} (ht : IsTup s.heap t items) (hs : s.heap.IsSliceOf sl vl vu vs) (pl : IsPart vl none) (pu : IsPart vu none) (ps : IsPart vs (some (-1))) (hz : items.size ≤ sizeLine)
    (h : Q (.ref s.heap.objs.size) { s with heap := s.heap.push { cls := .type "tuple", data := .seq items.toList.reverse.toArray } }) : wpAny (model prog w) A (getItem (.ref t) (.ref sl)) Q E s := by
  have hT : s.TypeIs (.ref sl) "slice" := ⟨hs.choose, hs.choose_spec.1, hs.choose_spec.2.1⟩
  have fits : sizeOk (.seq items.toList.reverse.toArray) := (show items.toList.reverse.toArray.size ≤ sizeLine by rw [List.size_toArray, List.length_reverse, Array.length_toList]; exact hz)
  unfold getItem
  first | with_reducible refine wpAny_holding ?_ | skip
  first | skip | refine wpAny_bind (wpAny_pure ?_)
  refine wpAny_bind (wpAny_sequenceKey ht.typeIs (by decide) (wpAny_bind (wpAny_callSpecial?_slot (name := Str.ofString "__getitem__") ht.typeIs PyProof.Rows.slot_tuple_getitem (wpAny_call_entry PyProof.Rows.slot_tuple_getitem ht.typeIs entry_tuple_getitem ?_ (args_tuple_getitem _ _)))))
  show wpAny _ _ (Builtin.Tuple.tupleItemsOf (.ref t) >>= _) _ _ s
  refine wpAny_bind (tupleItemsOf_ ht (wpAny_bind (wpAny_typeOf hT ?_)))
  rw [if_pos (by decide : (Value.type "slice" == Value.type "slice") = true)]
  refine wpAny_bind (applied hs pl pu ps ?_)
  have no : ¬ ((((items.size : Int) - 1) == 0 && (-1 : Int) == 1 && items.size == items.size) = true) := by simp
  show wpAny _ _ (if (((items.size : Int) - 1) == 0 && (-1 : Int) == 1 && items.size == items.size) = true then _ else _) _ _ s
  rw [if_neg no, pick]
  first
    | exact wpAny_bind (m := Builtin.Tuple.tupleExact _) (wpAny_newObj_type (wpAny_bind (wpAny_pure (wpAny_pure ⟨_, rfl, wpAny_pure h⟩))) fits)
    | exact wpAny_bind (m := Builtin.Tuple.tupleExact _) (wpAny_newObj_type (wpAny_pure ⟨_, rfl, wpAny_pure h⟩) fits)
    | exact wpAny_bind (wpAny_bind (m := Builtin.Tuple.tupleExact _) (wpAny_newObj_type (wpAny_pure (wpAny_pure ⟨_, rfl, wpAny_pure h⟩)) fits))
end
end TupBack
end PySem
set_option Elab.async false
set_option linter.all false
set_option maxRecDepth 100000
set_option maxHeartbeats 1000000
namespace PySem
namespace ExtTup
open AutoSeq1
theorem meets (l : Addr) (items : Array Value) (n : Nat) (b : Addr) (items2 : Array Value) (n2 : Nat) (dct : Option Addr) (sl : Array (Option Value)) (h0 : ¬ (!items.isEmpty && Builtin.List.listTooLong (items.size + items2.size)) = true) (h1 : items.size + items2.size ≤ sizeLine) :
    Meets (Builtin.«list.extend» ⟨[.ref l, .ref b], []⟩) (fun _ R s => s.heap.get? l = some { cls := .type "list", data := .seq items n } ∧ s.heap.get? b = some { cls := .type "tuple", dict := dct, data := .seq items2 n2, slots := sl } ∧ R (.ok (.ret Value.none)) { s with heap := s.heap.update l (Obj.mapSeq fun x => x ++ items2) }) := by
  refine .of_wp fun prog w A R s h => ?_
  obtain ⟨hp, g, d, tk, os⟩ := s
  obtain ⟨hl, hb, h⟩ := h
  have hs0 := h0
  have f1 := idx_int; have f2 := sub_tuple_tuple; have f3 := sub_list_list; have f4 := sub_tuple_list; have f5 := sub_list_tuple
  have fit : (items ++ items2).size ≤ sizeLine + 1 := by rw [Array.size_append]; omega
  wp_walk using (wpAny_updateSeq hl rfl (hz := by omega) (_hz' := fit)), wpAny_loadPart' hl, wpAny_loadPart' hb
  exact ⟨_, rfl, h⟩
end ExtTup
end PySem
namespace MI
open PySem PySem.Spec PyProof.Rows L2
/-! ### e[::-1] -/
def tRevA (K : PySem.W.Frag) (te : TE) : TE := fun σ H Q => te σ H fun x H1 => (∃ a xs, x = .ref a ∧ SqL K H1 a xs ∧ ∀ p, H1 p = none → Q (.ref p) (upd H1 p (.lst xs.reverse))) ∨ ∃ a xs, x = .ref a ∧ SqT K H1 a xs ∧ ∀ p, H1 p = none → Q (.ref p) (upd H1 p (.tup xs.reverse))
section
variable {X : Cx} {G : Gx} {W : WX} {e a b c : Expr} {es : List Expr} {pos : Pos} {d da db dc : Den} {dr : DenL}
theorem pe_revA {k : Nat} {p1 p2 p3 : Pos} {te : TE} (he : PE X e te) : PE X (.Subscript e (.Slice none none (some (.UnaryOp .USub (.Constant (.int 1) k p1) p2)) p3) pos) (tRevA X.K te) := by
  constructor
  intro pins s σ H Q I h
  have step : PO X (some (.UnaryOp .USub (.Constant (.int 1) k p1) p2)) (tPart (tUn (rU fun i => .int (-i)) (tC (.int 1)))) := po_some (pe_un un_neg pe_int)
  refine Subscript_ (thn (he.run pins s σ H _ I h) fun v s1 hh => ?_)
  obtain ⟨x, H1, I1, r1, q1⟩ := hh
  refine wpAny_Slice (thn (po_none.run pins s1 σ H1 (fun o H2 => o = none ∧ H2 = H1) I1 ⟨rfl, rfl⟩) fun vl s2 h2 => ?_)
  obtain ⟨_, _, I2, pl, rfl, rfl⟩ := h2
  refine thn (po_none.run pins s2 σ _ (fun o H3 => o = none ∧ H3 = _) I2 ⟨rfl, rfl⟩) fun vu s3 h3 => ?_
  obtain ⟨_, _, I3, pu, rfl, rfl⟩ := h3
  refine thn (step.run pins s3 σ _ (fun o H4 => o = some (-1) ∧ H4 = _) I3 ⟨1, rfl, -1, rfl, rfl, rfl⟩) fun vs s4 h4 => ?_
  obtain ⟨_, _, I4, ps, rfl, rfl⟩ := h4
  have I5 := I4.kept (t' := s4.toks) (h' := s4.heap.push { cls := .type "slice", data := .fields #[vl, vu, vs] }) fun b ob q => Heap.get?_push_of_some _ q
  have hf := I5.hok.fresh (Nat.le_refl _)
  rcases q1 with ⟨a, xs, rfl, hx, q⟩ | ⟨a, xs, rfl, hx, q⟩
  · cases r1
    obtain ⟨its, r, ht, hz⟩ := I5.list hx
    show wpAny _ _ (subscriptTail e _ (.ref a) (.ref s4.heap.objs.size)) _ _ _
    refine tail_any (ops := [.ref a, .ref s4.heap.objs.size]) ht.isList.typeIs PySem.slot_list_getitem.lookup (wpAny_getItem_list_slice ht.isList (Heap.IsSliceOf.new _ vl vu vs) pl pu ps (by decide) ?_ (by rw [List.size_toArray, ← r.length]; exact hz)) (by with_unfolding_all rfl)
    rw [PySem.W.krv_pick]
    exact ⟨.ref _, _, I5.laid (t' := s4.toks) (o := .lst xs.reverse) (fun b ob q => Heap.get?_push_of_some _ q) (Nat.le_refl _) ⟨by rw [List.length_reverse]; exact hz, _, 0, r.reverse, Heap.get?_push_size _ rfl⟩, rfl, q _ hf⟩
  · cases r1
    obtain ⟨its, r, ht, hz⟩ := I5.tuple hx
    show wpAny _ _ (subscriptTail e _ (.ref a) (.ref s4.heap.objs.size)) _ _ _
    refine tail_any (ops := [.ref a, .ref s4.heap.objs.size]) ht.typeIs PyProof.Rows.slot_tuple_getitem.lookup (PySem.TupBack.item ht (Heap.IsSliceOf.new _ vl vu vs) pl pu ps (by rw [List.size_toArray, ← r.length]; exact hz) ?_) (by with_unfolding_all rfl)
    exact ⟨.ref _, _, I5.laid (t' := s4.toks) (o := .tup xs.reverse) (fun b ob q => Heap.get?_push_of_some _ q) (Nat.le_refl _) ⟨by rw [List.length_reverse]; exact hz, _, r.reverse, IsTup.new _ _⟩, rfl, q _ hf⟩
def fBack (w : MV) (S : Store) : Res MV := match w with
  | .tup l => .ok (.tup l.reverse) S
  | w => fRev w S
theorem de_back {k : Nat} {p1 p2 p3 : Pos} (hK : X.K = G.K) (ha : DE X G W a da) : DE X G W (.Subscript a (.Slice none none (some (.UnaryOp .USub (.Constant (.int 1) k p1) p2)) p3) pos) (dUn fBack da) := by
  refine ⟨PE.imp (pe_revA ha.run) fun σ H Q h => ?_⟩
  obtain ⟨ι, S, ρ, s, re, h⟩ := h
  refine ⟨ι, S, ρ, s, re, (fin.bind h).mono fun w ι1 H1 S1 p _ h1 v r => ?_⟩
  obtain ⟨S1, s1, _, re1, _, h1⟩ := h1
  rw [hK]
  unfold fBack at h1
  split at h1
  · cases r with
    | tup t q => exact .inr ⟨_, _, rfl, t, new_tup s1 (rws_rev q) h1⟩
  · unfold fRev at h1
    split at h1
    · cases r with
      | ref i =>
        split at h1
        · rename_i l hS
          obtain ⟨vs, g, q⟩ := s1.obj _ _ _ hS i
          exact .inl ⟨_, _, rfl, .of g, new_lst s1 (rws_rev q) h1⟩
        · rename_i l hS
          obtain ⟨o, vs, g, q, _⟩ := s1.obj _ _ _ hS i
          exact .inl ⟨_, _, rfl, .inl (.inr ⟨o, g⟩), new_lst s1 (rws_rev q) h1⟩
        · exact h1.elim
    · exact h1.elim
/-! ### enumerate, zip -/
def srcEnumL (k : Int) (l : List MV) : Src := fun i _ => match l[i]? with
  | some w => .yield (.tup [.int (k + i), w])
  | none => .stop
def srcEnumR (n : Nat) : Src := fun i S => match S[n]? with
  | some (.lst l) => (match l[i]? with
    | some w => .yield (.tup [.int i, w])
    | none => .stop)
  | some (.rol l) => (match l[i]? with
    | some w => .yield (.tup [.int i, w])
    | none => .stop)
  | _ => .stuck
def enumOf (ws : List MV) (S : Store) : Res Src := match ws with
  | [.tup l] => .ok (srcEnumL 0 l) S
  | [.ref n] => match S[n]? with
    | some (.lst _) => .ok (srcEnumR n) S
    | some (.rol _) => .ok (srcEnumR n) S
    | _ => .stuck
  | _ => .stuck
theorem pair_ok {ι : List Addr} {H : Hp} {S : Store} {T : Addr} {w1 w2 : MV} {v1 v2 : V} (s : Sim G ι H S) (hT : H T = none) (r1 : RW G ι H w1 v1) (r2 : RW G ι H w2 v2) : Post G ι H ι (upd H T (.tup [v1, v2])) S ∧ RW G ι (upd H T (.tup [v1, v2])) (.tup [w1, w2]) (.ref T) := by
  have q := s.lay hT (.tup [v1, v2])
  exact ⟨q, .tup (.of upd_same) (.cons (q.rw r1) (.cons (q.rw r2) .nil))⟩
theorem it_enumT {K : PySem.W.Frag} (hK : K = G.K) {ι : List Addr} {H : Hp} {a : Addr} {vs : List V} {l : List MV} {k : Int} (t : SqT K H a vs) (q : RWs G ι H l vs) : ItOk G ι H (IteT K a k) (srcEnumL k l) := fun i ι1 H1 S1 p => by
  subst hK
  have t1 := p.tup _ _ t
  have q1 := p.rws q
  unfold srcEnumL
  cases e : l[i]? with
  | some w =>
    obtain ⟨v, e2, r⟩ := q1.get e
    refine ⟨⟨vs, v, t1, e2⟩, fun x H' y => ?_⟩
    obtain ⟨T, x', rfl, hT, rfl, y⟩ := y
    have z := y vs t1
    rw [e2] at z
    cases z
    exact pair_ok p.sim hT (.int _) r
  | none =>
    refine ⟨vs, t1, ?_⟩
    rw [← q1.length]
    exact List.getElem?_eq_none_iff.mp e
theorem it_enumR {K : PySem.W.Frag} (hK : K = G.K) {ι : List Addr} {H : Hp} {a : Addr} {n : Nat} (t : ι[n]? = some a) : ItOk G ι H (Ite K a) (srcEnumR n) := fun i ι1 H1 S1 p => by
  subst hK
  have t1 := p.ext _ _ t
  have main : ∀ (l : List MV) (vs : List V), SqL G.K H1 a vs → RWs G ι1 H1 l vs → (match (match l[i]? with
    | some w => Nx.yield (.tup [.int i, w])
    | none => .stop) with
    | .yield w => (Ite G.K a).go i H1 ∧ ∀ x H', (Ite G.K a).yld i H1 x H' → Post G ι1 H1 ι1 H' S1 ∧ RW G ι1 H' w x
    | .stop => (Ite G.K a).stop i H1
    | .stuck => True) := fun l vs hs q1 => by
    cases e : l[i]? with
    | some w =>
      obtain ⟨v, e2, r⟩ := q1.get e
      refine ⟨⟨vs, v, hs, e2⟩, fun x H' y => ?_⟩
      obtain ⟨T, x', rfl, hT, rfl, y⟩ := y
      have z := y vs hs
      rw [e2] at z
      cases z
      exact pair_ok p.sim hT (.int _) r
    | none =>
      refine ⟨vs, hs, ?_⟩
      rw [← q1.length]
      exact List.getElem?_eq_none_iff.mp e
  unfold srcEnumR
  cases hS : S1[n]? with
  | none => trivial
  | some o =>
    cases o with
    | lst l =>
      obtain ⟨vs, g, q1⟩ := p.sim.obj _ _ _ hS t1
      exact main l vs (.of g) q1
    | rol l =>
      obtain ⟨o, vs, g, q1, _⟩ := p.sim.obj _ _ _ hS t1
      exact main l vs (.inl (.inr ⟨o, g⟩)) q1
    | dic kvs => trivial
    | ins c fs => trivial
    | tpo l => trivial
    | tpp l => trivial
    | dct kvs => trivial
    | fdt kvs => trivial
    | set zs => trivial
theorem di_enum {p tpos : Pos} {elts : List Expr} {kk : Nat} (hK : X.K = G.K) (hg : Gl X "enumerate") (hm : X.mg "enumerate" = none) (ha : DA X G W [a] dr) (hs : starEach [a] X.env = [(false, eval a X.env)] := by rfl) :
    DI X G W (.Tuple elts kk tpos) (.Call (.Name "enumerate" p) [a] [] pos) (iRng enumOf dr) := ⟨PI.imp (pi_enumA hg hm ha.run hs) fun σ H R h => by
  obtain ⟨ι, S, ρ, s, re, h⟩ := h
  refine ⟨ι, S, ρ, s, re, (fin.bind h).mono fun ws ι1 H1 S1 p _ h1 vs r => ?_⟩
  obtain ⟨S1, s1, _, _, _, h1⟩ := h1
  unfold enumOf at h1
  split at h1
  · obtain ⟨v, rfl, r1⟩ := rws1 r
    cases r1 with
    | tup t q => exact .inr ⟨_, _, rfl, by rw [hK]; exact t, h1 ι1 H1 (.refl s1) _ (it_enumT hK (by rw [hK]; exact t) q)⟩
  · obtain ⟨v, rfl, r1⟩ := rws1 r
    cases r1 with
    | ref i =>
      split at h1
      · rename_i hS
        obtain ⟨vs, g, q⟩ := s1.obj _ _ _ hS i
        exact .inl ⟨_, vs, rfl, .of g, h1 ι1 H1 (.refl s1) _ (it_enumR hK i)⟩
      · rename_i hS
        obtain ⟨o, vs, g, q, _⟩ := s1.obj _ _ _ hS i
        exact .inl ⟨_, vs, rfl, .inl (.inr ⟨o, g⟩), h1 ι1 H1 (.refl s1) _ (it_enumR hK i)⟩
      · exact h1.elim
  · exact h1.elim⟩
def srcZipT (l m : List MV) : Src := fun i _ => match l[i]?, m[i]? with
  | some w, some u => .yield (.tup [w, u])
  | _, _ => .stop
def zipOf (ws : List MV) (S : Store) : Res Src := match ws with
  | [.tup l, .tup m] => .ok (srcZipT l m) S
  | _ => .stuck
theorem it_zipT {K : PySem.W.Frag} (hK : K = G.K) {ι : List Addr} {H : Hp} {a b : Addr} {vs us : List V} {l m : List MV} (t : SqT K H a vs) (q : RWs G ι H l vs) (t' : SqT K H b us) (q' : RWs G ι H m us) : ItOk G ι H (RZ.ItzT K a b) (srcZipT l m) := fun i ι1 H1 S1 p => by
  subst hK
  have t1 := p.tup _ _ t
  have q1 := p.rws q
  have t2 := p.tup _ _ t'
  have q2 := p.rws q'
  unfold srcZipT
  cases e : l[i]? with
  | some w =>
    cases e' : m[i]? with
    | some u =>
      obtain ⟨v, f, r⟩ := q1.get e
      obtain ⟨v', f', r'⟩ := q2.get e'
      refine ⟨⟨vs, us, v, v', t1, t2, f, f'⟩, fun x H' y => ?_⟩
      obtain ⟨T, x1, x2, rfl, hT, rfl, y1, y2⟩ := y
      have z1 := y1 vs t1
      have z2 := y2 us t2
      rw [f] at z1
      rw [f'] at z2
      cases z1
      cases z2
      exact pair_ok p.sim hT r r'
    | none =>
      refine ⟨vs, us, t1, t2, .inr ?_⟩
      rw [← q2.length]
      exact List.getElem?_eq_none_iff.mp e'
  | none =>
    refine ⟨vs, us, t1, t2, .inl ?_⟩
    rw [← q1.length]
    exact List.getElem?_eq_none_iff.mp e
theorem di_zip {p tpos : Pos} {elts : List Expr} {kk : Nat} (hK : X.K = G.K) (hg : Gl X "zip") (hm : X.mg "zip" = none) (ha : DA X G W [a, b] dr) (hs : starEach [a, b] X.env = (false, eval a X.env) :: starEach [b] X.env := by rfl) (hpl : (backTo pos (starEach [b] X.env)).any (·.1) = false := by rfl) :
    DI X G W (.Tuple elts kk tpos) (.Call (.Name "zip" p) [a, b] [] pos) (iRng zipOf dr) := ⟨PI.imp (RZ.pi_zipA hg hm ha.run hs hpl) fun σ H R h => by
  obtain ⟨ι, S, ρ, s, re, h⟩ := h
  refine ⟨ι, S, ρ, s, re, (fin.bind h).mono fun ws ι1 H1 S1 p _ h1 vs r => ?_⟩
  obtain ⟨S1, s1, _, _, _, h1⟩ := h1
  unfold zipOf at h1
  split at h1
  · obtain ⟨v, v2, rfl, r1, r2⟩ := rws2 r
    cases r1 with
    | tup t q => cases r2 with
      | tup t' q' => exact ⟨_, _, _, _, rfl, .inr ⟨by rw [hK]; exact t, by rw [hK]; exact t', h1 ι1 H1 (.refl s1) _ (it_zipT hK (by rw [hK]; exact t) q (by rw [hK]; exact t') q')⟩⟩
  · exact h1.elim⟩
/-! ### *e among items -/
def aStar (d : Den) (r : DenL) : DenL := fun ρ S => (d ρ S).bind fun w S1 => match itemsOf w S1 with
  | some l => (r ρ S1).bind fun ws S2 => .ok (l ++ ws) S2
  | none => .stuck
theorem da_star {p : Pos} (hK : X.K = G.K) (ha : DE X G W a da) (hr : DA X G W es dr) (hs : starEach (.Starred a p :: es) X.env = (true, eval a X.env) :: starEach es X.env := by rfl) : DA X G W (.Starred a p :: es) (aStar da dr) := ⟨PA.imp (StX.pa_star ha.run hr.run hs) fun σ H Q h => by
  obtain ⟨ι, S, ρ, s, re, h⟩ := h
  refine ⟨ι, S, ρ, s, re, (fin.bind h).mono fun w ι1 H1 S1 p _ h1 v r => ?_⟩
  obtain ⟨S1, s1, m1, re1, _, h1⟩ := h1
  split at h1
  · rename_i l e
    obtain ⟨x, us, rfl, t, q⟩ := items_ok s1 r e
    refine ⟨x, us, rfl, by rw [hK]; exact t.symm, ι1, S1, ρ, s1, re1 _ _ re, (fin.bind h1).mono fun ws ι2 H2 S2 p2 _ h2 vs rs => ?_⟩
    obtain ⟨S2, s2, m2, _, _, h2⟩ := h2
    exact h2 ι2 H2 (.refl s2) _ ((q.mono (fun n a e => by
      have := m2 (.ref n) (.ref a) (.ref e)
      cases this with
      | ref z => exact z) (fun a xs t => p2.tup a xs t)).append rs)
  · exact h1.elim⟩
/-! ### all, any over a list of True and False -/
def bools : List MV → Option (List Bool)
  | [] => some []
  | .bl k :: l => (bools l).map (k :: ·)
  | _ :: _ => none
theorem bools_ok {ι : List Addr} {H : Hp} : ∀ {l : List MV} {vs : List V} {bs : List Bool}, RWs G ι H l vs → bools l = some bs → vs = bs.map V.bl
  | [], _, bs, r, e => by cases r; cases e; rfl
  | w :: l, _, bs, r, e => by
    cases r with
    | cons r1 r2 =>
      cases w with
      | bl k =>
        cases r1
        unfold bools at e
        cases e2 : bools l with
        | none => rw [e2] at e; cases e
        | some bs2 =>
          rw [e2] at e
          cases e
          rw [bools_ok r2 e2]
          rfl
      | non => cases e
      | int i => cases e
      | str s => cases e
      | tup l => cases e
      | ref n => cases e
      | out k => cases e
def fAllAny (f : List Bool → Bool) : FnM := fun ws S => match ws with
  | [.ref n] => match S[n]? with
    | some (.lst l) => match bools l with
      | some bs => .ok (.bl (f bs)) S
      | none => .stuck
    | _ => .stuck
  | _ => .stuck
theorem w_allAny (f : List Bool → Bool) : ClW G (fAllAny f) (fun vs H Q => ∃ (a : Addr) (bs : List Bool), vs = [V.ref a] ∧ SqL G.K H a (bs.map V.bl) ∧ Q (.bl (f bs)) H) := fun ι H S E Q ws vs s r h => by
  unfold fAllAny at h
  split at h
  · obtain ⟨v, rfl, r1⟩ := rws1 r
    cases r1 with
    | ref i =>
      split at h
      · rename_i hS
        obtain ⟨us, g, q⟩ := s.obj _ _ _ hS i
        split at h
        · rename_i bs e
          have z := bools_ok q e
          subst z
          exact ⟨_, bs, rfl, .of g, h ι H (.refl s) _ (.bl _)⟩
        · exact h.elim
      · exact h.elim
  · exact h.elim
theorem de_all {p : Pos} (hK : X.K = G.K) (hc : X.calm = true) (hg : Gl X "all") (hm : X.mg "all" = none) (ha : DA X G W (a :: es) dr)
    (he : starEach (a :: es) X.env = (false, eval a X.env) :: starEach es X.env := by rfl) (hpl : (backTo pos (starEach es X.env)).any (·.1) = false := by rfl) : DE X G W (.Call (.Name "all" p) (a :: es) [] pos) (dCall (fAllAny fun bs => bs.all id) dr) :=
  de_callB (cr_all hc) (by rw [hK]; exact w_allAny _) hg hm (by decide +kernel) ha (by decide) (by decide) he hpl
/-! ### xs.extend(ys), ys a list or a tuple -/
def rExtA (K : PySem.W.Frag) : V → List V → Hp → VK → Prop := fun x vs H Q => rExtend x vs H Q ∨ ∃ l b xs zs, x = .ref l ∧ vs = [.ref b] ∧ H l = some (.lst xs) ∧ SqT K H b zs ∧ xs.length + zs.length ≤ 200000 ∧ Q .non (upd H l (.lst (xs ++ zs)))
theorem mt_extA : MtR X "list.extend" (rExtA X.K) := by
  intro pins s σ H x vs v us Q I rx rv h
  rcases h with h | ⟨l, b, xs, zs, rfl, rfl, hH, hB, hz, q⟩
  · exact mt_extend pins s σ H x vs v us Q I rx rv h
  · cases rx
    obtain ⟨u, rfl, ru⟩ := vals1 rv
    cases ru
    obtain ⟨_, its, n, r, hl, e⟩ := I.lstM hH
    obtain ⟨its2, r2, ⟨⟨oc, od, dt, sl⟩, e2, hc, n2, hd⟩, _⟩ := I.tuple hB
    have hz2 : its.toArray.size + its2.toArray.size ≤ sizeLine := by rw [List.size_toArray, List.size_toArray, ← r.length, ← r2.length, sizeLine_eq]; omega
    have short : ¬ (!its.toArray.isEmpty && Builtin.List.listTooLong (its.toArray.size + its2.toArray.size)) = true := by rw [notLongL hz2, Bool.and_false]; exact Bool.false_ne_true
    simp only at hc hd
    subst hc hd
    refine call_meets PySem.F.slot_list_extend ⟨_, e, rfl⟩ PySem.F.entry_list_extend (PySem.F.args_list_extend_2 _ _) (PySem.ExtTup.meets l its.toArray n b its2.toArray n2 od sl short hz2) ⟨e, e2, ?_⟩
    exact ⟨.non, _, I.lset (its' := its ++ its2) hH e (by simp) (r.append r2) (by rw [List.length_append, sizeLine_eq]; omega), rfl, q⟩
end
end MI
set_option Elab.async false
set_option linter.all false
set_option maxRecDepth 100000
set_option maxHeartbeats 1000000
namespace MI
open PySem PySem.Spec PyProof.Rows L2
section
variable {X : Cx} {G : Gx} {W : WX} {e a b c : Expr} {es : List Expr} {pos : Pos} {d da db dc : Den} {dr : DenL}
/-! ### extend, insert, pop -/
def fExtend (o : MV) (ws : List MV) (S : Store) : Res MV := match o, ws with
  | .ref n, [w] => match S[n]? with
    | some (.lst l) => match w with
      | .tup m => if l.length + m.length ≤ 100000 then .ok .non (S.set n (.lst (l ++ m))) else .stuck
      | .ref k => match S[k]? with
        | some (.lst m) => if l.length + m.length ≤ 100000 then .ok .non (S.set n (.lst (l ++ m))) else .stuck
        | _ => .stuck
      | _ => .stuck
    | _ => .stuck
  | _, _ => .stuck
theorem w_extend : MtW G fExtend (rExtA G.K) := fun ι H S E Q w v ws vs s r1 r2 h => by
  unfold fExtend at h
  split at h
  · cases r1 with
    | ref i =>
      split at h
      · rename_i l hS
        obtain ⟨xs, g, q⟩ := s.obj _ _ _ hS i
        obtain ⟨y, rfl, r3⟩ := rws1 r2
        split at h
        · cases r3 with
          | tup t q2 =>
            split at h
            · rename_i hz
              exact .inr ⟨_, _, xs, _, rfl, rfl, g, t, by rw [← q.length, ← q2.length]; omega, lst_write s i g (q.append q2) h⟩
            · exact h.elim
        · cases r3 with
          | ref i2 =>
            split at h
            · rename_i hS2
              obtain ⟨zs, g2, q2⟩ := s.obj _ _ _ hS2 i2
              split at h
              · rename_i hz
                exact .inl ⟨_, _, xs, zs, rfl, rfl, g, g2, by rw [← q.length, ← q2.length]; exact big_ok hz, lst_write s i g (q.append q2) h⟩
              · exact h.elim
            · exact h.elim
        · exact h.elim
      · exact h.elim
  · exact h.elim
theorem de_extend {apos : Pos} (hK : X.K = G.K) (ho : DE X G W a da) (ha : DA X G W (b :: es) dr) (hbase : attributeBase a "extend" X.env (eval a X.env) = eval a X.env := by rfl)
    (hfew : ((backTo pos (starEach (b :: es) X.env)).all (fun x => !x.1) && (backToKw pos (keywordEach [] X.env)).all (fun x => x.1.isSome)
      && decide ((b :: es).length + ([] : List Keyword).length + (if ([] : List Keyword).isEmpty then 0 else 1) < 30)) = true := by rfl)
    (hline : (apos.endLine == pos.line) = true := by rfl) (hs : starEach (b :: es) X.env = (false, eval b X.env) :: starEach es X.env := by rfl) (hplain : (backTo pos (starEach es X.env)).any (·.1) = false := by rfl) :
    DE X G W (.Call (.Attribute a "extend" apos) (b :: es) [] pos) (dMet isLst fExtend da dr) :=
  ⟨PE.imp (pe_bm PySem.F.plainAttrs_list PySem.F.slot_list_extend PySem.F.type_list_extend mt_extA ho.run ha.run hbase hfew hline hs hplain) fun σ H Q h => by rw [hK]; exact met_imp w_extend h⟩
/-! ### a op b op c -/
theorem chain_imp {f g : MV → MV → Store → Res MV} {r r' : R2} (h1 : OpW G f r) (h2 : OpW G g r') {σ : L2.St} {H : Hp} {Q : VK} (h : tD G W (dChain f g da db dc) σ H Q) : tChain r r' (tD G W da) (tD G W db) (tD G W dc) σ H Q := by
  obtain ⟨ι, S, ρ, s, re, h⟩ := h
  refine ⟨ι, S, ρ, s, re, (fin.bind h).mono fun w1 ι1 H1 S1 p _ k1 v1 r1 => ?_⟩
  obtain ⟨S1, s1, m1, n1, _, k1⟩ := k1
  have re1 := n1 _ _ re
  refine ⟨ι1, S1, ρ, s1, re1, (fin.bind k1).mono fun w2 ι2 H2 S2 p2 _ k2 v2 r2 => ?_⟩
  obtain ⟨S2, s2, m2, n2, _, k2⟩ := k2
  have re2 := n2 _ _ re1
  refine h1 ι2 H2 S2 (fun c x H' => W c x σ H') _ w1 w2 v1 v2 s2 (m2 _ _ r1) r2 ((fin.bind k2).mono fun w3 ι3 H3 S3 p3 _ k3 v3 r3 => ?_)
  obtain ⟨S3, s3, m3, n3, _, k3⟩ := k3
  split at k3
  · cases r3
    refine ⟨true, rfl, ?_⟩
    rw [if_pos rfl]
    refine ⟨ι3, S3, ρ, s3, n3 _ _ re2, (fin.bind k3).mono fun w4 ι4 H4 S4 p4 _ k4 v4 r4 => ?_⟩
    obtain ⟨S4, s4, m4, _, _, k4⟩ := k4
    exact h2 ι4 H4 S4 _ Q w2 w4 v2 v4 s4 (m4 _ _ (m3 _ _ r2)) r4 k4
  · cases r3
    refine ⟨false, rfl, ?_⟩
    rw [if_neg Bool.false_ne_true]
    exact k3 ι3 H3 (.refl s3) _ (.bl _)
  · exact k3.elim
theorem de_chain {op op' : CmpOp} {f g : MV → MV → Store → Res MV} (k : CmpOk X G op f) (k' : CmpOk X G op' g) (ha : DE X G W a da) (hb : DE X G W b db) (hc : DE X G W c dc) (hm : lastMarks [op, op'] [b, c] = false := by with_unfolding_all rfl) :
    DE X G W (.Compare a [op, op'] [b, c] pos) (dChain f g da db dc) := by
  obtain ⟨r, h1, h2⟩ := k.ex
  obtain ⟨r', h1', h2'⟩ := k'.ex
  exact ⟨PE.imp (pe_chain h1 h1' ha.run hb.run hc.run hm) fun _ _ _ h => chain_imp h2 h2' h⟩
theorem dt_chain {op op' : CmpOp} {f g : MV → MV → Store → Res MV} (k : CmpOk X G op f) (k' : CmpOk X G op' g) (ha : DE X G W a da) (hb : DE X G W b db) (hc : DE X G W c dc) (hm : lastMarks [op, op'] [b, c] = false := by with_unfolding_all rfl) :
    DT X G W (.Compare a [op, op'] [b, c] pos) (fun ρ S => (dChain f g da db dc ρ S).bind boolOf) := by
  obtain ⟨r, h1, h2⟩ := k.ex
  obtain ⟨r', h1', h2'⟩ := k'.ex
  exact ⟨PT.imp (pt_chain h1 h1' ha.run hb.run hc.run hm) fun _ _ _ h => chain_imp h2 h2' (test_imp h)⟩
/-! ### a dict that the top has written -/
structure WTab (G : Gx) (w : World) (d : Addr) (tbl : List (Str × MV)) : Prop where
  kd : ∃ es n, KDict G.K w d es n
  yes : ∀ z w', tbl.lookup z = some w' → ∃ u v, PySem.W.nsIn G.K d z = some (some u) ∧ RelV v u ∧ KC G w' v
  no : ∀ z, tbl.lookup z = none → PySem.W.nsIn G.K d z = some none
def fInK (tbl : List (Str × MV)) (w : MV) (S : Store) : Res MV := match w with
  | .str z => .ok (.bl (tbl.lookup z).isSome) S
  | _ => .stuck
def fNotInK (tbl : List (Str × MV)) (w : MV) (S : Store) : Res MV := match w with
  | .str z => .ok (.bl (!(tbl.lookup z).isSome)) S
  | _ => .stuck
def fIxK (tbl : List (Str × MV)) (w : MV) (S : Store) : Res MV := match w with
  | .str z => match tbl.lookup z with
    | some w' => .ok w' S
    | none => .stuck
  | _ => .stuck
theorem WTab.some_ {w : World} {d : Addr} {tbl : List (Str × MV)} (T : WTab G w d tbl) (z : Str) : ∃ r, PySem.W.nsIn G.K d z = some r ∧ r.isSome = (tbl.lookup z).isSome := by
  cases e : tbl.lookup z with
  | none => exact ⟨none, T.no z e, rfl⟩
  | some w' =>
    obtain ⟨u, v, h, _⟩ := T.yes z w' e
    exact ⟨some u, h, rfl⟩
theorem inK_imp {d : Addr} {tbl : List (Str × MV)} (T : WTab G X.w d tbl) {σ : L2.St} {H : Hp} {Q : VK} (h : tD G W (dUn (fInK tbl) da) σ H Q) :
    tOp (fun x y H Q => ∃ (z : Str) (r : Option Value), x = .str z ∧ y = .ref d ∧ PySem.W.nsIn G.K d z = some r ∧ Q (.bl r.isSome) H) (tD G W da) (tC (.ref d)) σ H Q := by
  obtain ⟨ι, S, ρ, s, re, h⟩ := h
  refine ⟨ι, S, ρ, s, re, (fin.bind h).mono fun w1 ι1 H1 S1 p _ k1 v1 r1 => ?_⟩
  obtain ⟨S1, s1, m1, n1, _, k1⟩ := k1
  unfold fInK at k1
  split at k1
  · cases r1
    obtain ⟨r, e1, e2⟩ := T.some_ _
    exact ⟨_, r, rfl, rfl, e1, by rw [e2]; exact k1 ι1 H1 (.refl s1) _ (.bl _)⟩
  · exact k1.elim
theorem notInK_imp {d : Addr} {tbl : List (Str × MV)} (T : WTab G X.w d tbl) {σ : L2.St} {H : Hp} {Q : VK} (h : tD G W (dUn (fNotInK tbl) da) σ H Q) :
    tOp (fun x y H Q => ∃ (z : Str) (r : Option Value), x = .str z ∧ y = .ref d ∧ PySem.W.nsIn G.K d z = some r ∧ Q (.bl (!r.isSome)) H) (tD G W da) (tC (.ref d)) σ H Q := by
  obtain ⟨ι, S, ρ, s, re, h⟩ := h
  refine ⟨ι, S, ρ, s, re, (fin.bind h).mono fun w1 ι1 H1 S1 p _ k1 v1 r1 => ?_⟩
  obtain ⟨S1, s1, m1, n1, _, k1⟩ := k1
  unfold fNotInK at k1
  split at k1
  · cases r1
    obtain ⟨r, e1, e2⟩ := T.some_ _
    exact ⟨_, r, rfl, rfl, e1, by rw [e2]; exact k1 ι1 H1 (.refl s1) _ (.bl _)⟩
  · exact k1.elim
variable {x : Str} {p : Pos} {dd : Addr} {tbl : List (Str × MV)}
theorem de_inK (hK : X.K = G.K) (T : WTab G X.w dd tbl) (hg : Gl X x) (hm : X.mg x = some (.ref dd)) (ha : DE X G W a da) (hd : (x == ("__debug__" : Str)) = false := by decide) (hb : behindInMarks .In (.Name x p) = false := by rfl) : DE X G W (.Compare a [.In] [.Name x p] pos) (dUn (fInK tbl) da) := by
  obtain ⟨es, n, D⟩ := T.kd
  exact ⟨PE.imp (pe_cmpR (op_in_kd (hK ▸ D)) ha.run (pe_glob (v := .ref dd) hg hm rfl hd) hb) fun _ _ _ h => by rw [hK]; exact inK_imp T h⟩
theorem dt_inK (hK : X.K = G.K) (T : WTab G X.w dd tbl) (hg : Gl X x) (hm : X.mg x = some (.ref dd)) (ha : DE X G W a da) (hd : (x == ("__debug__" : Str)) = false := by decide) (hb : behindInMarks .In (.Name x p) = false := by rfl) : DT X G W (.Compare a [.In] [.Name x p] pos) (fun ρ S => (dUn (fInK tbl) da ρ S).bind boolOf) := by
  obtain ⟨es, n, D⟩ := T.kd
  exact ⟨PT.imp (pt_cmpR (op_in_kd (hK ▸ D)) ha.run (pe_glob (v := .ref dd) hg hm rfl hd) hb) fun _ _ _ h => by rw [hK]; exact inK_imp T (test_imp h)⟩
theorem dt_notInK (hK : X.K = G.K) (T : WTab G X.w dd tbl) (hg : Gl X x) (hm : X.mg x = some (.ref dd)) (ha : DE X G W a da) (hd : (x == ("__debug__" : Str)) = false := by decide) (hb : behindInMarks .NotIn (.Name x p) = false := by rfl) : DT X G W (.Compare a [.NotIn] [.Name x p] pos) (fun ρ S => (dUn (fNotInK tbl) da ρ S).bind boolOf) := by
  obtain ⟨es, n, D⟩ := T.kd
  exact ⟨PT.imp (pt_cmpR (op_notIn_kd (hK ▸ D)) ha.run (pe_glob (v := .ref dd) hg hm rfl hd) hb) fun _ _ _ h => by rw [hK]; exact notInK_imp T (test_imp h)⟩
theorem de_ixK (hK : X.K = G.K) (T : WTab G X.w dd tbl) (hg : Gl X x) (hm : X.mg x = some (.ref dd)) (ha : DE X G W a da) (hs : PlainIx a := by exact fun _ _ => rfl) (hd : (x == ("__debug__" : Str)) = false := by decide) : DE X G W (.Subscript (.Name x p) a pos) (dUn (fIxK tbl) da) := by
  obtain ⟨es, n, D⟩ := T.kd
  refine ⟨PE.imp (pe_ix ix_kdict (pe_glob (v := .ref dd) hg hm rfl hd) ha.run hs) fun σ H Q h => ?_⟩
  obtain ⟨ι, S, ρ, s, re, h⟩ := h
  refine ⟨ι, S, ρ, s, re, (fin.bind h).mono fun w1 ι1 H1 S1 p _ k1 v1 r1 => ?_⟩
  obtain ⟨S1, s1, m1, n1, _, k1⟩ := k1
  unfold fIxK at k1
  split at k1
  · cases r1
    split at k1
    · rename_i w' e
      obtain ⟨u, v, h1, h2, h3⟩ := T.yes _ _ e
      exact ⟨dd, _, v, rfl, rfl, ⟨es, n, u, by rw [hK]; exact D.at_, D.lit, by rw [hK]; exact h1, h2⟩, k1 ι1 H1 (.refl s1) v (h3 ι1 H1)⟩
    · exact k1.elim
  · exact k1.elim
/-! ### instances of own classes -/
def putFM (f : Str) (w : MV) (fs : List (Str × MV)) : List (Str × MV) := match fs with
  | [] => [(f, w)]
  | p :: r => if p.1 = f then (f, w) :: r else p :: putFM f w r
theorem flds_put {ι : List Addr} {H : Hp} {f : Str} {w : MV} {v : V} (q : RW G ι H w v) : ∀ {fs : List (Str × MV)} {fv : List (Str × V)}, fv.map (·.1) = fs.map (·.1) → RWs G ι H (fs.map (·.2)) (fv.map (·.2)) → (putF f v fv).map (·.1) = (putFM f w fs).map (·.1) ∧ RWs G ι H ((putFM f w fs).map (·.2)) ((putF f v fv).map (·.2))
  | [], [], _, _ => ⟨rfl, .cons q .nil⟩
  | [], _ :: _, e, _ => by simp at e
  | _ :: _, [], e, _ => by simp at e
  | p :: fs, r :: fv, e, h => by
    simp only [List.map_cons, List.cons.injEq] at e
    simp only [List.map_cons] at h
    cases h with
    | cons h1 h2 =>
      unfold putF putFM
      by_cases z : p.1 = f
      · have z' : r.1 = f := e.1.trans z
        rw [if_pos z, if_pos z']
        exact ⟨by simp [e.2, z'], .cons q h2⟩
      · have z' : ¬ r.1 = f := fun t => z (e.1.symm.trans t)
        rw [if_neg z, if_neg z']
        obtain ⟨i1, i2⟩ := flds_put (f := f) q e.2 h2
        exact ⟨by simp [i1, e.1], .cons h1 i2⟩
theorem flds_get {ι : List Addr} {H : Hp} {f : Str} {w : MV} : ∀ {fs : List (Str × MV)} {fv : List (Str × V)}, fv.map (·.1) = fs.map (·.1) → RWs G ι H (fs.map (·.2)) (fv.map (·.2)) → fs.lookup f = some w → ∃ v, fv.lookup f = some v ∧ RW G ι H w v
  | [], _, _, _, h => by cases h
  | _ :: _, [], e, _, _ => by simp at e
  | p :: fs, r :: fv, e, h, hl => by
    simp only [List.map_cons, List.cons.injEq] at e
    simp only [List.map_cons] at h
    obtain ⟨p1, p2⟩ := p
    obtain ⟨r1, r2⟩ := r
    obtain ⟨e1, e2⟩ := e
    simp only at e1
    subst e1
    cases h with
    | cons h1 h2 =>
      rw [List.lookup_cons] at hl ⊢
      by_cases z : (f == r1) = true
      · simp only [z] at hl ⊢
        cases hl
        exact ⟨_, rfl, h1⟩
      · simp only [Bool.not_eq_true] at z
        simp only [z] at hl ⊢
        exact flds_get e2 h2 hl
def insAt (cn : Str) (w : MV) (S : Store) : Option (Nat × List (Str × MV)) := match w with
  | .ref n => match S[n]? with
    | some (.ins c fs) => if c = cn then some (n, fs) else none
    | _ => none
  | _ => none
theorem ins_ok {cn : Str} {C : Addr} (hC : G.ct cn = some C) {ι : List Addr} {H : Hp} {S : Store} {w : MV} {v : V} {n : Nat} {fs : List (Str × MV)} (s : Sim G ι H S) (r : RW G ι H w v) (e : insAt cn w S = some (n, fs)) :
    ∃ a dx fv, v = .ref a ∧ ι[n]? = some a ∧ S[n]? = some (.ins cn fs) ∧ H a = some (.ins C dx fv) ∧ fv.map (·.1) = fs.map (·.1) ∧ RWs G ι H (fs.map (·.2)) (fv.map (·.2)) := by
  unfold insAt at e
  split at e
  · cases r with
    | ref i =>
      split at e
      · rename_i hS
        split at e
        · rename_i z
          cases e
          subst z
          obtain ⟨C', dx, fv, h1, h2, h3, h4⟩ := s.obj _ _ _ hS i
          rw [hC] at h1
          cases h1
          exact ⟨_, dx, fv, rfl, i, hS, h2, h3, h4⟩
        · cases e
      · cases e
  · cases e
def sFldM (cn f : Str) (o e : Den) : DenS := fun ρ S => (e ρ S).bindS ρ fun w S1 => (o ρ S1).bindS ρ fun ow S2 => match insAt cn ow S2 with
  | some (n, fs) => if fs.length < 900 then .ok (.next ρ) (S2.set n (.ins cn (putFM f w fs))) else .stuck
  | none => .stuck
theorem ds_fld {f cn : Str} {C : Addr} {o value : Expr} {pos' : Pos} {dO dV : Den} (hK : X.K = G.K) (hC : G.ct cn = some C) (c : Cls G.K C) (n : NoAttr G.K C f) (ho : DE X G W o dO) (hv : DE X G W value dV) (hs : swapsWith value (some (.Attribute o f pos')) pos.line X.env = pure false := by rfl) :
    DS X G W (.Assign [.Attribute o f pos'] value pos) (sFldM cn f dO dV) := ⟨PS.imp (ps_fld ho.run hv.run hs) fun D σ H h => by
  obtain ⟨ι, S, ρ, s, re, h⟩ := h
  refine ⟨ι, S, ρ, s, re, (fin.bindS re h).mono fun w ι1 H1 S1 p _ h1 v r => ?_⟩
  obtain ⟨S1, s1, re1, m1, h1⟩ := h1
  refine ⟨ι1, S1, ρ, s1, re1, (fin.bindS re1 h1).mono fun ow ι2 H2 S2 p2 _ h2 ov r2 => ?_⟩
  obtain ⟨S2, s2, re2, m2, h2⟩ := h2
  split at h2
  · rename_i k fs e
    obtain ⟨a, dx, fv, rfl, i, hS, g, q1, q2⟩ := ins_ok hC s2 r2 e
    split at h2
    · rename_i hz
      have hl : fv.length = fs.length := by
        have := congrArg List.length q1
        simpa using this
      have t := sqT_upd (K := G.K) (ho := .ins C dx (putF f v fv)) (noTup_of g (fun _ z => by cases z) (fun _ _ z => by cases z))
      obtain ⟨z1, z2⟩ := flds_put (f := f) (m2 _ _ r) q1 q2
      have pw := s2.write i g (fun _ z => by cases z) (fun _ _ z => by cases z) (ho' := .ins C dx (putF f v fv)) (mo := .ins cn (putFM f w fs)) ⟨C, dx, _, hC, upd_same, z1, z2.mono (fun _ _ e => e) t⟩
      exact ⟨a, C, dx, fv, rfl, g, by rw [hK]; exact c, by rw [hK]; exact n, by omega, h2 ι2 _ pw σ (pw.re re2)⟩
    · exact h2.elim
  · exact h2.elim⟩
def fFld (cn f : Str) (w : MV) (S : Store) : Res MV := match insAt cn w S with
  | some (_, fs) => match fs.lookup f with
    | some u => .ok u S
    | none => .stuck
  | none => .stuck
theorem de_fld {f cn : Str} {C : Addr} (hK : X.K = G.K) (hC : G.ct cn = some C) (c : Cls G.K C) (n : NoAttr G.K C f) (ho : DE X G W a da) (hb : attributeBase a f X.env (eval a X.env) = eval a X.env := by rfl) : DE X G W (.Attribute a f pos) (dUn (fFld cn f) da) := ⟨PE.imp (pe_fld ho.run hb) fun σ H Q h => by
  obtain ⟨ι, S, ρ, s, re, h⟩ := h
  refine ⟨ι, S, ρ, s, re, (fin.bind h).mono fun w ι1 H1 S1 p _ h1 v r => ?_⟩
  obtain ⟨S1, s1, _, re1, _, h1⟩ := h1
  unfold fFld at h1
  split at h1
  · rename_i k fs e
    obtain ⟨a, dx, fv, rfl, i, hS, g, q1, q2⟩ := ins_ok hC s1 r e
    split at h1
    · rename_i u eu
      obtain ⟨x, ex, rx⟩ := flds_get q1 q2 eu
      exact ⟨a, C, dx, fv, x, rfl, g, by rw [hK]; exact c, by rw [hK]; exact n, ex, h1 ι1 H1 (.refl s1) x rx⟩
    · exact h1.elim
  · exact h1.elim⟩
def noErr (r : Res MV) : Res MV := match r with
  | .err _ _ _ => .stuck
  | r => r
def fProp (cn : Str) (g : FnM) (w : MV) (S : Store) : Res MV := match insAt cn w S with
  | some _ => noErr (g [w] S)
  | none => .stuck
theorem de_prop {f cn : Str} {C pa ga : Addr} {fd : FuncData} {ps : List Str} {k : Nat} {g : FnM} (hK : X.K = G.K) (hC : G.ct cn = some C) (c : Cls G.K C) (hp : PropOf G.K C f pa ga) (F : FnOk X.prog X.w X.K X.mg X.base (L2.CX X.prog X.w) k ga fd ps (spF G g)) (hr : Room (k + 1) X.A) (hbd : Binds X.K fd ps [])
    (ho : DE X G W a da) (hb : attributeBase a f X.env (eval a X.env) = eval a X.env := by rfl) : DE X G W (.Attribute a f pos) (dUn (fProp cn g) da) := ⟨PE.imp (pe_prop (C := C) ho.run (hK ▸ c) (hK ▸ hp) F hr hbd .nil passL hb) fun σ H Q h => by
  obtain ⟨ι, S, ρ, s, re, h⟩ := h
  refine ⟨ι, S, ρ, s, re, (fin.bind h).mono fun w ι1 H1 S1 p _ h1 v r => ?_⟩
  obtain ⟨S1, s1, _, re1, _, h1⟩ := h1
  unfold fProp at h1
  split at h1
  · rename_i kf e
    obtain ⟨k, fs⟩ := kf
    obtain ⟨a, dx, fv, rfl, i, hS, g', q1, q2⟩ := ins_ok hC s1 r e
    refine ⟨a, dx, fv, rfl, g', ι1, S1, [w], s1, .cons r .nil, ?_⟩
    unfold noErr at h1
    split at h1
    · exact h1.elim
    · cases e : g [w] S1 with
      | ok u S2 => rw [e] at h1; exact h1
      | err c fs S2 => rename_i ne; exact absurd e (ne c fs S2)
      | stuck => rw [e] at h1; exact h1
  · exact h1.elim⟩
def dMake (cn : Str) (g : FnM) (r : DenL) : Den := fun ρ S => (r ρ S).bind fun ws S1 => (g (.ref S1.length :: ws) (S1 ++ [.ins cn []])).bind fun w S2 => match w with
  | .non => .ok (.ref S1.length) S2
  | _ => .stuck
theorem de_make {cn : Str} {C fa : Addr} {fd : FuncData} {ps : List Str} {k : Nat} {g : FnM} {E : XK} (hC : G.ct cn = some C) (M : Mk X.K C fa) (F : FnOk X.prog X.w X.K X.mg X.base (L2.CX X.prog X.w) k fa fd ps (spF G g)) (hr : Room (k + 1) X.A) (hg : Gl X x) (hm : X.mg x = some (.ref C)) (hb : Binds X.K fd ps [])
    (tk : Takes X W) (hW : W = fun cls d _ H => E cls d H) (ha : DA X G W (a :: es) dr) (hdb : (x == ("__debug__" : Str)) = false := by decide) (he : starEach (a :: es) X.env = (false, eval a X.env) :: starEach es X.env := by rfl) (hpl : (backTo pos (starEach es X.env)).any (·.1) = false := by rfl) :
    DE X G W (.Call (.Name x p) (a :: es) [] pos) (dMake cn g dr) := ⟨PE.imp (pe_make M F hr hg hm hb .nil (E := E) (passes_call tk (fun cls d σ H h => by rw [hW]; exact h)) ha.run hdb he hpl) fun σ H Q h => by
  subst hW
  obtain ⟨ι, S, ρ, s, re, h⟩ := h
  refine ⟨ι, S, ρ, s, re, (fin.bind h).mono fun ws ι1 H1 S1 p _ h1 vs r xa dx nx nd ne => ?_⟩
  obtain ⟨S1, s1, _, re1, _, h1⟩ := h1
  have p1 := s1.lay nd (.own xa)
  have nx' : upd H1 dx (.own xa) xa = none := by rw [upd_ne (Ne.symm ne)]; exact nx
  have p2 := p1.sim.new nx' (ho := .ins C dx []) (mo := .ins cn []) ⟨C, dx, [], hC, upd_same, rfl, .nil⟩
  have pp := p1.trans p2
  have hi : (ι1 ++ [xa])[S1.length]? = some xa := by rw [← s1.len]; simp
  refine ⟨_, _, .ref S1.length :: ws, pp.sim, by rw [List.append_nil]; exact .cons (.ref hi) (pp.rws r), (fin.bind (fin.later pp h1)).mono fun w ι2 H2 S2 p3 _ h3 v rv => ?_⟩
  obtain ⟨S2, s2, _, _, _, h3⟩ := h3
  split at h3
  · cases rv
    exact ⟨rfl, h3 ι2 H2 (.refl s2) _ (.ref (p3.ext _ _ hi))⟩
  · exact h3.elim⟩
/-! ### isinstance of an own class -/
structure OwnCls (K : PySem.W.Frag) (C : Addr) : Prop where
  cl : Cls K C
  ha : PySem.W.findIn K (.ref C) "__class__" = some (some (.builtin "object.__class__"))
  hn : PySem.W.specialIn K (.builtin "object.__class__") "__get__" = some (some (.builtin "getset_descriptor.__get__"))
  ht : PySem.W.takesIn K (.builtin "object.__class__") = some true
  hm : PySem.W.mroIn K C (.type "object") = some true
  me : PySem.W.kitOne K (.ref C) (.ref C) = some true
  no : ∀ t ∈ ["NoneType", "bool", "int", "str", "tuple", "list", "dict"], PySem.W.kitOne K (.type t) (.ref C) = some false
def fIsOwn (cn : Str) (w : MV) (S : Store) : Res MV := match tyM w S with
  | some _ => .ok (.bl false) S
  | none => match insAt cn w S with
    | some _ => .ok (.bl true) S
    | none => .stuck
theorem de_isOwn {cn : Str} {C : Addr} {p2 : Pos} (hK : X.K = G.K) (hC : G.ct cn = some C) (O : OwnCls G.K C) (hg : Gl X "isinstance") (hm : X.mg "isinstance" = none) (hg2 : Gl X x) (hm2 : X.mg x = some (.ref C)) (ha : DE X G W a da) (hd2 : (x == ("__debug__" : Str)) = false := by decide)
    (hs : starEach [a, .Name x p2] X.env = (false, eval a X.env) :: starEach [.Name x p2] X.env := by rfl) (hpl : (backTo pos (starEach [.Name x p2] X.env)).any (·.1) = false := by rfl) : DE X G W (.Call (.Name "isinstance" p) [a, .Name x p2] [] pos) (dUn (fIsOwn cn) da) := by
  refine ⟨PE.imp (pe_callB call_isi hg hm (by decide +kernel) (pa_cons ha.run (pa_cons (pe_glob (v := .ref C) hg2 hm2 rfl hd2) pa_nil) hs) (by decide) (by decide) hs hpl) fun σ H Q h => ?_⟩
  obtain ⟨ι, S, ρ, s, re, h⟩ := h
  refine ⟨ι, S, ρ, s, re, (fin.bind h).mono fun w ι1 H1 S1 p _ h1 v r => ?_⟩
  obtain ⟨S1, s1, _, re1, _, h1⟩ := h1
  unfold fIsOwn at h1
  split at h1
  · rename_i t e
    exact ⟨v, .ref C, .type t, .ref C, false, rfl, .own C, by rw [hK]; exact tyM_ok s1 r e, by rw [hK]; exact O.no t (tyM_in e), h1 ι1 H1 (.refl s1) _ (.bl _)⟩
  · split at h1
    · rename_i kf e
      obtain ⟨k, fs⟩ := kf
      obtain ⟨a, dx, fv, rfl, i, hS, g', q1, q2⟩ := ins_ok hC s1 r e
      exact ⟨_, .ref C, .ref C, .ref C, true, rfl, .own C, .base (.ins g' (by rw [hK]; exact O.cl) (by rw [hK]; exact O.ha) (by rw [hK]; exact O.hn) (by rw [hK]; exact O.ht) (by rw [hK]; exact O.hm)), by rw [hK]; exact O.me, h1 ι1 H1 (.refl s1) _ (.bl _)⟩
    · exact h1.elim
/-! ### tuples that the top has written -/
theorem kc_tup {ad : Addr} {dct : Option Addr} {its : List Value} {n : Nat} {sl : Array (Option Value)} {l : List MV} {vs : List V} (hk : G.K.lookup ad = some ⟨.type "tuple", dct, .seq its.toArray n, sl⟩) (hz : its.length ≤ 100000) (hv : Vals vs its) (hl : ∀ ι H, RWs G ι H l vs) : KC G (.tup l) (.ref ad) := fun ι H => by
  refine .tup (.inr ⟨_, its.toArray, n, hk, rfl, rfl, ?_, by simpa using hv⟩) (hl ι H)
  rw [List.size_toArray]
  exact big_ok hz
end
end MI
set_option Elab.async false
set_option linter.all false
set_option maxRecDepth 100000
set_option maxHeartbeats 1000000
namespace MI
open PySem PySem.Spec PyProof.Rows L2
theorem kit_str : ∀ t ∈ ["NoneType", "bool", "int", "str", "tuple", "list", "dict"], kitB t "str" = some (isTy t "str") := by decide +kernel
theorem kit_int : ∀ t ∈ ["NoneType", "bool", "int", "str", "tuple", "list", "dict"], kitB t "int" = some (isTy t "int") := by decide +kernel
theorem kit_bool : ∀ t ∈ ["NoneType", "bool", "int", "str", "tuple", "list", "dict"], kitB t "bool" = some (isTy t "bool") := by decide +kernel
theorem kit_tuple : ∀ t ∈ ["NoneType", "bool", "int", "str", "tuple", "list", "dict"], kitB t "tuple" = some (isTy t "tuple") := by decide +kernel
section
variable {X : Cx} {G : Gx} {W : WX} {a b : Expr} {pos : Pos} {da db : Den}
/-! ### -a, a * b -/
def fNeg (w : MV) (S : Store) : Res MV := match w with
  | .int i => .ok (.int (-i)) S
  | _ => .stuck
theorem de_neg (ha : DE X G W a da) : DE X G W (.UnaryOp .USub a pos) (dUn fNeg da) := de_un un_neg (fun ι H S E Q w1 v1 s r h => by
  unfold fNeg at h
  split at h
  · cases r
    exact ⟨_, rfl, h ι H (.refl s) _ (.int _)⟩
  · exact h.elim) ha
theorem rws_rep {ι : List Addr} {H : Hp} {l : List MV} {vs : List V} (r : RWs G ι H l vs) : ∀ n : Nat, RWs G ι H (List.replicate n l).flatten (List.replicate n vs).flatten
  | 0 => .nil
  | n + 1 => by
    rw [List.replicate_succ, List.replicate_succ, List.flatten_cons, List.flatten_cons]
    exact r.append (rws_rep r n)
theorem de_mul (hK : X.K = G.K) (ha : DE X G W a da) (hb : DE X G W b db) : DE X G W (.BinOp a .Mult b pos) (dBin fMul da db) := by
  refine de_op (OpR.or op_mul (OpR.or op_repT op_rep)) ?_ ha hb
  rw [hK]
  intro ι H S E Q w1 w2 v1 v2 s r1 r2 h
  unfold fMul at h
  split at h
  · cases r1
    cases r2
    split at h
    · rename_i i j hz
      refine .inl ⟨_, _, rfl, rfl, ?_, h ι H (.refl s) _ (.int _)⟩
      simp only [Bool.or_eq_true, Bool.and_eq_true, decide_eq_true_eq] at hz
      exact hz
    · exact h.elim
  · cases r1 with
    | tup t q =>
      cases r2
      split at h
      · rename_i l k hz
        simp only [Bool.and_eq_true, decide_eq_true_eq] at hz
        obtain ⟨z1, z2, z3, z4⟩ := hz
        refine .inr (.inl ⟨_, _, _, rfl, rfl, t, fun e => z1 ?_, z2, z3, by rw [← q.length]; exact z4, new_tup s (rws_rep q _) h⟩)
        subst e
        cases q
        rfl
      · exact h.elim
  · cases r1 with
    | ref i =>
      cases r2
      split at h
      · rename_i l hS
        obtain ⟨vs, g, q⟩ := s.obj _ _ _ hS i
        split at h
        · rename_i k _ _ hz
          simp only [Bool.and_eq_true, decide_eq_true_eq] at hz
          obtain ⟨z1, z2, z3⟩ := hz
          refine .inr (.inr ⟨_, _, vs, rfl, rfl, g, by omega, by omega, ?_, new_lst s (rws_rep q _) h⟩)
          rw [← q.length]
          have hk : k.toNat ≤ 100 := by omega
          exact Nat.le_trans (Nat.mul_le_mul z3 hk) (by rw [sizeLine_eq]; decide)
        · exact h.elim
      · exact h.elim
  · exact h.elim
end
end MI
set_option Elab.async false
set_option linter.all false
set_option maxRecDepth 100000
/-! What the top has written, seen by one kernel run; the end of a law whose def has a denotation. -/
namespace MI
open PySem PySem.Spec PyProof.Rows L2
abbrev Fr := PySem.W.Frag
/-! ### values -/
def kcBs (f : MV → Value → Bool) : List MV → List Value → Bool
  | [], [] => true
  | w :: ws, u :: us => f w u && kcBs f ws us
  | _, _ => false
def kcB (K : Fr) : Nat → MV → Value → Bool
  | 0, _, _ => false
  | n + 1, w, u => match w, u with
    | .non, .none => true
    | .bl b, .bool c => decide (b = c)
    | .int i, .int j _ => decide (i = j)
    | .str x, .str y _ => decide (x = y)
    | .tup l, .ref a => (match K.lookup a with
      | some ⟨.type c, _, .seq its _, _⟩ => decide (c = "tuple") && (decide (its.toList.length ≤ 100000) && kcBs (kcB K n) l its.toList)
      | _ => false)
    | _, _ => false
def RelK (K : Fr) (w : MV) (u : Value) : Prop := ∃ v, RelV v u ∧ ∀ ct os ow tb, KC ⟨K, ct, os, ow, tb, []⟩ w v
theorem kcBs_ok {K : Fr} {f : MV → Value → Bool} (hf : ∀ w u, f w u = true → RelK K w u) : ∀ {ws : List MV} {us : List Value}, kcBs f ws us = true → ∃ vs, Vals vs us ∧ ∀ ct os ow tb ι H, RWs ⟨K, ct, os, ow, tb, []⟩ ι H ws vs
  | [], [], _ => ⟨[], .nil, fun _ _ _ _ _ _ => .nil⟩
  | [], _ :: _, h => by cases h
  | _ :: _, [], h => by cases h
  | w :: ws, u :: us, h => by
    unfold kcBs at h
    obtain ⟨h1, h2⟩ := Bool.and_eq_true_iff.mp h
    obtain ⟨v, r, k⟩ := hf w u h1
    obtain ⟨vs, rs, ks⟩ := kcBs_ok hf h2
    exact ⟨v :: vs, .cons r rs, fun ct os ow tb ι H => .cons (k ct os ow tb ι H) (ks ct os ow tb ι H)⟩
theorem kcB_ok {K : Fr} : ∀ {n : Nat} {w : MV} {u : Value}, kcB K n w u = true → RelK K w u
  | 0, _, _, h => by cases h
  | n + 1, w, u, h => by
    unfold kcB at h
    split at h
    · exact ⟨.non, rfl, fun _ _ _ _ _ _ => .non⟩
    · have e := of_decide_eq_true h
      subst e
      exact ⟨.bl _, rfl, fun _ _ _ _ _ _ => .bl _⟩
    · have e := of_decide_eq_true h
      subst e
      exact ⟨.int _, ⟨_, rfl⟩, fun _ _ _ _ _ _ => .int _⟩
    · have e := of_decide_eq_true h
      subst e
      exact ⟨.str _, ⟨_, rfl⟩, fun _ _ _ _ _ _ => .str _⟩
    · split at h
      · rename_i l a _ c dct its m sl q
        obtain ⟨h1, h2⟩ := Bool.and_eq_true_iff.mp h
        obtain ⟨h3, h4⟩ := Bool.and_eq_true_iff.mp h2
        obtain ⟨vs, rs, ks⟩ := kcBs_ok (fun w u => kcB_ok (n := n)) h4
        have e1 : c = "tuple" := of_decide_eq_true h1
        subst e1
        exact ⟨.ref a, rfl, fun ct os ow tb => kc_tup (G := ⟨K, ct, os, ow, tb, []⟩) (its := its.toList) (by rw [Array.toArray_toList]; exact q) (of_decide_eq_true h3) rs (ks ct os ow tb)⟩
      · cases h
    · cases h
def conK (K : Fr) (x : Str) (w : MV) : Bool := match PySem.W.nsIn K mainGlobals x with
  | some (some u) => kcB K 9 w u
  | _ => false
theorem conK_ok {K : Fr} {h : Heap} {mg : Str → Option Value} {x : Str} {w : MV} (X : K.In h) (G : h.Ns mainGlobals mg) (c : conK K x w = true) : ∃ u v, mg x = some u ∧ RelV v u ∧ ∀ ct os ow tb, KC ⟨K, ct, os, ow, tb, []⟩ w v := by
  unfold conK at c
  split at c
  · rename_i u e
    obtain ⟨v, r, k⟩ := kcB_ok c
    exact ⟨u, v, PySem.W.mg_of X G e, r, k⟩
  · cases c
/-! ### a written dict -/
def tabK (K : Fr) (d : Addr) (tbl : List (Str × MV)) : Bool := (tbl.all fun q => match PySem.W.nsIn K d q.1 with
    | some (some u) => kcB K 9 q.2 u
    | _ => false) && (match K.lookup d with
  | some ⟨_, _, .dict es _, _⟩ => es.toList.all fun e => (match e.key with
    | .str x _ => (tbl.lookup x).isSome
    | _ => false)
  | _ => false)
theorem lookup_in {α β : Type} [BEq α] [LawfulBEq α] : ∀ {l : List (α × β)} {a : α} {b : β}, l.lookup a = some b → (a, b) ∈ l
  | (c, d) :: r, a, b, h => by
    rw [List.lookup_cons] at h
    split at h
    · rename_i e
      cases h
      rw [beq_iff_eq.mp e]
      exact List.mem_cons_self
    · exact List.mem_cons_of_mem _ (lookup_in h)
theorem tabK_ok {K : Fr} {w : World} {d : Addr} {tbl : List (Str × MV)} (kd : ∃ es n, KDict K w d es n) (c : tabK K d tbl = true) (ct : Str → Option Addr) (os : List Addr) (ow : Option World) (tb : Tb) : WTab ⟨K, ct, os, ow, tb, []⟩ w d tbl := by
  unfold tabK at c
  obtain ⟨c1, c2⟩ := Bool.and_eq_true_iff.mp c
  refine ⟨kd, fun z w' e => ?_, fun z e => ?_⟩
  · have h := List.all_eq_true.mp c1 _ (lookup_in e)
    split at h
    · rename_i u q
      obtain ⟨v, r, k⟩ := kcB_ok h
      exact ⟨u, v, q, r, k ct os ow tb⟩
    · cases h
  · show PySem.W.nsIn K d z = some none
    unfold PySem.W.nsIn
    split at c2
    · rename_i o1 o2 es m o3 q
      rw [q]
      have ha := List.all_eq_true.mp c2
      have hk : ∀ e ∈ es.toList, ∃ x t, e.key = .str x t ∧ x ≠ z := fun e he => by
        have h := ha e he
        split at h
        · rename_i x t q2
          refine ⟨x, t, q2, fun y => ?_⟩
          subst y
          rw [‹tbl.lookup _ = none›] at h
          cases h
        · cases h
      have hf : es.toList.find? (fun e => e.key.isStr z) = none := by
        rw [List.find?_eq_none]
        intro e he
        obtain ⟨x, t, q2, ne⟩ := hk e he
        rw [q2]
        simpa [Value.isStr] using ne
      have hr : es.toList.any (fun e => e.refKey) = false := by
        rw [List.any_eq_false]
        intro e he
        obtain ⟨x, t, q2, ne⟩ := hk e he
        simp [DictEntry.refKey, q2]
      show (match es.toList.find? (fun e => e.key.isStr z) with
        | some e => some (some e.val)
        | none => if es.toList.any (fun e => e.refKey) then none else some none) = some none
      rw [hf, hr]
      rfl
    · cases c2
/-! ### a property, an own class -/
def prP (K : Fr) (C : Addr) (f : Str) : Addr := match PySem.W.findIn K (.ref C) f with
  | some (some (.ref p)) => p
  | _ => 0
def prG (K : Fr) (C : Addr) (f : Str) : Addr := match PySem.W.recIn K (prP K C f) "property" with
  | some (.ref g :: _) => g
  | _ => 0
def prB (K : Fr) (C : Addr) (f : Str) : Bool := decide (PySem.W.findIn K (.ref C) f = some (some (.ref (prP K C f)))) && (decide (PySem.W.specialIn K (.ref (prP K C f)) "__get__" = some (some (.builtin "property.__get__"))) &&
  (decide (PySem.W.takesIn K (.ref (prP K C f)) = some true) && (match PySem.W.recIn K (prP K C f) "property" with
    | some (.ref _ :: _) => true
    | _ => false)))
theorem prB_ok {K : Fr} {C : Addr} {f : Str} (h : prB K C f = true) : PropOf K C f (prP K C f) (prG K C f) := by
  unfold prB at h
  obtain ⟨h1, h⟩ := Bool.and_eq_true_iff.mp h
  obtain ⟨h2, h⟩ := Bool.and_eq_true_iff.mp h
  obtain ⟨h3, h4⟩ := Bool.and_eq_true_iff.mp h
  refine ⟨of_decide_eq_true h1, of_decide_eq_true h2, of_decide_eq_true h3, ?_⟩
  split at h4
  · rename_i g r e
    refine ⟨r, ?_⟩
    unfold prG
    rw [e]
  · cases h4
def ownB (K : Fr) (C : Addr) : Bool := (["NoneType", "bool", "int", "str", "tuple", "list", "dict"].all fun t => decide (PySem.W.kitOne K (.type t) (.ref C) = some false)) && (decide (PySem.W.findIn K (.ref C) "__class__" = some (some (.builtin "object.__class__"))) && (decide (PySem.W.specialIn K (.builtin "object.__class__") "__get__" = some (some (.builtin "getset_descriptor.__get__"))) &&
  (decide (PySem.W.takesIn K (.builtin "object.__class__") = some true) && (decide (PySem.W.mroIn K C (.type "object") = some true) && decide (PySem.W.kitOne K (.ref C) (.ref C) = some true)))))
theorem ownB_ok {K : Fr} {C : Addr} (c : Cls K C) (h : ownB K C = true) : OwnCls K C := by
  unfold ownB at h
  obtain ⟨h0, h⟩ := Bool.and_eq_true_iff.mp h
  obtain ⟨h1, h⟩ := Bool.and_eq_true_iff.mp h
  obtain ⟨h2, h⟩ := Bool.and_eq_true_iff.mp h
  obtain ⟨h3, h⟩ := Bool.and_eq_true_iff.mp h
  obtain ⟨h4, h5⟩ := Bool.and_eq_true_iff.mp h
  exact ⟨c, of_decide_eq_true h1, of_decide_eq_true h2, of_decide_eq_true h3, of_decide_eq_true h4, of_decide_eq_true h5, fun t ht => of_decide_eq_true (List.all_eq_true.mp h0 t ht)⟩
/-! ### defs -/
structure Df where
  at_ : Fr → Addr
  x : Str
  qual : Str
  st : Stmt
abbrev DfV : Type := Option (Str × Str × Arguments × FuncBody × Scope × Addr × List (Str × Addr) × Value × Addr)
def Df.seen (K : Fr) (d : Df) : DfV := match K.lookup (d.at_ K) with
  | some ⟨_, _, .func g, _⟩ => some (g.name, g.qualname, g.params, g.body, g.scope, g.globals, g.closure, g.defaults, g.builtins)
  | _ => none
def Df.due (d : Df) : DfV := some (d.x, d.qual, defArgs d.st, .stmts (defBody d.st), defScope d.st, mainGlobals, [], .none, builtinsNs)
def Df.held (K : Fr) (d : Df) : Bool := PySem.W.keepIn K (.ref (d.at_ K)) && (match K.lookup (d.at_ K) with
  | some ⟨_, _, .func g, _⟩ => PySem.W.codeIn K g.code d.qual
  | _ => false)
theorem Df.fun_ {K : Fr} {d : Df} (e : d.seen K = d.due) (c : d.held K = true) : ∃ fd, Fun K d.x d.qual d.st (d.at_ K) fd := by
  unfold Df.held at c
  obtain ⟨kp, c2⟩ := Bool.and_eq_true_iff.mp c
  unfold Df.seen Df.due at e
  split at c2
  · rename_i oc od g sl q
    rw [q] at e
    obtain ⟨n1, n2, n3, n4, n5, n6, n7, n8, n9, n10, n11, n12, n13, n14, n15⟩ := g
    simp only [Option.some.injEq, Prod.mk.injEq] at e
    obtain ⟨h1, h2, h3, h4, h5, h6, h7, h8, h9⟩ := e
    subst h1 h2 h3 h4 h5 h6 h7 h8 h9
    exact ⟨_, fun_mk q c2 kp⟩
  · cases c2
/-! ### the look -/
def noLst (K : Fr) : Bool := K.all fun q => match q.2.cls with
  | .type c => !decide (c = "list")
  | _ => true
theorem noLst_ok {K : Fr} (h : noLst K = true) {a : Addr} {o : Obj} (e : K.lookup a = some o) : o.cls ≠ .type "list" := fun z => by
  have h2 := List.all_eq_true.mp h _ (lookup_in e)
  rw [z] at h2
  simp at h2
abbrev Seen : Type := He.AlT × Bool × List DfV
def lookM (fa : List He.Fa) (ts : List He.Tab) (ex : Fr → Bool) (fs : List Df) (K : Fr) : Seen := (He.obsT fa [] ts K, ex K && (noLst K && fs.all fun d => d.held K), fs.map fun d => d.seen K)
def dueM (ts : List He.Tab) (fs : List Df) (w : World) : Seen := (He.valT [] ts w, true, fs.map Df.due)
structure Told (fa : List He.Fa) (ts : List He.Tab) (ex : Fr → Bool) (fs : List Df) (w : World) (K : Fr) : Prop where
  t : He.SaysT fa [] ts w K
  ex : ex K = true
  no : noLst K = true
  hd : ∀ d ∈ fs, d.held K = true
  sn : ∀ (i : Nat) (d : Df), fs[i]? = some d → Df.seen K d = d.due
theorem told_of {fa : List He.Fa} {ts : List He.Tab} {ex : Fr → Bool} {fs : List Df} {w : World} {K : Fr} (e : lookM fa ts ex fs K = dueM ts fs w) : Told fa ts ex fs w K := by
  have e1 : He.obsT fa [] ts K = He.valT [] ts w := congrArg (fun z : Seen => z.1) e
  have e2 : (ex K && (noLst K && fs.all fun d => d.held K)) = true := congrArg (fun z : Seen => z.2.1) e
  have e3 : fs.map (fun d => d.seen K) = fs.map Df.due := congrArg (fun z : Seen => z.2.2) e
  obtain ⟨h1, h2⟩ := Bool.and_eq_true_iff.mp e2
  obtain ⟨h3, h4⟩ := Bool.and_eq_true_iff.mp h2
  refine ⟨e1, h1, h3, fun d hd => List.all_eq_true.mp h4 d hd, fun i d hi => ?_⟩
  have e4 : (fs.map (fun d => d.seen K))[i]? = (fs.map Df.due)[i]? := by rw [e3]
  rw [List.getElem?_map, List.getElem?_map, hi] at e4
  exact Option.some.inj e4
theorem Told.df {fa : List He.Fa} {ts : List He.Tab} {ex : Fr → Bool} {fs : List Df} {w : World} {K : Fr} (c : Told fa ts ex fs w K) (i : Nat) {d : Df} (h : fs[i]? = some d := by rfl) : ∃ fd, Fun K d.x d.qual d.st (d.at_ K) fd :=
  Df.fun_ (c.sn i d h) (c.hd d (List.mem_of_getElem? h))
/-! ### the end -/
theorem cx_never {P : Program} {w : World} {H : Hp} {s : Shared} {e : Value} {s' : Shared} (h : L2.CX P w [] H s (fun _ _ _ => False) e s') : False := by
  obtain ⟨_, _, _, _, _, _, _, _, _, _, _, _, z⟩ := h
  exact z
theorem rws_ints {G : Gx} {ι : List Addr} {H : Hp} : ∀ ns : List Int, RWs G ι H (ns.map MV.int) (ns.map V.int)
  | [] => .nil
  | i :: r => .cons (.int i) (rws_ints r)
theorem fun_bindsA {K : Fr} {x qual : Str} {st : Stmt} {f : Addr} {fd : FuncData} {ps : List Str} (F : Fun K x qual st f fd)
    (h : ∀ (kV doc pm : Value) (an : Option Addr) (cdv ct : Value) (us : List Value), us.length = ps.length → bindArgs (PySem.W.fnOf x qual (defArgs st) (defBody st) (defScope st) .none kV doc pm an cdv ct) ⟨us, []⟩ = pure (ps.zip us)) (s : Shared) (us : List Value) (hl : us.length = ps.length) : BindsTo s fd ⟨us, []⟩ (ps.zip us) := by
  obtain ⟨_, _, kV, doc, pm, an, cdv, ct, _, rfl, _⟩ := F.ex
  exact .of_eq (h kV doc pm an cdv ct us hl)
theorem end_ok {K : Fr} {ct : Str → Option Addr} {os : List Addr} {ow : Option World} {tb : Tb} (no : noLst K = true) {H : Hp} {a : Addr} {ns : List Int} {g : FnM} {S' : Store} (hi : tb.inv H) (hO : ∀ b, H b = none ∨ (∃ ps, H b = some (.tbl ps)) ∨ ∃ o xs, H b = some (.frz o (.lst xs))) (hS : SqL K H a (ns.map V.int)) (hg : g [.ref 0] [.rol (ns.map MV.int)] = .ok (.bl true) S') :
    spF ⟨K, ct, os, ow, tb, []⟩ g [.ref a] H (fun v _ => v = .bl true) fun _ _ _ => False := by
  have hz : ∃ o, H a = some (.frz o (.lst (ns.map V.int))) := by
    rcases hS with (h | h) | ⟨o, its, n, e, q, _⟩
    · rcases hO a with z | ⟨ps, z⟩ | ⟨o, xs, z⟩ <;> (rw [h] at z; cases z)
    · exact h
    · exact absurd q (noLst_ok no e)
  obtain ⟨o, hz⟩ := hz
  refine ⟨[a], [.rol (ns.map MV.int)], [.ref 0], ⟨rfl, by simp, fun n mo b h1 h2 => ?_, hi⟩, .cons (.ref rfl) .nil, ?_⟩
  · match n, h1, h2 with
    | 0, h1, h2 =>
      cases h1
      cases h2
      exact ⟨o, _, hz, rws_ints ns, fun w hw => by obtain ⟨i, _, rfl⟩ := List.mem_map.mp hw; exact ⟨i, rfl⟩⟩
  · rw [hg]
    intro ι' H' p v r
    cases r
    rfl
theorem walkM {l : PySem.W.OpenLaw} {n k : Nat} {q : Program} {loose : List Str} {XP : (Str → Option Value) → Heap → Prop} {YP : World → Heap → Prop} {d : DefRec} {x : Str} (hn : l.most = some n) (h2 : n ≤ sizeLine) (h3 : d.params.defaults = []) (h4 : Room k callerA) (g : FnM)
    (hg : ∀ ns : List Int, ns.length ≤ n → ∃ S', g [.ref 0] [.rol (ns.map MV.int)] = .ok (.bl true) S')
    (F : ∀ (w : World) (mg : Str → Option Value) (f : Addr) (h : Heap), YP w h → h.Ns mainGlobals mg → mg d.name = some (.ref f) →
      ∃ (K : Fr) (ct : Str → Option Addr) (os : List Addr) (ow : Option World) (fd : FuncData), K.In h ∧ noLst K = true ∧ (∀ (s : Shared) (us : List Value), us.length = 1 → BindsTo s fd ⟨us, []⟩ ([x].zip us)) ∧ ∀ base : Heap, FnOk l.prog w K mg base (L2.CX l.prog w) k f fd [x] (spF ⟨K, ct, os, ow, Tb.no, []⟩ g)) :
    PySem.W.WalkO q loose XP YP l.row.toRowW d [] (fun f vs => PySem.call f vs) :=
  Att.attach_call hn h3 fun w _ s mg _ f _ _ _ _ a _ ns gr y _ _ _ hm ha hi hl hs => by
    obtain ⟨K, ct, os, ow, fd, X, no, b, ok⟩ := F w mg f _ y gr.T.g hm
    exact law_call X gr.T.g gr.T.b gr.T.builtins gr.T.nolimit hs ha hi (Nat.le_trans hl h2) h4 (fun base _ _ => ok base) (fun s u => b s [u] rfl) (fun H hO hS => end_ok no trivial (fun b => (hO b).imp_right .inr) hS (hg ns hl).choose_spec) fun _ _ _ z => cx_never z
/-! ### == of two things of a class with its own __eq__ -/
structure OwnEq (K : PySem.W.Frag) (C f : Addr) : Prop where
  here : PySem.W.findIn K (.ref C) "__eq__" = some (some (.ref f))
  fn : PySem.W.isFn K (.ref f) = true
  no : PySem.W.notFirst K C (.ref C) = true
def eqB (K : PySem.W.Frag) (C f : Addr) : Bool := decide (PySem.W.findIn K (.ref C) "__eq__" = some (some (.ref f))) && (PySem.W.isFn K (.ref f) && PySem.W.notFirst K C (.ref C))
theorem eqB_ok {K : PySem.W.Frag} {C f : Addr} (h : eqB K C f = true) : OwnEq K C f := by
  unfold eqB at h
  rw [Bool.and_eq_true, Bool.and_eq_true] at h
  exact ⟨of_decide_eq_true h.1, h.2.1, h.2.2⟩
end MI
set_option Elab.async false
set_option linter.all false
set_option maxRecDepth 100000
/-! Reading denotations: what must hold of an end (E: of what is raised, Q: of what comes). -/
namespace MI
open PySem PySem.Spec PyProof.Rows L2
abbrev EX := Str → List (Str × MV) → Store → Prop
def wp {α : Type} (r : Res α) (E : EX) (Q : α → Store → Prop) : Prop := match r with
  | .ok a S => Q a S
  | .err c fs S => E c fs S
  | .stuck => False
section
variable {α β : Type} {E E' : EX} {S : Store} {ρ : Env'}
theorem wp.mono {r : Res α} {Q Q' : α → Store → Prop} (h : wp r E Q) (k : ∀ a S', Q a S' → Q' a S') : wp r E Q' := by
  cases r with
  | ok a S' => exact k a S' h
  | err c fs S' => exact h
  | stuck => exact h
theorem wp.ex {r : Res α} {Q : α → Store → Prop} (h : wp r (fun _ _ _ => False) Q) : ∃ a S', r = .ok a S' ∧ Q a S' := by
  cases r with
  | ok a S' => exact ⟨a, S', rfl, h⟩
  | err c fs S' => exact h.elim
  | stuck => exact h.elim
theorem wp_ok {a : α} {Q : α → Store → Prop} : wp (.ok a S) E Q = Q a S := rfl
theorem wp_bind {r : Res α} {f : α → Store → Res β} {Q : β → Store → Prop} : wp (r.bind f) E Q = wp r E fun a S1 => wp (f a S1) E Q := by
  cases r <;> rfl
theorem wp_bindS {r : Res α} {f : α → Store → Res Fl} {Q : Fl → Store → Prop} : wp (r.bindS ρ f) E Q = wp r (fun c fs S1 => Q (.exc c fs ρ) S1) fun a S1 => wp (f a S1) E Q := by
  cases r <;> rfl
theorem wp_ite {c : Prop} [Decidable c] {x y : Res α} {Q : α → Store → Prop} : wp (if c then x else y) E Q = if c then wp x E Q else wp y E Q := by
  split <;> rfl
theorem wp_iteR {c : Prop} [Decidable c] {x : Res α} {Q : α → Store → Prop} : wp (if c then x else .stuck) E Q = (c ∧ wp x E Q) := by
  by_cases h : c
  · rw [if_pos h]; simp [h]
  · rw [if_neg h]; simp [h, wp]
/-! expressions -/
variable {Q : MV → Store → Prop} {QL : List MV → Store → Prop} {QB : Bool → Store → Prop} {QF : Fl → Store → Prop} {QI : Src → Store → Prop} {QE : Env' → Store → Prop} {QO : Option Int → Store → Prop}
theorem wp_var {i : Nat} : wp (dVar i ρ S) E Q = ∃ w, ρ[i]? = some (some w) ∧ Q w S := by
  unfold dVar
  generalize ρ[i]? = o
  apply propext
  cases o with
  | none => exact ⟨fun h => False.elim h, fun ⟨v, e, _⟩ => by cases e⟩
  | some o => cases o with
    | none => exact ⟨fun h => False.elim h, fun ⟨v, e, _⟩ => by cases e⟩
    | some w => exact ⟨fun h => ⟨w, rfl, h⟩, fun ⟨v, e, h⟩ => by cases e; exact h⟩
theorem wp_c {w : MV} : wp (dC w ρ S) E Q = Q w S := rfl
theorem wp_bin {f : MV → MV → Store → Res MV} {a b : Den} : wp (dBin f a b ρ S) E Q = wp (a ρ S) E fun x S1 => wp (b ρ S1) E fun y S2 => wp (f x y S2) E Q := by
  unfold dBin
  simp only [wp_bind]
theorem wp_un {f : MV → Store → Res MV} {a : Den} : wp (dUn f a ρ S) E Q = wp (a ρ S) E fun x S1 => wp (f x S1) E Q := wp_bind
theorem wp_call {f : FnM} {a : DenL} : wp (dCall f a ρ S) E Q = wp (a ρ S) E fun x S1 => wp (f x S1) E Q := wp_bind
theorem wp_nil : wp (aNil ρ S) E QL = QL [] S := rfl
theorem wp_cons {d : Den} {r : DenL} : wp (aCons d r ρ S) E QL = wp (d ρ S) E fun w S1 => wp (r ρ S1) E fun ws S2 => QL (w :: ws) S2 := by
  unfold aCons
  simp only [wp_bind]
  rfl
theorem wp_tup {r : DenL} : wp (dTup r ρ S) E Q = wp (r ρ S) E fun ws S1 => ws.length ≤ 100000 ∧ Q (.tup ws) S1 := by
  unfold dTup
  simp only [wp_bind, wp_iteR, wp_ok]
theorem wp_lst {r : DenL} : wp (dLst r ρ S) E Q = wp (r ρ S) E fun ws S1 => ws.length ≤ 100000 ∧ Q (.ref S1.length) (S1 ++ [.lst ws]) := by
  unfold dLst
  simp only [wp_bind, wp_iteR, wp_ok]
theorem wp_dic0 : wp (dDic0 ρ S) E Q = Q (.ref S.length) (S ++ [.dic []]) := rfl
theorem wp_int {C : Int → Int → Bool} {g : Int → Int → MV} {i j : Int} : wp (fInt C g (.int i) (.int j) S) E Q = (C i j = true ∧ Q (g i j) S) := by
  unfold fInt
  simp only [wp_iteR, wp_ok]
theorem wp_bcmp {f : MV → MV → Store → Res MV} {a b : Den} : wp (bCmp f a b ρ S) E QB = wp (a ρ S) E fun x S1 => wp (b ρ S1) E fun y S2 => wp (f x y S2) E fun w S3 => wp (boolOf w S3) E QB := by
  unfold bCmp
  simp only [wp_bind, wp_bin]
theorem wp_boolOf {b : Bool} : wp (boolOf (.bl b) S) E QB = QB b S := rfl
theorem wp_btru {d : Den} : wp (bTru d ρ S) E QB = wp (d ρ S) E fun w S1 => wp (truB w S1) E QB := wp_bind
theorem wp_truB {b : Bool} : wp (truB (.bl b) S) E QB = QB b S := rfl
theorem wp_bnot {d : DenB} : wp (bNot d ρ S) E QB = wp (d ρ S) E fun k S1 => QB (!k) S1 := wp_bind
theorem wp_band {d f : DenB} : wp (bAnd d f ρ S) E QB = wp (d ρ S) E fun k S1 => if k = true then wp (f ρ S1) E QB else QB false S1 := by
  unfold bAnd
  simp only [wp_bind, wp_ite, wp_ok]
theorem wp_bor {d f : DenB} : wp (bOr d f ρ S) E QB = wp (d ρ S) E fun k S1 => if k = true then QB true S1 else wp (f ρ S1) E QB := by
  unfold bOr
  simp only [wp_bind, wp_ite, wp_ok]
theorem wp_dif {t : DenB} {d f : Den} : wp (dIf t d f ρ S) E Q = wp (t ρ S) E fun k S1 => if k = true then wp (d ρ S1) E Q else wp (f ρ S1) E Q := by
  unfold dIf
  simp only [wp_bind, wp_ite]
theorem wp_dand {d f : Den} : wp (dAnd d f ρ S) E Q = wp (d ρ S) E fun w S1 => wp (match w with
  | .bl true => f ρ S1
  | .bl false => .ok (.bl false) S1
  | _ => .stuck) E Q := wp_bind
theorem wp_dor {d f : Den} : wp (dOr d f ρ S) E Q = wp (d ρ S) E fun w S1 => wp (match w with
  | .bl true => .ok (.bl true) S1
  | .bl false => f ρ S1
  | _ => .stuck) E Q := wp_bind
theorem wp_dnot {d : Den} : wp (dNot d ρ S) E Q = wp (d ρ S) E fun w S1 => wp (match w with
  | .bl k => .ok (.bl (!k)) S1
  | _ => .stuck) E Q := wp_bind
theorem wp_len {w : MV} : wp (fLen [w] S) E Q = ∃ n : Nat, lenM w S = some n ∧ Q (.int n) S := by
  unfold fLen
  dsimp only
  generalize lenM w S = o
  apply propext
  cases o with
  | none => exact ⟨fun h => False.elim h, fun ⟨v, e, _⟩ => by cases e⟩
  | some n => exact ⟨fun h => ⟨n, rfl, h⟩, fun ⟨v, e, h⟩ => by cases e; exact h⟩
theorem wp_intOf {i : Int} : wp (fIntOf [.int i] S) E Q = Q (.int i) S := rfl
theorem wp_ixL {n : Nat} {i : Int} {l : List MV} (h : S[n]? = some (.lst l)) : wp (fIx (.ref n) (.int i) S) E Q = ∃ w, atI l i = some w ∧ Q w S := by
  unfold fIx
  simp only [h]
  generalize atI l i = o
  apply propext
  cases o with
  | none => exact ⟨fun h => False.elim h, fun ⟨v, e, _⟩ => by cases e⟩
  | some w => exact ⟨fun h => ⟨w, rfl, h⟩, fun ⟨v, e, h⟩ => by cases e; exact h⟩
theorem wp_ixR {n : Nat} {i : Int} {l : List MV} (h : S[n]? = some (.rol l)) : wp (fIx (.ref n) (.int i) S) E Q = ∃ w, atI l i = some w ∧ Q w S := by
  unfold fIx
  simp only [h]
  generalize atI l i = o
  apply propext
  cases o with
  | none => exact ⟨fun h => False.elim h, fun ⟨v, e, _⟩ => by cases e⟩
  | some w => exact ⟨fun h => ⟨w, rfl, h⟩, fun ⟨v, e, h⟩ => by cases e; exact h⟩
theorem wp_ixT {i : Int} {l : List MV} : wp (fIx (.tup l) (.int i) S) E Q = ∃ w, atI l i = some w ∧ Q w S := by
  unfold fIx
  dsimp only
  generalize atI l i = o
  apply propext
  cases o with
  | none => exact ⟨fun h => False.elim h, fun ⟨v, e, _⟩ => by cases e⟩
  | some w => exact ⟨fun h => ⟨w, rfl, h⟩, fun ⟨v, e, h⟩ => by cases e; exact h⟩
/-! targets, statements -/
theorem wp_gN {i : Nat} {w : MV} : wp (gN i w ρ S) E QE = QE (ρ.set i (some w)) S := rfl
theorem wp_gS {o i : Den} {w : MV} : wp (gS o i w ρ S) E QE = (wp (o ρ S) (fun _ _ _ => False) fun ov S1 => wp (i ρ S1) (fun _ _ _ => False) fun iv S2 => ∃ S3, fSet ov iv w S2 = some S3 ∧ QE ρ S3) := by
  unfold gS
  cases o ρ S with
  | ok ov S1 =>
    show wp (match i ρ S1 with | .ok iv S2 => _ | _ => _) E QE = wp (i ρ S1) _ _
    cases i ρ S1 with
    | ok iv S2 =>
      show wp (match fSet ov iv w S2 with | some S3 => Res.ok ρ S3 | none => .stuck) E QE = _
      show _ = ∃ S3, fSet ov iv w S2 = some S3 ∧ QE ρ S3
      cases fSet ov iv w S2 with
      | some S3 => exact propext ⟨fun h => ⟨S3, rfl, h⟩, fun ⟨m, e2, h⟩ => by cases e2; exact h⟩
      | none => exact propext ⟨fun h => h.elim, fun ⟨m, e2, _⟩ => by cases e2⟩
    | err c fs S2 => rfl
    | stuck => rfl
  | err c fs S1 => rfl
  | stuck => rfl
theorem wp_seq {x y : DenS} : wp (sSeq x y ρ S) E QF = wp (x ρ S) E fun f S1 => match f with
    | .next ρ1 => wp (y ρ1 S1) E QF
    | f => QF f S1 := by
  unfold sSeq
  cases x ρ S with
  | ok f S1 => cases f <;> rfl
  | err c fs S1 => rfl
  | stuck => rfl
theorem wp_snil : wp (sNil ρ S) E QF = QF (.next ρ) S := rfl
theorem wp_sexpr {d : Den} : wp (sExpr d ρ S) E QF = wp (d ρ S) (fun c fs S1 => QF (.exc c fs ρ) S1) fun _ S1 => QF (.next ρ) S1 := wp_bindS
theorem wp_sret {d : Den} : wp (sRet d ρ S) E QF = wp (d ρ S) (fun c fs S1 => QF (.exc c fs ρ) S1) fun w S1 => QF (.ret w) S1 := wp_bindS
theorem wp_sif {t : DenB} {x y : DenS} : wp (sIf t x y ρ S) E QF = wp (t ρ S) (fun c fs S1 => QF (.exc c fs ρ) S1) fun k S1 => if k = true then wp (x ρ S1) E QF else wp (y ρ S1) E QF := by
  unfold sIf
  simp only [wp_bindS, wp_ite]
theorem wp_asg {d : Den} {g : DenG} : wp (sAsg d g ρ S) E QF = wp (d ρ S) (fun c fs S1 => QF (.exc c fs ρ) S1) fun w S1 => wp (g w ρ S1) (fun _ _ _ => False) fun ρ1 S2 => QF (.next ρ1) S2 := by
  unfold sAsg
  rw [wp_bindS]
  congr 1
  funext w S1
  cases g w ρ S1 <;> rfl
theorem wp_par {i j : Nat} {da : DenL} : wp (sPar i j da ρ S) E QF = wp (da ρ S) (fun c fs S1 => QF (.exc c fs ρ) S1) fun ws S1 => wp (match ws with
  | [x, y] => .ok (.next ((ρ.set i (some x)).set j (some y))) S1
  | _ => .stuck) E QF := wp_bindS
theorem wp_par3 {i j l : Nat} {da : DenL} : wp (sPar3 i j l da ρ S) E QF = wp (da ρ S) (fun c fs S1 => QF (.exc c fs ρ) S1) fun ws S1 => wp (match ws with
  | [x, y, z] => .ok (.next (((ρ.set i (some x)).set j (some y)).set l (some z))) S1
  | _ => .stuck) E QF := wp_bindS
theorem wp_for {f : Nat} {it : DenI} {g : DenG} {body : DenS} : wp (sFor f it g body ρ S) E QF = wp (it ρ S) (fun c fs S1 => QF (.exc c fs ρ) S1) fun nx S1 => wp (forM nx g body f 0 ρ S1) E QF := wp_bindS
theorem wp_iany {d : Den} : wp (iAnyD d ρ S) E QI = wp (d ρ S) E fun w S1 => wp (srcOf w S1) E QI := wp_bind
theorem wp_irng {g : List MV → Store → Res Src} {d : DenL} : wp (iRng g d ρ S) E QI = wp (d ρ S) E fun w S1 => wp (g w S1) E QI := wp_bind
theorem wp_fn {n N : Nat} {body : DenS} {ws : List MV} (h : ws.length = n) : wp (mkFn n N body ws S) E Q = wp (body (ws.map some ++ List.replicate (N - n) none) S) (fun _ _ _ => False) fun f S' => match f with
    | .ret w => wp (gc S.length w S') E Q
    | .next _ => wp (gc S.length .non S') E Q
    | .exc c fs _ => E c fs S'
    | _ => False := by
  unfold mkFn
  rw [if_pos h, h]
  cases body (ws.map some ++ List.replicate (N - n) none) S with
  | ok f S1 => cases f <;> rfl
  | err c fs S1 => rfl
  | stuck => rfl
theorem gc_same {n : Nat} {w : MV} (h : S.length = n) : gc n w S = .ok w S := by
  unfold gc
  rw [if_pos h]
theorem wp_lc {f : Nat} {it : DenI} {g : DenG} {t : DenB} {d : Den} {own : List Nat} : wp (dLc f it g t d own ρ S) E Q = wp (it ρ S) E fun nx S1 => wp (match lcM nx g t d (wipeM ρ own) S1.length f 0 (S1 ++ [.lst []]) with
    | some S2 => (.ok (.ref S1.length) S2 : Res MV)
    | none => .stuck) E Q := wp_bind
theorem wp_rng1 {j : Int} : wp (rng1 [.int j] S) E QI = ((-100000 ≤ j ∧ j ≤ 100000) ∧ QI (srcRng 0 j) S) := by
  unfold rng1
  dsimp only
  rw [wp_iteR, Bool.and_eq_true, decide_eq_true_eq, decide_eq_true_eq]
  rfl
theorem wp_rng2 {i j : Int} : wp (rng2 [.int i, .int j] S) E QI = (((-100000 ≤ i ∧ i ≤ 100000) ∧ (-100000 ≤ j ∧ j ≤ 100000)) ∧ QI (srcRng i j) S) := by
  unfold rng2
  dsimp only
  rw [wp_iteR]
  simp only [Bool.and_eq_true, decide_eq_true_eq]
  rfl
theorem wp_met {chk : MV → Store → Bool} {f : MV → List MV → Store → Res MV} {o : Den} {r : DenL} : wp (dMet chk f o r ρ S) E Q = wp (o ρ S) E fun ow S1 => chk ow S1 = true ∧ wp (r ρ S1) E fun ws S2 => wp (f ow ws S2) E Q := by
  unfold dMet
  simp only [wp_bind, wp_iteR]
theorem wp_neg {i : Int} : wp (fNeg (.int i) S) E Q = Q (.int (-i)) S := rfl
theorem wp_bYes : wp (bYes ρ S) E QB = QB true S := rfl
end
end MI
set_option Elab.async false
set_option linter.all false
set_option maxRecDepth 100000
/-! Stores that only grow, by objects that hold no others; defs whose answer holds none. -/
namespace MI
open PySem PySem.Spec PyProof.Rows L2
mutual
theorem blw_le {n m : Nat} (h : n ≤ m) : ∀ w : MV, below n w = true → below m w = true
  | .tup l, e => by
    unfold below at e ⊢
    exact blws_le h l e
  | .ref k, e => by
    unfold below at e ⊢
    exact decide_eq_true (Nat.lt_of_lt_of_le (of_decide_eq_true e) h)
  | .non, _ => rfl
  | .bl _, _ => rfl
  | .int _, _ => rfl
  | .str _, _ => rfl
  | .out _, e => e
theorem blws_le {n m : Nat} (h : n ≤ m) : ∀ l : List MV, belows n l = true → belows m l = true
  | [], _ => rfl
  | w :: ws, e => by
    unfold belows at e ⊢
    rw [Bool.and_eq_true] at e ⊢
    exact ⟨blw_le h w e.1, blws_le h ws e.2⟩
end
theorem blwO_le {n m : Nat} (h : n ≤ m) (o : MO) (e : belowO n o = true) : belowO m o = true := by
  cases o <;> first | rfl | exact blws_le h _ e
theorem blwA_le {n m : Nat} (h : n ≤ m) {r : Store} (e : r.all (belowO n) = true) : r.all (belowO m) = true := List.all_eq_true.mpr fun o ho => blwO_le h o (List.all_eq_true.mp e o ho)
def Cl (S : Store) : Prop := S.all (belowO S.length) = true
def Gr (S S' : Store) : Prop := ∃ J, S' = S ++ J ∧ J.all (belowO 0) = true
section
variable {S S' S1 S2 : Store} {o : MO} {n m : Nat}
theorem Gr.refl : Gr S S := ⟨[], by simp, rfl⟩
theorem Gr.trans (h : Gr S S1) (k : Gr S1 S2) : Gr S S2 := by
  obtain ⟨J, rfl, h⟩ := h
  obtain ⟨J', rfl, k⟩ := k
  exact ⟨J ++ J', by simp, by rw [List.all_append, h, k]; rfl⟩
theorem Gr.len (h : Gr S S') : S.length ≤ S'.length := by
  obtain ⟨J, rfl, h⟩ := h
  simp
theorem Gr.cl (h : Gr S S') (c : Cl S) : Cl S' := by
  obtain ⟨J, rfl, h⟩ := h
  unfold Cl at c ⊢
  rw [List.all_append, blwA_le (by simp) c, blwA_le (by omega) h]
  rfl
theorem Gr.at (h : Gr S S') (e : S[n]? = some o) : S'[n]? = some o := by
  obtain ⟨J, rfl, h⟩ := h
  rw [List.getElem?_append_left (List.getElem?_eq_some_iff.mp e).1]
  exact e
theorem Gr.new (h : Gr S S') (b : belowO 0 o = true) : Gr S (S' ++ [o]) := h.trans ⟨[o], rfl, by simp [b]⟩
theorem Gr.set (h : Gr S S') (l : S.length ≤ n) (b : belowO 0 o = true) : Gr S (S'.set n o) := by
  obtain ⟨J, rfl, h⟩ := h
  rw [List.set_append_right _ _ l]
  refine ⟨_, rfl, List.all_eq_true.mpr fun x hx => ?_⟩
  rcases List.mem_or_eq_of_mem_set hx with hx | rfl
  · exact List.all_eq_true.mp h x hx
  · exact b
theorem Gr.take (h : Gr S S') : S'.take S.length = S := by
  obtain ⟨J, rfl, h⟩ := h
  rw [List.take_left]
abbrev NE : EX := fun _ _ _ => False
variable {N k : Nat} {body : DenS} {ws : List MV} {v : MV}
end
section
variable {E : EX} {S : Store} {ρ : Env'} {Q : MV → Store → Prop} {QI : Src → Store → Prop} {QF : Fl → Store → Prop} {QB : Bool → Store → Prop} {QE : Env' → Store → Prop} {QO : Option Int → Store → Prop}
theorem wp_srcT {l : List MV} : wp (srcOf (.tup l) S) E QI = QI (srcL l) S := rfl
theorem wp_srcS {z : Str} : wp (srcOf (.str z) S) E QI = QI (srcStr z) S := rfl
theorem wp_enumT {l : List MV} : wp (enumOf [.tup l] S) E QI = QI (srcEnumL 0 l) S := rfl
theorem wp_zipT {l m : List MV} : wp (zipOf [.tup l, .tup m] S) E QI = QI (srcZipT l m) S := rfl
theorem wp_gT {r : DenGs} {l : List MV} : wp (gT r (.tup l) ρ S) E QE = wp (r l ρ S) E QE := rfl
theorem wp_gsNil : wp (gsNil [] ρ S) E QE = QE ρ S := rfl
theorem wp_gsCons {g : DenG} {r : DenGs} {w : MV} {ws : List MV} : wp (gsCons g r (w :: ws) ρ S) E QE = wp (g w ρ S) NE fun ρ1 S1 => wp (r ws ρ1 S1) E QE := by
  unfold gsCons
  dsimp only
  cases g w ρ S <;> rfl
theorem wp_lenT {l : List MV} : wp (fLen [.tup l] S) E Q = Q (.int l.length) S := rfl
theorem wp_isTT {l : List MV} {T : String} : wp (fIsT T (.tup l) S) E Q = Q (.bl (isTy "tuple" T)) S := rfl
theorem wp_isTS {z : Str} {T : String} : wp (fIsT T (.str z) S) E Q = Q (.bl (isTy "str" T)) S := rfl
theorem wp_isTI {i : Int} {T : String} : wp (fIsT T (.int i) S) E Q = Q (.bl (isTy "int" T)) S := rfl
theorem wp_isTN {T : String} : wp (fIsT T .non S) E Q = Q (.bl (isTy "NoneType" T)) S := rfl
theorem wp_isTB {b : Bool} {T : String} : wp (fIsT T (.bl b) S) E Q = Q (.bl (isTy "bool" T)) S := rfl
theorem mB {w : MV} {X Y : Res MV} : wp (match w with
  | .bl true => X
  | .bl false => Y
  | _ => .stuck) E Q = ∃ b, w = .bl b ∧ if b = true then wp X E Q else wp Y E Q := by
  apply propext
  cases w with
  | bl b => cases b <;> simp
  | _ => exact ⟨fun h => False.elim h, fun ⟨_, e, _⟩ => by cases e⟩
theorem wp_chain {f g : MV → MV → Store → Res MV} {a b c : Den} : wp (dChain f g a b c ρ S) E Q = wp (a ρ S) E fun x S1 => wp (b ρ S1) E fun y S2 => wp (f x y S2) E fun k S3 => ∃ b, k = .bl b ∧ if b = true then wp (c ρ S3) E fun z S4 => wp (g y z S4) E Q else Q (.bl false) S3 := by
  unfold dChain
  simp only [wp_bind]
  congr 1
  funext x S1
  congr 1
  funext y S2
  congr 1
  funext k S3
  rw [← wp_bind (f := fun z S4 => g y z S4)]
  exact mB
theorem wp_xand {d f : Den} : wp (dAnd d f ρ S) E Q = wp (d ρ S) E fun w S1 => ∃ b, w = .bl b ∧ if b = true then wp (f ρ S1) E Q else Q (.bl false) S1 := by
  rw [wp_dand]
  congr 1
  funext w S1
  exact mB
theorem wp_xor {d f : Den} : wp (dOr d f ρ S) E Q = wp (d ρ S) E fun w S1 => ∃ b, w = .bl b ∧ if b = true then Q (.bl true) S1 else wp (f ρ S1) E Q := by
  rw [wp_dor]
  congr 1
  funext w S1
  exact mB
theorem wp_xnot {d : Den} : wp (dNot d ρ S) E Q = wp (d ρ S) E fun w S1 => ∃ b, w = .bl b ∧ Q (.bl (!b)) S1 := by
  rw [wp_dnot]
  congr 1
  funext w S1
  apply propext
  cases w with
  | bl b => simp [wp_ok]
  | _ => exact ⟨fun h => False.elim h, fun ⟨_, e, _⟩ => by cases e⟩
theorem wp_eqS {x y : Str} : wp (fEq (.str x) (.str y) S) E Q = Q (.bl (decide (x = y))) S := rfl
theorem wp_neS {x y : Str} : wp (fNe (.str x) (.str y) S) E Q = Q (.bl (!decide (x = y))) S := rfl
theorem wp_neI {x y : Int} : wp (fNe (.int x) (.int y) S) E Q = Q (.bl (!decide (x = y))) S := rfl
theorem wp_eqII {x y : Int} : wp (fEq (.int x) (.int y) S) E Q = Q (.bl (decide (x = y))) S := rfl
theorem wp_isNT {l : List MV} : wp (fIs (.tup l) .non S) E Q = Q (.bl false) S := rfl
theorem wp_isNN : wp (fIs .non .non S) E Q = Q (.bl true) S := rfl
theorem wp_notNT {l : List MV} : wp (fIsNot (.tup l) .non S) E Q = Q (.bl true) S := rfl
theorem wp_notNN : wp (fIsNot .non .non S) E Q = Q (.bl false) S := rfl
theorem any_strs (x : Str) (l : List Str) : ((l.map MV.str).any fun y => eqF y (.str x)) = decide (x ∈ l) := by
  induction l with
  | nil => rfl
  | cons y l ih =>
    rw [List.map_cons, List.any_cons, ih]
    show ((y == x) || decide (x ∈ l)) = _
    by_cases h : y = x
    · subst h; simp
    · have h' : ¬ x = y := fun e => h e.symm
      simp [h, h', List.mem_cons]
theorem flat_strs (l : List Str) : (l.map MV.str).all flatM = true := by
  induction l with
  | nil => rfl
  | cons y l ih => exact ih
theorem wp_inT {x : Str} {l : List Str} : wp (fIn (.str x) (.tup (l.map .str)) S) E Q = Q (.bl (decide (x ∈ l))) S := by
  unfold fIn inM
  simp only [itemsOf, flat_strs, any_strs]
  rfl
theorem wp_inTc {x a : Str} {l : List Str} : wp (fIn (.str x) (.tup (.str a :: l.map .str)) S) E Q = Q (.bl (decide (x ∈ a :: l))) S := wp_inT (l := a :: l)
theorem wp_inT0 {x : Str} : wp (fIn (.str x) (.tup []) S) E Q = Q (.bl false) S := rfl
theorem flt_true {α : Type} (l : List α) : (l.filter fun _ => true) = l := List.filter_eq_self.mpr fun _ _ => rfl
theorem wp_inC {c : Nat} {z : Str} : wp (fIn (.str ⟨#[c]⟩) (.str z) S) E Q = Q (.bl (decide (c ∈ z.cps.toList))) S := rfl
theorem wp_notInT {x : Str} {l : List Str} : wp (fNotIn (.str x) (.tup (l.map .str)) S) E Q = Q (.bl (!decide (x ∈ l))) S := by
  unfold fNotIn inM
  simp only [itemsOf, flat_strs, any_strs]
  rfl
theorem wp_tupT {l : List MV} : wp (fTupOf (.tup l) S) E Q = Q (.tup l) S := rfl
theorem wp_backT {l : List MV} : wp (fBack (.tup l) S) E Q = Q (.tup l.reverse) S := rfl
theorem wp_starT {d : Den} {r : DenL} {QL : List MV → Store → Prop} : wp (aStar d r ρ S) E QL = wp (d ρ S) E fun w S1 => ∃ l, itemsOf w S1 = some l ∧ wp (r ρ S1) E fun ws S2 => QL (l ++ ws) S2 := by
  unfold aStar
  rw [wp_bind]
  congr 1
  funext w S1
  cases itemsOf w S1 with
  | none => exact propext ⟨fun h => h.elim, fun ⟨_, e, _⟩ => by cases e⟩
  | some l =>
    simp only [Option.some.injEq, exists_eq_left', wp_bind]
    rfl
theorem itemsT {l : List MV} : itemsOf (.tup l) S = some l := rfl
theorem wp_sl {d : Den} {l u : DenO} : wp (dSl d l u ρ S) E Q = wp (d ρ S) E fun w S1 => wp (l ρ S1) E fun i S2 => wp (u ρ S2) E fun j S3 => wp (fSl w i j S3) E Q := by
  unfold dSl
  simp only [wp_bind]
theorem wp_oN : wp (oNone ρ S) E QO = QO none S := rfl
theorem wp_oS {d : Den} : wp (oSome d ρ S) E QO = wp (d ρ S) E fun w S1 => wp (match w with
  | .int i => (.ok (some i) S1 : Res (Option Int))
  | _ => .stuck) E QO := wp_bind
theorem atI0 {α : Type} {a : α} {l : List α} : atI (a :: l) 0 = some a := by
  unfold atI ixN
  rw [if_pos (by omega), if_pos (by simp)]
  rfl
theorem atI1 {α : Type} {a b : α} {l : List α} : atI (a :: b :: l) 1 = some b := by
  unfold atI ixN
  rw [if_pos (by omega), if_pos (by simp; omega)]
  rfl
theorem atI2 {α : Type} {a b c : α} {l : List α} : atI (a :: b :: c :: l) 2 = some c := by
  unfold atI ixN
  rw [if_pos (by omega), if_pos (by simp; omega)]
  rfl
theorem atI3 {α : Type} {a b c d : α} {l : List α} : atI (a :: b :: c :: d :: l) 3 = some d := by
  unfold atI ixN
  rw [if_pos (by omega), if_pos (by simp; omega)]
  rfl
theorem atI4 {α : Type} {a b c d e : α} {l : List α} : atI (a :: b :: c :: d :: e :: l) 4 = some e := by
  unfold atI ixN
  rw [if_pos (by omega), if_pos (by simp; omega)]
  rfl
theorem wp_never : wp (sNever ρ S) E QF = False := rfl
def keep (I : Env' → Store → Prop) (QF : Fl → Store → Prop) (f : Fl) (S : Store) : Prop := match f with
  | .next ρ => I ρ S
  | .cont ρ => I ρ S
  | .brk ρ => QF (.next ρ) S
  | f => QF f S
theorem wp_addII {i j : Int} : wp (fAdd (.int i) (.int j) S) E Q = Q (.int (i + j)) S := rfl
end
theorem ty_NoneType_bool : isTy "NoneType" "bool" = false := rfl
theorem ty_NoneType_int : isTy "NoneType" "int" = false := rfl
theorem ty_NoneType_str : isTy "NoneType" "str" = false := rfl
theorem ty_NoneType_tuple : isTy "NoneType" "tuple" = false := rfl
theorem ty_NoneType_list : isTy "NoneType" "list" = false := rfl
theorem ty_bool_bool : isTy "bool" "bool" = true := rfl
theorem ty_bool_int : isTy "bool" "int" = true := rfl
theorem ty_bool_str : isTy "bool" "str" = false := rfl
theorem ty_bool_tuple : isTy "bool" "tuple" = false := rfl
theorem ty_bool_list : isTy "bool" "list" = false := rfl
theorem ty_int_bool : isTy "int" "bool" = false := rfl
theorem ty_int_int : isTy "int" "int" = true := rfl
theorem ty_int_str : isTy "int" "str" = false := rfl
theorem ty_int_tuple : isTy "int" "tuple" = false := rfl
theorem ty_int_list : isTy "int" "list" = false := rfl
theorem ty_str_bool : isTy "str" "bool" = false := rfl
theorem ty_str_int : isTy "str" "int" = false := rfl
theorem ty_str_str : isTy "str" "str" = true := rfl
theorem ty_str_tuple : isTy "str" "tuple" = false := rfl
theorem ty_str_list : isTy "str" "list" = false := rfl
theorem ty_tuple_bool : isTy "tuple" "bool" = false := rfl
theorem ty_tuple_int : isTy "tuple" "int" = false := rfl
theorem ty_tuple_str : isTy "tuple" "str" = false := rfl
theorem ty_tuple_tuple : isTy "tuple" "tuple" = true := rfl
theorem ty_tuple_list : isTy "tuple" "list" = false := rfl
end MI
open PySem PySem.Spec PyProof.Rows L2 MI 
local macro_rules | `(tactic| walk_at "runp") => `(tactic| simp only [wp_bind, wp_rng1, wp_rng2, wp_met, wp_neg, wp_bYes, if_true, wp_var, wp_c, wp_bin, wp_un, wp_call, wp_nil, wp_cons, wp_tup, wp_lst, wp_dic0, wp_int, wp_bcmp, wp_boolOf, wp_btru, wp_truB, wp_bnot, wp_band, wp_bor, wp_dif, wp_xand, wp_xor, wp_xnot, MV.bl.injEq, wp_intOf, wp_ixT, wp_gN, wp_gS, wp_seq, wp_snil, wp_sexpr, wp_sret, wp_sif, wp_asg, wp_par, wp_par3, wp_for, wp_iany, wp_irng, wp_ok, wp_ite, wp_iteR, wp_lc,
  wp_srcT, wp_srcS, wp_enumT, wp_zipT, wp_gT, wp_gsNil, wp_gsCons, wp_lenT, wp_isTT, wp_isTS, wp_isTI, wp_isTN, wp_isTB, wp_chain, wp_eqS, wp_neS, wp_neI, wp_eqII, wp_isNT, wp_isNN, wp_notNT, wp_notNN, wp_inT, wp_inTc, wp_inT0, flt_true, wp_inC, wp_notInT, wp_tupT, wp_addII, wp_backT, wp_starT, itemsT, wp_sl, wp_oN, wp_oS, atI0, atI1, atI2, atI3, atI4, wp_never, wipeM,
  ty_NoneType_bool, ty_NoneType_int, ty_NoneType_str, ty_NoneType_tuple, ty_NoneType_list, ty_bool_bool, ty_bool_int, ty_bool_str, ty_bool_tuple, ty_bool_list, ty_int_bool, ty_int_int, ty_int_str, ty_int_tuple, ty_int_list, ty_str_bool, ty_str_int, ty_str_str, ty_str_tuple, ty_str_list, ty_tuple_bool, ty_tuple_int, ty_tuple_str, ty_tuple_tuple, ty_tuple_list, Bool.not_false, Bool.not_true, Bool.false_eq_true, if_false,
  true_and, true_or, and_true, decide_eq_true_eq, Bool.and_eq_true, List.getElem?_cons_zero, List.getElem?_cons_succ, Option.some.injEq, exists_eq_left', List.set_cons_zero, List.set_cons_succ, List.map_cons, List.map_nil, List.cons_append, List.nil_append, List.replicate_succ, List.replicate_zero, List.length_cons, List.length_nil])
namespace MI
open PySem PySem.Spec PyProof.Rows L2 MI
end MI
open PySem PySem.Spec PyProof.Rows L2 MI 
local macro_rules | `(tactic| walk_at "fin0") => `(tactic| first | exact Gr.refl | exact ⟨rfl, Gr.refl⟩ | exact ⟨.inl rfl, Gr.refl⟩ | exact ⟨trivial, Gr.refl⟩ | exact ⟨.inl rfl, rfl⟩ | exact rfl)
namespace MI
open PySem PySem.Spec PyProof.Rows L2 MI
end MI
set_option Elab.async false
set_option linter.all false
set_option maxRecDepth 100000
/-! Rows of classes as plain data. -/
namespace MI
open PySem PySem.Spec PyProof.Rows L2
structure Mt where
  word : Str
  ins : List Str
  out : Str
  code : List MV
  hs : List MV
structure Cs where
  name : Str
  upper : Str
  fields : List (Str × Str)
  ms : List Mt
def names (cs : List Cs) : List Str := cs.map (·.name)
def cfind (cs : List Cs) (x : Str) : Option Cs := cs.find? fun c => decide (c.name = x)
def rowOf : List Cs → Str → List Cs
  | [], _ => []
  | c :: r, x => if c.name = x then c :: rowOf r c.upper else rowOf r x
def lineOf (cs : List Cs) (x : Str) : List Str := (rowOf cs.reverse x).map (·.name) ++ ([("top" : Str)] : List Str)
structure OkN (cs : List Cs) : Prop where
  nd : (names cs).Nodup
  top : ("top" : Str) ∉ names cs
  up : ∀ pre c post, cs = pre ++ c :: post → c.upper = ("top" : Str) ∨ c.upper ∈ names pre
theorem names_app {a b : List Cs} : names (a ++ b) = names a ++ names b := List.map_append
namespace OkN
variable {cs pre post : List Cs} {c : Cs}
theorem upper (h : OkN cs) (e : cs = pre ++ c :: post) : c.upper = ("top" : Str) ∨ c.upper ∈ names cs := by
  rcases h.up pre c post e with hu | hu
  · exact .inl hu
  · refine .inr ?_
    rw [e, names_app]
    exact List.mem_append_left _ hu
end OkN
def msAt (cs : List Cs) (x : Str) : List Mt := match cfind cs x with
  | some c => c.ms
  | none => []
def idxOf (w : Str) (ms : List Mt) : Option Nat := ms.findIdx? fun m => decide (m.word = w)
def nearL (cs : List Cs) (w : Str) : List Str → Option (Str × Nat)
  | [] => none
  | u :: us => match idxOf w (msAt cs u) with
    | some i => some (u, i)
    | none => nearL cs w us
def near (cs : List Cs) (x w : Str) : Option (Str × Nat) := nearL cs w (lineOf cs x)
end MI
set_option Elab.async false
set_option linter.all false
set_option maxRecDepth 100000
/-! == of tuples. -/
namespace MI
open PySem PySem.Spec PyProof.Rows L2
section
variable {E : EX} {S : Store} {Q : MV → Store → Prop}
end
end MI
set_option Elab.async false
set_option linter.all false
set_option maxRecDepth 100000
/-! Lines upward. -/
namespace MI
open PySem PySem.Spec PyProof.Rows L2
section
variable {cs : List Cs}
end
end MI
set_option Elab.async false
set_option linter.all false
set_option maxRecDepth 100000
/-! in, not in of data of any depth. -/
namespace MI
open PySem PySem.Spec PyProof.Rows L2
section
variable {X : Cx} {G : Gx}
end
end MI
set_option Elab.async false
set_option linter.all false
set_option maxRecDepth 100000
/-! comprehensions of two fors. -/
namespace MI
open PySem PySem.Spec PyProof.Rows L2
section
variable {X : Cx} {G : Gx} {W : WX} {e a b c : Expr} {pos : Pos}
end
/-! reading them -/
section
variable {E : EX} {S : Store} {ρ : Env'} {Q : MV → Store → Prop}
end
end MI
set_option Elab.async false
set_option linter.all false
set_option maxRecDepth 100000
set_option maxHeartbeats 4000000
/-! a tuple once, a tuple no time. -/
namespace MI
open PySem PySem.Spec PyProof.Rows L2
theorem tuple_mul1 (l : Addr) (items : Array Value) (n : Nat) (dd : Option Addr) (sl : Array (Option Value)) (u : Tok) :
    Meets (Builtin.«tuple.__mul__» ⟨[.ref l, .int 1 u], []⟩) (fun _ R s => s.heap.get? l = some { cls := .type "tuple", dict := dd, data := .seq items n, slots := sl } ∧ R (.ok (.ret (Value.ref l))) s) :=
  .of_wp fun prog w A R s h => by
    obtain ⟨hp, g, d, tk, os⟩ := s
    obtain ⟨hl, h⟩ := h
    have f1 := AutoSeq1.idx_int
    wp_walk using wpAny_loadPart' hl
    exact ⟨_, rfl, h⟩
theorem tuple_mul0 (l : Addr) (items : Array Value) (n : Nat) (dd : Option Addr) (sl : Array (Option Value)) (u : Tok) (he : items.isEmpty = false) :
    Meets (Builtin.«tuple.__mul__» ⟨[.ref l, .int 0 u], []⟩) (fun _ R s => s.heap.get? l = some { cls := .type "tuple", dict := dd, data := .seq items n, slots := sl } ∧ R (.ok (.ret (Value.ref s.heap.objs.size))) { s with heap := s.heap.push { cls := Value.type "tuple", data := Data.seq #[] }, toks := s.toks }) :=
  .of_wp fun prog w A R s h => by
    obtain ⟨hp, g, d, tk, os⟩ := s
    obtain ⟨hl, h⟩ := h
    have f1 := AutoSeq1.idx_int
    wp_walk using wpAny_loadPart' hl
    exact ⟨_, rfl, h⟩
def rRepT1 (K : PySem.W.Frag) : R2 := fun x y H Q => ∃ l xs, x = .ref l ∧ y = .int 1 ∧ SqT K H l xs ∧ Q (.ref l) H
def rRepT0 (K : PySem.W.Frag) : R2 := fun x y H Q => ∃ l xs, x = .ref l ∧ y = .int 0 ∧ SqT K H l xs ∧ xs ≠ [] ∧ ∀ p, H p = none → Q (.ref p) (upd H p (.tup []))
section
variable {X : Cx} {G : Gx} {W : WX} {a b : Expr} {pos : Pos} {da db : Den}
theorem op_repT1 : OpR X (binaryOp .Mult) (rRepT1 X.K) := by
  intro pins s σ H x y v u Q I rx ry h
  obtain ⟨l, xs, rfl, rfl, hT, q⟩ := h
  cases rx
  obtain ⟨t, rfl⟩ := ry
  obtain ⟨its, r, ⟨⟨cls, dd, data, sl⟩, ho, hc, n, hd⟩, hs⟩ := I.tuple hT
  simp only at hc hd
  subst hc hd
  exact wpAny_binaryOp_repeat_ref (T := "tuple") (U := "int") (by decide) ⟨_, ho, rfl⟩ (fun s' => typeIs_int s' 1 t) noFill_tuple_mul F.fills_int_mul F.slot_int_rmul repeat_tuple F.slot_int_index.lookup
    (call_meets F.slot_int_rmul (typeIs_int s 1 t) F.entry_int_rmul (F.args_int_rmul_2 _ _) (int_rmul_tuple 1 t l its.toArray n dd sl)
      ⟨ho, rfl, ⟨_, ho, rfl⟩, call_meets F.slot_tuple_mul ⟨_, ho, rfl⟩ F.entry_tuple_mul (F.args_tuple_mul_2 _ _) (tuple_mul1 l its.toArray n dd sl t) ⟨ho, .ref l, H, I, rfl, q⟩⟩)
theorem op_repT0 : OpR X (binaryOp .Mult) (rRepT0 X.K) := by
  intro pins s σ H x y v u Q I rx ry h
  obtain ⟨l, xs, rfl, rfl, hT, hne, q⟩ := h
  cases rx
  obtain ⟨t, rfl⟩ := ry
  obtain ⟨its, r, ⟨⟨cls, dd, data, sl⟩, ho, hc, n, hd⟩, hs⟩ := I.tuple hT
  simp only at hc hd
  subst hc hd
  have hle : its.length = xs.length := r.length.symm
  have hi : its.toArray.isEmpty = false := by
    cases its with
    | nil => exact absurd (List.eq_nil_of_length_eq_zero hle.symm) hne
    | cons a b => rfl
  exact wpAny_binaryOp_repeat_ref (T := "tuple") (U := "int") (by decide) ⟨_, ho, rfl⟩ (fun s' => typeIs_int s' 0 t) noFill_tuple_mul F.fills_int_mul F.slot_int_rmul repeat_tuple F.slot_int_index.lookup
    (call_meets F.slot_int_rmul (typeIs_int s 0 t) F.entry_int_rmul (F.args_int_rmul_2 _ _) (int_rmul_tuple 0 t l its.toArray n dd sl)
      ⟨ho, rfl, ⟨_, ho, rfl⟩, call_meets F.slot_tuple_mul ⟨_, ho, rfl⟩ F.entry_tuple_mul (F.args_tuple_mul_2 _ _) (tuple_mul0 l its.toArray n dd sl t hi) ⟨ho, .ref s.heap.objs.size, _, I.laid (t' := s.toks) (o := .tup []) (fun b ob q => Heap.get?_push_of_some _ q) (Nat.le_refl _) ⟨by rw [sizeLine_eq]; decide, _, .nil, IsTup.new _ _⟩, rfl, q _ (I.hok.fresh (Nat.le_refl _))⟩⟩)
theorem w_mul {G : Gx} : OpW G fMul (fun x y H Q => (rI CMul (fun i j => .int (i * j)) x y H Q) ∨ (rRepT G.K x y H Q ∨ rRep x y H Q)) := by
  intro ι H S E Q w1 w2 v1 v2 s r1 r2 h
  unfold fMul at h
  split at h
  · cases r1
    cases r2
    split at h
    · rename_i i j hz
      refine .inl ⟨_, _, rfl, rfl, ?_, h ι H (.refl s) _ (.int _)⟩
      simp only [Bool.or_eq_true, Bool.and_eq_true, decide_eq_true_eq] at hz
      exact hz
    · exact h.elim
  · cases r1 with
    | tup t q =>
      cases r2
      split at h
      · rename_i l k hz
        simp only [Bool.and_eq_true, decide_eq_true_eq] at hz
        obtain ⟨z1, z2, z3, z4⟩ := hz
        refine .inr (.inl ⟨_, _, _, rfl, rfl, t, fun e => z1 ?_, z2, z3, by rw [← q.length]; exact z4, new_tup s (rws_rep q _) h⟩)
        subst e
        cases q
        rfl
      · exact h.elim
  · cases r1 with
    | ref i =>
      cases r2
      split at h
      · rename_i l hS
        obtain ⟨vs, g, q⟩ := s.obj _ _ _ hS i
        split at h
        · rename_i k _ _ hz
          simp only [Bool.and_eq_true, decide_eq_true_eq] at hz
          obtain ⟨z1, z2, z3⟩ := hz
          refine .inr (.inr ⟨_, _, vs, rfl, rfl, g, by omega, by omega, ?_, new_lst s (rws_rep q _) h⟩)
          rw [← q.length]
          have hk : k.toNat ≤ 100 := by omega
          exact Nat.le_trans (Nat.mul_le_mul z3 hk) (by rw [sizeLine_eq]; decide)
        · exact h.elim
      · exact h.elim
  · exact h.elim
def fMulX (w1 w2 : MV) (S : Store) : Res MV := match w1, w2 with
  | .tup x, .int k => if k = 1 then .ok (.tup x) S else if k = 0 then (if x ≠ [] then .ok (.tup []) S else .stuck) else fMul (.tup x) (.int k) S
  | w1, w2 => fMul w1 w2 S
theorem de_mulX (hK : X.K = G.K) (ha : DE X G W a da) (hb : DE X G W b db) : DE X G W (.BinOp a .Mult b pos) (dBin fMulX da db) := by
  refine de_op (OpR.or (OpR.or op_repT1 op_repT0) (OpR.or op_mul (OpR.or op_repT op_rep))) ?_ ha hb
  rw [hK]
  intro ι H S E Q w1 w2 v1 v2 s r1 r2 h
  have old : fin G ι H E (PV G Q) (fMul w1 w2 S) → _ := fun h => w_mul ι H S E Q w1 w2 v1 v2 s r1 r2 h
  unfold fMulX at h
  split at h
  · cases r1 with
    | tup t q =>
      cases r2
      split at h
      · rename_i hk
        subst hk
        exact .inl (.inl ⟨_, _, rfl, rfl, t, h ι H (.refl s) _ (.tup t q)⟩)
      · split at h
        · rename_i hk
          subst hk
          split at h
          · rename_i hx
            refine .inl (.inr ⟨_, _, rfl, rfl, t, fun e => hx ?_, new_tup s .nil h⟩)
            subst e
            cases q
            rfl
          · exact h.elim
        · exact .inr (old h)
  · exact .inr (old h)
end
end MI
set_option Elab.async false
set_option linter.all false
set_option maxRecDepth 100000
set_option maxHeartbeats 1000000
/-! reversed(range(n)), dict(list of pairs with text keys). -/
namespace MI
open PySem PySem.Spec PyProof.Rows L2
section
variable {X : Cx} {G : Gx} {W : WX} {a b : Expr} {pos : Pos} {da db : Den} {dr : DenL} {es : List Expr}
end
section
variable {S : Store} {E : EX} {QI : Src → Store → Prop} {ρ : Env'}
end
end MI
set_option Elab.async false
set_option linter.all false
set_option maxRecDepth 100000
/-! x += e for whole numbers -/
namespace MI
open PySem PySem.Spec PyProof.Rows L2
section
variable {X : Cx} {G : Gx} {W : WX} {a : Expr} {da : Den} {pos : Pos}
end
end MI
set_option Elab.async false
set_option linter.all false
set_option maxRecDepth 100000
/-! texts in order: <, sorted; the place of a text in a list -/
namespace MI
open PySem PySem.Spec PyProof.Rows L2
section
variable {X : Cx} {G : Gx} {W : WX} {a : Expr} {es : List Expr} {da : Den} {dr : DenL} {pos : Pos}
/-! sorted(xs), xs a list of texts -/
def leS (x y : Str) : Bool := !decide (y.cps.toList < x.cps.toList)
theorem leS_iff {x y : Str} : leS x y = true ↔ x.cps.toList ≤ y.cps.toList := by
  unfold leS
  simp
theorem leS_trans (x y z : Str) (h1 : leS x y = true) (h2 : leS y z = true) : leS x z = true := by
  rw [leS_iff] at *
  exact List.le_trans h1 h2
theorem leS_total (x y : Str) : (leS x y || leS y x) = true := by
  rw [Bool.or_eq_true, leS_iff, leS_iff]
  exact List.le_total _ _
theorem leS_anti {x y : Str} (h1 : leS x y = true) (h2 : leS y x = true) : x = y := by
  rw [leS_iff] at *
  have := List.le_antisymm h1 h2
  obtain ⟨a⟩ := x
  obtain ⟨b⟩ := y
  congr 1
  exact Array.toList_inj.mp this
end
end MI
set_option Elab.async false
set_option linter.all false
set_option maxRecDepth 100000
/-! raise X("..."), X an own error without an __init__ of its own -/
namespace MI
open PySem PySem.Spec PyProof.Rows L2
section
variable {X : Cx} {G : Gx} {W : WX}
end
section
variable {E : EX} {S : Store} {ρ : Env'}
end
end MI
set_option Elab.async false
set_option linter.all false
set_option maxRecDepth 100000
/-! try: body, except X: suite (the exception has no name) -/
namespace MI
open PySem PySem.Spec PyProof.Rows L2
section
variable {X : Cx} {x : Str} {c : Value} {body suite : List Stmt} {b₀ : Stmt} {np pos pos' : Pos} {tb : WX → TS} {ts : Addr → Value → Option Addr → TS} {Wout : WX}
end
section
variable {X : Cx} {G : Gx} {W : WX}
end
section
variable {E : EX} {S : Store} {ρ : Env'} {QF : Fl → Store → Prop}
end
end MI
set_option Elab.async false
set_option linter.all false
set_option maxRecDepth 100000
/-! own errors over ValueError without an __init__ of their own: what the top has written of them -/
namespace MI
open PySem PySem.Spec PyProof.Rows L2
abbrev mroVE : List Value := [.type "ValueError", .type "Exception", .type "BaseException", .type "object"]
structure OwnErr (K : PySem.W.Frag) (C : Addr) : Prop where
  exc : PySem.W.excIn K C mroVE "ValueError.__new__" = true
  keep : PySem.W.keepIn K (.ref C) = true
  sub : PySem.W.subIn K (.ref C) (.type "BaseException") = some true
  ty : PySem.W.typeIn K (.ref C) = some (.type "type")
end MI
set_option Elab.async false
set_option linter.all false
set_option maxRecDepth 100000
set_option maxHeartbeats 2000000
/-! own errors whose __init__ says super().__init__(f"..") and then self.f = f for each of its parameters -/
namespace PySem
namespace EIN
open PySem.W PySem.Calls PyProof.Rows PySem.HandSPX
/-! ### the text of __init__ -/
def tailOk : List Stmt → List Str → Bool
  | [], [] => true
  | .Assign [.Attribute (.Name s _) f _] (.Name g _) _ :: r, x :: l => decide (s = ("self" : Str)) && (decide (f = x) && (decide (g = x) && tailOk r l))
  | _, _ => false
def partsOk (fl : List Str) : List Expr → Bool
  | [] => true
  | .Constant (.str z) _ _ :: r => decide (z.length ≤ 200) && partsOk fl r
  | .FormattedValue (.Name g _) (-1) none _ :: r => decide (g ∈ fl) && partsOk fl r
  | _ :: _ => false
section
variable {prog : Program} {w : World} {A : Around} {E : Value → Shared → Prop} {s : Shared} {env : Env}
end
section
variable {M : Model} {A : Around} {E : Value → Shared → Prop} {s : Shared} {env : Env} {c : Code}
end
structure SupTxt (prog : Program) (K : Frag) (C fI cc cda : Addr) (fd : FuncData) (ar : Arg) : Prop where
  T : L2.OexC K C
  fn : ∃ oc od osl, K.lookup fI = some ⟨oc, od, .func fd, osl⟩
  hp : (fd.params.posonlyargs ++ fd.params.args).head? = some ar
  code : ∃ ccl cdd vs ccs file tf, K.lookup cda = some ⟨ccl, cdd, .fields vs, ccs⟩ ∧ vs[2]? = some (.str file tf) ∧ ((prog.main.file : Str) == file) = true
  cell : ∃ cl cld csl, K.lookup cc = some ⟨cl, cld, .cell (some (.ref C)), csl⟩
  sub : mroIn K C (.ref C) = some true
  sv : subIn K (.ref C) (.type "ValueError") = some true
  up : ks_superIn K C C "__init__" = some (some (.builtin "ValueError.__init__"))
  op : nsIn K cStatics "thirdparty.any" = some none
  top : (prog.main.scope.names.lookup ("super" : Str)).isSome = false
section
variable {prog : Program} {w : World} {A : Around} {E : Value → Shared → Prop} {s : Shared} {K : Frag} {C fI cc cda x t0 L : Addr} {fd : FuncData} {ar : Arg} {vm mg mb : Str → Option Value} {qual : Str} {scope : Scope}
end
def mOf (vm : Str → Option Value) (D : List Str) : Str → Option Value := fun y => if y ∈ D then vm y else none
inductive Ex (h0 h : Heap) (x C t1 : Addr) (vm : Str → Option Value) : List Str → Prop where
  | none (hx : h.get? x = some (excO C t1)) (sz : h0.objs.size ≤ h.objs.size) : Ex h0 h x C t1 vm []
  | some {D : List Str} (dx : Addr) (hx : h.get? x = some ({ cls := .ref C, dict := some dx, data := .fields #[.ref t1, .none, .none, .none, .bool false, .none] } : Obj)) (hn : h.Ns1 dx (mOf vm D)) (big : h0.objs.size ≤ dx) (ne : dx ≠ x) : Ex h0 h x C t1 vm D
section
variable {prog : Program} {w : World} {A : Around} {E : Value → Shared → Prop} {K : Frag} {C fI cc cda x t1 L : Addr} {vm : Str → Option Value} {qual : Str} {scope : Scope} {c : Code}
end
structure InitEnd (h h' : Heap) (x C dx t1 : Addr) (m : Str → Option Value) : Prop where
  keep : ∀ b o, b ≠ x → h.get? b = some o → h'.get? b = some o
  obj : h'.get? x = some ({ cls := .ref C, dict := some dx, data := .fields #[.ref t1, .none, .none, .none, .bool false, .none] } : Obj)
  dbig : h.objs.size ≤ dx
  dne : dx ≠ x
  ns : h'.Ns1 dx m
structure InitTxt (prog : Program) (K : Frag) (C fI : Addr) (fl : List Str) : Prop where
  ex : ∃ (cc cda : Addr) (name qual : Str) (params : Arguments) (scope : Scope) (dV kV doc pm ct : Value) (an : Option Addr) (parts : List Expr) (r : List Stmt) (p0 p1 p2 p3 p4 p5 : Pos) (ar : Arg),
    SupTxt prog K C fI cc cda (ksFn name qual params (.Expr (.Call (.Attribute (.Call (.Name "super" p0) [] [] p1) "__init__" p2) [.JoinedStr parts p3] [] p4) p5 :: r) scope dV kV doc pm an (.ref cda) ct cc) ar ∧ ar.arg = ("self" : Str) ∧ codeIn K (.ref cda) qual = true ∧
    scope.kind = .function ∧ scope.isCoroutine = false ∧ scope.isGenerator = false ∧ (∀ y ∈ scope.names, y.2 ≠ .cell) ∧ scope.names.lookup ("super" : Str) = some .globalImplicit ∧ scope.names.lookup ("__class__" : Str) = some .free ∧ scope.names.lookup ("self" : Str) = some .local ∧
    (∀ g ∈ fl, scope.names.lookup g = some .local) ∧ tailOk r fl = true ∧ partsOk fl parts = true ∧ 2 ≤ parts.length ∧ parts.length ≤ 90 ∧
    ∀ (x : Value) (us : List Value), us.length = fl.length → bindArgs (ksFn name qual params (.Expr (.Call (.Attribute (.Call (.Name "super" p0) [] [] p1) "__init__" p2) [.JoinedStr parts p3] [] p4) p5 :: r) scope dV kV doc pm an (.ref cda) ct cc) ⟨x :: us, []⟩ = pure ((("self" : Str), x) :: fl.zip us)
  nd : ((("self" : Str)) :: fl).Nodup
  dbg : ∀ g ∈ fl, (g == ("__debug__" : Str)) = false
  no : ∀ g ∈ fl, findIn K (.ref C) g = some none
  ne : fl ≠ []
  few : fl.length ≤ 100
section
variable {prog : Program} {w : World} {A : Around} {R : Result → Shared → Prop} {s : Shared} {K : Frag} {C fI x t0 : Addr} {mg mb : Str → Option Value} {fl : List Str} {us : List Value}
end
end EIN
end PySem
set_option Elab.async false
set_option linter.all false
set_option maxRecDepth 100000
set_option maxHeartbeats 2000000
/-! raise X(e, ..), X an own error with fields: super().__init__(f"..") and self.f = f for each -/
namespace L2
open PySem PySem.Spec PyProof.Rows
section
variable {X : Cx} {C fI : Addr} {fl : List Str} {x : Str} {e : Expr} {es : List Expr} {ta : TA} {p pos : Pos} {k : Nat}
end
end L2
namespace MI
open PySem PySem.Spec PyProof.Rows L2
section
variable {X : Cx} {G : Gx} {W : WX}
end
section
variable {E : EX} {S : Store} {ρ : Env'}
end
end MI
set_option Elab.async false
set_option linter.all false
set_option maxRecDepth 100000
set_option maxHeartbeats 2000000
/-! try: body, then clauses of which each may name its exception -/
namespace MI
open PySem PySem.Spec PyProof.Rows L2
structure Cla where
  c : Value
  i : Option Nat
  ts : Addr → Value → Option Addr → TS
def endsAs (i : Nat) (D : Ends) : Ends := { nx := fun σ' H' => D.nx (σ'.set i none) H', rt := D.rt, bk := fun σ' H' => D.bk (σ'.set i none) H', ct := fun σ' H' => D.ct (σ'.set i none) H' }
def Cla.run (k : Cla) (D : Ends) (cls : Value) (d : Option Addr) (σ : L2.St) (H : Hp) (a : Addr) : Prop := match k.i with
  | none => k.ts a cls d D σ H
  | some i => k.ts a cls d (endsAs i D) (σ.set i (some (.ref a))) H
inductive ClaOk (X : Cx) : List ExceptHandler → List Cla → Prop
  | nil : ClaOk X [] []
  | plain {x : Str} {c : Value} {ts : Addr → Value → Option Addr → TS} {b₀ : Stmt} {suite : List Stmt} {np pos' : Pos} {hs : List ExceptHandler} {l : List Cla} (hc : Names X x c)
      (hsu : ∀ (a : Addr) (oe : Obj) (cls : Value) (d : Option Addr) (pn : List (Addr × Obj)), Zc cls d oe → (∃ vs, oe.data = .fields vs) → PSs (X.suite a ((a, oe) :: pn)) (b₀ :: suite) (ts a cls d)) (r : ClaOk X hs l) :
      ClaOk X (.ExceptHandler (some (.Name x np)) none (b₀ :: suite) pos' :: hs) (⟨c, none, ts⟩ :: l)
  | named {x n : Str} {i : Nat} {c : Value} {ts : Addr → Value → Option Addr → TS} {b₀ : Stmt} {suite : List Stmt} {np pos' : Pos} {hs : List ExceptHandler} {l : List Cla} (hi : X.N[i]? = some n) (hln : X.env.kindOf n = some .local) (hc : Names X x c)
      (hsu : ∀ (a : Addr) (oe : Obj) (cls : Value) (d : Option Addr) (pn : List (Addr × Obj)), Zc cls d oe → (∃ vs, oe.data = .fields vs) → PSs (X.suite a ((a, oe) :: pn)) (b₀ :: suite) (ts a cls d)) (r : ClaOk X hs l) :
      ClaOk X (.ExceptHandler (some (.Name x np)) (some n) (b₀ :: suite) pos' :: hs) (⟨c, some i, ts⟩ :: l)
section
variable {X : Cx} {body : List Stmt} {h₀ : ExceptHandler} {hds : List ExceptHandler} {l : List Cla} {pos : Pos} {tb : WX → TS} {Wout : WX}
end
end MI
set_option Elab.async false
set_option linter.all false
set_option maxRecDepth 100000
/-! two fixed parts that differ only in the slots known by address -/
namespace MI
open PySem PySem.Spec PyProof.Rows L2
abbrev Gx.dy (G : Gx) (ds : List Dyn) : Gx := { G with dyn := ds }
structure Gx.Like (G G' : Gx) : Prop where
  k : G'.K = G.K
  c : G'.ct = G.ct
  o : G'.outs = G.outs
  w : G'.ow = G.ow
  t : G'.tb = G.tb
theorem Gx.Like.symm {G G' : Gx} (l : G.Like G') : G'.Like G := ⟨l.k.symm, l.c.symm, l.o.symm, l.w.symm, l.t.symm⟩
section
variable {G G' : Gx} {ι ι' : List Addr} {H H' : Hp} {S S' : Store} (L : G.Like G')
include L
mutual
theorem RW.to : ∀ (w : MV) (v : V), RW G ι H w v → RW G' ι H w v
  | .non, _, h => by cases h; exact .non
  | .bl b, _, h => by cases h; exact .bl b
  | .int i, _, h => by cases h; exact .int i
  | .str s, _, h => by cases h; exact .str s
  | .tup l, _, h => by
    cases h with
    | tup h1 h2 => exact .tup (by rw [L.k]; exact h1) (RWs.to l _ h2)
  | .ref n, _, h => by
    cases h with
    | ref h1 => exact .ref h1
  | .out k, _, h => by
    cases h with
    | out h1 => exact .out (by rw [L.o]; exact h1)
theorem RWs.to : ∀ (ws : List MV) (vs : List V), RWs G ι H ws vs → RWs G' ι H ws vs
  | [], _, h => by cases h; exact .nil
  | w :: ws, _, h => by
    cases h with
    | cons h1 h2 => exact .cons (RW.to w _ h1) (RWs.to ws _ h2)
end
theorem RO.to {a : Addr} {o : MO} (r : RO G ι H a o) : RO G' ι H a o := by
  cases o with
  | lst l => obtain ⟨vs, h, q⟩ := r; exact ⟨vs, h, RWs.to L _ _ q⟩
  | rol l => obtain ⟨o, vs, h, q, ii⟩ := r; exact ⟨o, vs, h, RWs.to L _ _ q, ii⟩
  | dic kvs => obtain ⟨kv', h, z, q⟩ := r; exact ⟨kv', h, z, RWs.to L _ _ q⟩
  | ins c fs => obtain ⟨C, dx, fs', hc, h, z, q⟩ := r; exact ⟨C, dx, fs', by rw [L.c]; exact hc, h, z, RWs.to L _ _ q⟩
  | tpo l => obtain ⟨o, vs, h, c, d, q⟩ := r; exact ⟨o, vs, h, c, d, RWs.to L _ _ q⟩
  | tpp l => obtain ⟨vs, h, q⟩ := r; exact ⟨vs, h, RWs.to L _ _ q⟩
  | dct kvs => obtain ⟨kv', h, z, q⟩ := r; exact ⟨kv', h, z, RWs.to L _ _ q⟩
  | fdt kvs => obtain ⟨o, kv', h, z, q⟩ := r; exact ⟨o, kv', h, z, RWs.to L _ _ q⟩
  | set zs => obtain ⟨w, c, g, l, h⟩ := r; exact ⟨w, c, by rw [L.w]; exact g, l, h⟩
theorem Sim.to (s : Sim G ι H S) : Sim G' ι H S := ⟨s.len, s.nd, fun n o a h1 h2 => RO.to L (s.obj n o a h1 h2), by rw [L.t]; exact s.inv⟩
theorem Post.to (p : Post G ι H ι' H' S') : Post G' ι H ι' H' S' := ⟨p.ext, fun a xs q => by rw [L.k] at q ⊢; exact p.tup a xs q, p.frz, p.kp, Sim.to L p.sim⟩
theorem RX.to {c : Str} {fs : List (Str × MV)} {cls : Value} {d : Option Addr} (x : RX G ι H c fs cls d) : RX G' ι H c fs cls d := by
  obtain ⟨C, h1, h2, h3⟩ := x
  refine ⟨C, by rw [L.c]; exact h1, h2, h3.imp_right fun ⟨a, fs', e1, e2, e3, e4⟩ => ⟨a, fs', e1, e2, e3, RWs.to L _ _ e4⟩⟩
end
section
variable {α : Type} {G G' : Gx} {ι : List Addr} {H : Hp} {E E' : Value → Option Addr → Hp → Prop} {P P' : α → List Addr → Hp → Prop}
theorem fin.to (L : G.Like G') {r : Res α} (h : fin G ι H E P r) (k : ∀ a ι' H', P a ι' H' → P' a ι' H') (ke : ∀ c d H', E c d H' → E' c d H') : fin G' ι H E' P' r := by
  cases r with
  | ok a S' => exact fun ι' H' p => k a ι' H' (h ι' H' (Post.to L.symm p))
  | err c fs S' => exact fun ι' H' cls d p x => ke _ _ _ (h ι' H' cls d (Post.to L.symm p) (RX.to L.symm x))
  | stuck => exact h.elim
end
def FX (d : Option Addr) (fs : List (Str × MV)) (fs' : List (Str × V)) : Prop := (fs = [] ∧ fs' = [] ∧ d = none) ∨ (∃ a, d = some a) ∧ fs'.map (·.1) = fs.map (·.1)
def kx (d : Option Addr) (fs' : List (Str × V)) : List (Addr × HO) := match d with
  | some a => [(a, .xd fs')]
  | none => []
abbrev exDyn (i : Nat) (a : Addr) (d : Option Addr) (fs : List (Str × MV)) (fs' : List (Str × V)) : Dyn := ⟨i, a, kx d fs', fs.map (·.2), fs'.map (·.2)⟩
section
variable {G : Gx} {ι : List Addr} {H : Hp} {ρ : Env'} {σ : L2.St} {i : Nat} {a : Addr}
end
end MI
set_option Elab.async false
set_option linter.all false
set_option maxRecDepth 100000
set_option maxHeartbeats 2000000
/-! the small machine's try with clauses: suites that only return something of their exception -/
namespace MI
open PySem PySem.Spec PyProof.Rows L2
structure DX (X : Cx) (G : Gx) (i : Nat) (e : Expr) (te : Addr → Value → Option Addr → TE) (rv : Str → List (Str × MV) → Option MV) : Prop where
  run : ∀ (a : Addr) (oe : Obj) (cls : Value) (d : Option Addr) (pn : List (Addr × Obj)), Zc cls d oe → (∃ vs, oe.data = .fields vs) → PE (X.suite a ((a, oe) :: pn)) e (te a cls d)
  ok : ∀ (ι : List Addr) (S : Store) (H : Hp) (σ : L2.St) (a : Addr) (c : Str) (fs : List (Str × MV)) (cls : Value) (d : Option Addr) (w : MV) (Q : VK), Sim G ι H S → RX G ι H c fs cls d → σ[i]? = some (some (.ref a)) → rv c fs = some w →
    (∀ v, RW G ι H w v → Q v H) → te a cls d σ H Q
structure DXs (X : Cx) (G : Gx) (i : Nat) (es : List Expr) (ta : Addr → Value → Option Addr → TA) (rv : Str → List (Str × MV) → Option (List MV)) : Prop where
  run : ∀ (a : Addr) (oe : Obj) (cls : Value) (d : Option Addr) (pn : List (Addr × Obj)), Zc cls d oe → (∃ vs, oe.data = .fields vs) → PA (X.suite a ((a, oe) :: pn)) es (ta a cls d)
  ok : ∀ (ι : List Addr) (S : Store) (H : Hp) (σ : L2.St) (a : Addr) (c : Str) (fs : List (Str × MV)) (cls : Value) (d : Option Addr) (ws : List MV) (Q : List V → Hp → Prop), Sim G ι H S → RX G ι H c fs cls d → σ[i]? = some (some (.ref a)) → rv c fs = some ws →
    (∀ vs, RWs G ι H ws vs → Q vs H) → ta a cls d σ H Q
section
variable {X : Cx} {G : Gx} {i : Nat} {e : Expr} {es : List Expr}
structure DR (X : Cx) (G : Gx) (i : Nat) (st : Stmt) (ts : Addr → Value → Option Addr → TS) (rv : Str → List (Str × MV) → Option MV) : Prop where
  run : ∀ (a : Addr) (oe : Obj) (cls : Value) (d : Option Addr) (pn : List (Addr × Obj)), Zc cls d oe → (∃ vs, oe.data = .fields vs) → PS (X.suite a ((a, oe) :: pn)) st (ts a cls d)
  ok : ∀ (ι : List Addr) (S : Store) (H : Hp) (σ : L2.St) (a : Addr) (c : Str) (fs : List (Str × MV)) (cls : Value) (d : Option Addr) (w : MV) (D : Ends), Sim G ι H S → RX G ι H c fs cls d → σ[i]? = some (some (.ref a)) → rv c fs = some w →
    (∀ ι' H' v, Post G ι H ι' H' S → RW G ι' H' w v → D.rt v H') → ts a cls d D σ H
end
inductive ClaM where
  | plain (tbl : Str → Option Bool) (d : DenS)
  | named (tbl : Str → Option Bool) (i : Nat) (rv : Str → List (Str × MV) → Option MV)
  | sue (tbl : Str → Option Bool) (i : Nat) (d : Str → List (Str × MV) → DenS)
def ClaM.tbl : ClaM → Str → Option Bool
  | .plain t _ => t
  | .named t _ _ => t
  | .sue t _ _ => t
def tSue (G : Gx) (i : Nat) (d : Str → List (Str × MV) → DenS) (a : Addr) (cls : Value) (dx : Option Addr) : TS := fun D σ H => ∃ (c : Str) (C : Addr) (fs : List (Str × MV)) (fs' : List (Str × V)), G.ct c = some C ∧ cls = .ref C ∧ FX dx fs fs' ∧ tS (G.dy (exDyn i a dx fs fs' :: G.dyn)) WF (d c fs) D σ H
inductive ClaDs (X : Cx) (G : Gx) : List ExceptHandler → List Cla → List ClaM → Prop
  | nil : ClaDs X G [] [] []
  | plain {x : Str} {cv : Value} {b₀ : Stmt} {suite : List Stmt} {np pos' : Pos} {hs : List ExceptHandler} {l : List Cla} {m : List ClaM} {tbl : Str → Option Bool} {d : DenS} (hc : Names X x cv)
      (ht : ∀ (c : Str) (C : Addr) (b : Bool), G.ct c = some C → tbl c = some b → PySem.W.exmOne X.K (.ref C) cv = some b)
      (hsu : ∀ (a : Addr) (oe : Obj) (pn : List (Addr × Obj)), DSs (X.suite a ((a, oe) :: pn)) G WF (b₀ :: suite) d) (r : ClaDs X G hs l m) :
      ClaDs X G (.ExceptHandler (some (.Name x np)) none (b₀ :: suite) pos' :: hs) (⟨cv, none, fun _ _ _ => tS G WF d⟩ :: l) (.plain tbl d :: m)
  | named {x n : Str} {i : Nat} {cv : Value} {st : Stmt} {np pos' : Pos} {hs : List ExceptHandler} {l : List Cla} {m : List ClaM} {tbl : Str → Option Bool} {ts : Addr → Value → Option Addr → TS} {rv : Str → List (Str × MV) → Option MV} (hi : X.N[i]? = some n) (hln : X.env.kindOf n = some .local) (hc : Names X x cv)
      (ht : ∀ (c : Str) (C : Addr) (b : Bool), G.ct c = some C → tbl c = some b → PySem.W.exmOne X.K (.ref C) cv = some b)
      (hsu : DR X G i st ts rv) (r : ClaDs X G hs l m) :
      ClaDs X G (.ExceptHandler (some (.Name x np)) (some n) [st] pos' :: hs) (⟨cv, some i, ts⟩ :: l) (.named tbl i rv :: m)
  | sue {x n : Str} {i : Nat} {cv : Value} {b₀ : Stmt} {suite : List Stmt} {np pos' : Pos} {hs : List ExceptHandler} {l : List Cla} {m : List ClaM} {tbl : Str → Option Bool} {d : Str → List (Str × MV) → DenS} (hi : X.N[i]? = some n) (hln : X.env.kindOf n = some .local) (hc : Names X x cv)
      (ht : ∀ (c : Str) (C : Addr) (b : Bool), G.ct c = some C → tbl c = some b → PySem.W.exmOne X.K (.ref C) cv = some b) (hn : ∀ y ∈ G.dyn, y.i ≠ i)
      (hsu : ∀ (a : Addr) (oe : Obj) (dx : Option Addr) (pn : List (Addr × Obj)) (c : Str) (C : Addr) (fs : List (Str × MV)) (fs' : List (Str × V)), Zc (.ref C) dx oe → (∃ vs, oe.data = .fields vs) → G.ct c = some C → FX dx fs fs' →
        DSs (X.suite a ((a, oe) :: pn)) (G.dy (exDyn i a dx fs fs' :: G.dyn)) WF (b₀ :: suite) (d c fs)) (r : ClaDs X G hs l m) :
      ClaDs X G (.ExceptHandler (some (.Name x np)) (some n) (b₀ :: suite) pos' :: hs) (⟨cv, some i, tSue G i d⟩ :: l) (.sue tbl i d :: m)
section
variable {X : Cx} {G : Gx} {W : WX}
end
section
variable {E : EX} {S : Store} {ρ : Env'} {QF : Fl → Store → Prop}
end
end MI
set_option Elab.async false
set_option linter.all false
set_option maxRecDepth 100000
set_option maxHeartbeats 2000000
/-! own errors with fields: what the top has written of them, seen by one Bool -/
namespace MI
open PySem PySem.Spec PyProof.Rows L2 PySem.EIN
structure ErrF (prog : Program) (K : PySem.W.Frag) (C fI : Addr) (fl : List Str) : Prop where
  O : OexC K C
  T : InitTxt prog K C fI fl
  iC : PySem.W.findIn K (.ref C) "__init__" = some (some (.ref fI))
  tI : PySem.W.typeIn K (.ref fI) = some (.type "function")
  xf : XfC K C
  no : ∀ g ∈ fl, PySem.W.findIn K (.ref C) g = some none
  sup : PySem.W.nsIn K mainGlobals "super" = some none
end MI
set_option Elab.async false
set_option linter.all false
set_option maxRecDepth 100000
set_option maxHeartbeats 2000000
/-! what a named clause gives, by names; fields of errors -/
namespace MI
open PySem PySem.Spec PyProof.Rows L2 PySem.EIN
section
variable {X : Cx} {G : Gx} {i : Nat} {e : Expr} {es : List Expr}
end
end MI
set_option Elab.async false
set_option linter.all false
set_option maxRecDepth 100000
set_option maxHeartbeats 2000000
/-! an object made within a try: what its __init__ raises is the try's -/
namespace MI
open PySem PySem.Spec PyProof.Rows L2
section
variable {X : Cx} {CX : CXT} {k : Nat} {f C : Addr} {fd : FuncData} {ps : List Str} {sp : Sp} {x : Str} {p pos : Pos} {e : Expr} {es : List Expr} {t : TA}
end
section
variable {X : Cx} {G : Gx} {W : WX} {a : Expr} {es : List Expr} {dr : DenL} {x : Str} {p pos : Pos}
end
end MI
set_option Elab.async false
set_option linter.all false
set_option maxRecDepth 100000
set_option maxHeartbeats 2000000
/-! named clauses: isinstance of the caught error, `x if t else y`, tuples within -/
namespace MI
open PySem PySem.Spec PyProof.Rows L2 PySem.EIN
structure DXT (X : Cx) (G : Gx) (i : Nat) (e : Expr) (tt : Addr → Value → Option Addr → TT) (rt : Str → Option Bool) : Prop where
  run : ∀ (a : Addr) (oe : Obj) (cls : Value) (d : Option Addr) (pn : List (Addr × Obj)), Zc cls d oe → (∃ vs, oe.data = .fields vs) → PT (X.suite a ((a, oe) :: pn)) e (tt a cls d)
  ok : ∀ (ι : List Addr) (S : Store) (H : Hp) (σ : L2.St) (a : Addr) (c : Str) (fs : List (Str × MV)) (cls : Value) (d : Option Addr) (b : Bool) (Q : Bool → Hp → Prop), Sim G ι H S → RX G ι H c fs cls d → fs ≠ [] → σ[i]? = some (some (.ref a)) → rt c = some b → Q b H → tt a cls d σ H Q
structure DXW (X : Cx) (G : Gx) (i : Nat) (e : Expr) (tt : Addr → Value → Option Addr → TT) (rt : Str → Option Bool) : Prop where
  run : ∀ (a : Addr) (oe : Obj) (cls : Value) (d : Option Addr) (pn : List (Addr × Obj)), Zc cls d oe → (∃ vs, oe.data = .fields vs) → PW (X.suite a ((a, oe) :: pn)) e (tt a cls d)
  ok : ∀ (ι : List Addr) (S : Store) (H : Hp) (σ : L2.St) (a : Addr) (c : Str) (fs : List (Str × MV)) (cls : Value) (d : Option Addr) (b : Bool) (Q : Bool → Hp → Prop), Sim G ι H S → RX G ι H c fs cls d → fs ≠ [] → σ[i]? = some (some (.ref a)) → rt c = some b → Q b H → tt a cls d σ H Q
structure DXP (X : Cx) (G : Gx) (i : Nat) (e : Expr) (te : Addr → Value → Option Addr → TE) (rv : Str → List (Str × MV) → Option MV) : Prop where
  run : ∀ (a : Addr) (oe : Obj) (cls : Value) (d : Option Addr) (pn : List (Addr × Obj)), Zc cls d oe → (∃ vs, oe.data = .fields vs) → PE (X.suite a ((a, oe) :: pn)) e (te a cls d)
  ok : ∀ (ι : List Addr) (S : Store) (H : Hp) (σ : L2.St) (a : Addr) (c : Str) (fs : List (Str × MV)) (cls : Value) (d : Option Addr) (w : MV) (Q : VK), Sim G ι H S → RX G ι H c fs cls d → σ[i]? = some (some (.ref a)) → rv c fs = some w →
    (∀ ι' H' v, Post G ι H ι' H' S → RW G ι' H' w v → Q v H') → te a cls d σ H Q
section
variable {X : Cx} {G : Gx} {i : Nat} {e e1 e2 : Expr} {es rest : List Expr} {p p1 p2 p3 : Pos}
variable {tt tt2 : Addr → Value → Option Addr → TT} {rt rt2 : Str → Option Bool} {te te2 : Addr → Value → Option Addr → TE} {rv rv2 : Str → List (Str × MV) → Option MV} {ta : Addr → Value → Option Addr → TA} {rvs : Str → List (Str × MV) → Option (List MV)}
end
end MI
set_option Elab.async false
set_option linter.all false
set_option maxRecDepth 100000
set_option maxHeartbeats 2000000
/-! a suite of several rows: isinstance(e, C) and e.f of the error that it caught -/
namespace MI
open PySem PySem.Spec PyProof.Rows L2 PySem.EIN
section
variable {X : Cx} {G : Gx} {W : WX} {i : Nat} {a : Addr} {oe : Obj} {dx : Option Addr} {pn : List (Addr × Obj)} {c : Str} {C : Addr} {fs : List (Str × MV)} {fs' : List (Str × V)} {p p1 p2 p3 : Pos} {d : Den}
end
section
variable {E : EX} {S : Store} {ρ : Env'} {Q : MV → Store → Prop}
end
end MI
set_option Elab.async false
set_option linter.all false
set_option maxRecDepth 100000
set_option maxHeartbeats 2000000
/-! xs.index(y), xs.count(y) of a list of flat things -/
namespace MI
open PySem PySem.Spec PyProof.Rows L2
section
variable {X : Cx}
end
section
variable {X : Cx} {G : Gx} {W : WX} {a : Expr} {es : List Expr} {pos : Pos} {da : Den} {dr : DenL}
end
section
variable {E : EX} {S : Store} {Q : MV → Store → Prop}
end
end MI
set_option Elab.async false
set_option linter.all false
set_option maxRecDepth 100000
/-! pairs of texts in order; sorted(d.items()); d.setdefault -/
namespace SrtP
open PySem PyProof.Rows PySem.Spec SrtO MI L2
def ahead (p q : Str × Str) : Bool := if p.1 = q.1 then !leS q.2 p.2 else !leS q.1 p.1
theorem ahead_no {p q : Str × Str} : ahead p q = false ↔ (p.1 = q.1 ∧ leS q.2 p.2 = true) ∨ (p.1 ≠ q.1 ∧ leS q.1 p.1 = true) := by
  unfold ahead
  by_cases h : p.1 = q.1 <;> simp [h]
theorem ahead_yes {p q : Str × Str} : ahead p q = true ↔ (p.1 = q.1 ∧ leS q.2 p.2 = false) ∨ (p.1 ≠ q.1 ∧ leS q.1 p.1 = false) := by
  unfold ahead
  by_cases h : p.1 = q.1 <;> simp [h]
theorem leS_of {x y : Str} (h : leS x y = false) : leS y x = true := by
  have := leS_total x y
  rw [h] at this
  simpa using this
theorem ahead_swo {α : Type} (k : α → Str × Str) : Swo fun x y => ahead (k x) (k y) where
  asym x y h := by
    rw [ahead_no]
    rcases ahead_yes.mp h with ⟨e, h⟩ | ⟨e, h⟩
    · exact .inl ⟨e.symm, leS_of h⟩
    · exact .inr ⟨fun z => e z.symm, leS_of h⟩
  tr x y z h1 h2 := by
    rw [ahead_no] at h1 h2 ⊢
    rcases h1 with ⟨e1, h1⟩ | ⟨e1, h1⟩ <;> rcases h2 with ⟨e2, h2⟩ | ⟨e2, h2⟩
    · exact .inl ⟨e2.trans e1, leS_trans _ _ _ h1 h2⟩
    · exact .inr ⟨fun z => e2 (z.trans e1.symm), by rw [← e1]; exact h2⟩
    · exact .inr ⟨fun z => e1 (e2.symm.trans z), by rw [e2]; exact h1⟩
    · by_cases q : (k z).1 = (k x).1
      · exact absurd (leS_anti (by rw [← q]; exact h2) h1) e1
      · exact .inr ⟨q, leS_trans _ _ _ h1 h2⟩
theorem ahead_tot {p q : Str × Str} (h1 : ahead p q = false) (h2 : ahead q p = false) : p = q := by
  rw [ahead_no] at h1 h2
  have e : p.1 = q.1 := by
    rcases h1 with ⟨e, _⟩ | ⟨n, h1⟩
    · exact e
    · rcases h2 with ⟨e, _⟩ | ⟨_, h2⟩
      · exact e.symm
      · exact leS_anti h2 h1
  have e2 : p.2 = q.2 := by
    rcases h1 with ⟨_, h1⟩ | ⟨n, _⟩
    · rcases h2 with ⟨_, h2⟩ | ⟨n, _⟩
      · exact leS_anti h2 h1
      · exact absurd e.symm n
    · exact absurd e n
  exact Prod.ext e e2
def sortP (l : List (Str × Str)) : List (Str × Str) := l.mergeSort fun p q => !ahead q p
theorem sortP_perm (l : List (Str × Str)) : (sortP l).Perm l := List.mergeSort_perm _ _
theorem sortP_len (l : List (Str × Str)) : (sortP l).length = l.length := (sortP_perm l).length_eq
theorem sortP_eq {l m : List (Str × Str)} (p : m.Perm l) (h : m.Pairwise fun p q => ahead q p = false) : m = sortP l := by
  have O := ahead_swo (fun p : Str × Str => p)
  have hs : (sortP l).Pairwise fun p q => (!ahead q p) = true := by
    refine List.pairwise_mergeSort (fun a b c h1 h2 => ?_) (fun a b => ?_) l
    · simp only [Bool.not_eq_true'] at h1 h2 ⊢
      exact O.tr a b c h1 h2
    · rcases bcase (ahead b a) with q | q
      · have z : ahead a b = false := O.asym b a q
        simp [z]
      · simp [q]
  refine List.Perm.eq_of_pairwise (fun a b _ _ h1 h2 => ?_) (h.imp fun {a b} q => by simpa using q) hs (p.trans (sortP_perm l).symm)
  simp only [Bool.not_eq_true'] at h1 h2
  exact (ahead_tot h1 h2).symm
/-! ### the pairs on the heap -/
def Twin (h : Heap) (v : Value) (p : Str × Str) : Prop := ∃ a ob t u n, v = .ref a ∧ h.get? a = some ob ∧ ob.cls = .type "tuple" ∧ ob.data = .seq #[.str p.1 t, .str p.2 u] n
theorem Twin.stay {h h' : Heap} {v : Value} {p : Str × Str} (x : Twin h v p) (k : ∀ b ob, h.get? b = some ob → ob.cls = .type "tuple" → h'.get? b = some ob) : Twin h' v p := by
  obtain ⟨a, ob, t, u, n, rfl, h1, h2, h3⟩ := x
  exact ⟨a, ob, t, u, n, rfl, k _ _ h1 h2, h2, h3⟩
theorem heads {h : Heap} {k : Value → Str × Str} : ∀ {vs : List Value}, (∀ v ∈ vs, Twin h v (k v)) → ∃ fs : List Value, PySem.W.KatTups h vs fs ∧ fs.length = vs.length ∧ ∀ f ∈ fs, ∃ x t, f = Value.str x t
  | [], _ => ⟨[], .nil, rfl, by simp⟩
  | v :: vs, all => by
    obtain ⟨fs, k1, k2, k3⟩ := heads fun w hw => all w (List.mem_cons_of_mem v hw)
    obtain ⟨a, ob, t, u, n, e, h1, h2, h3⟩ := all v List.mem_cons_self
    rw [e]
    refine ⟨_ :: fs, PySem.W.KatTups.cons h1 h2 h3 rfl k1, by simp [k2], fun f hf => ?_⟩
    rcases List.mem_cons.mp hf with e | hf
    · exact ⟨_, _, e⟩
    · exact k3 f hf
section
variable {prog : Program} {w : World} {A : Around} {E : Value → Shared → Prop} {s : Shared}
theorem leS_lt (x y : Str) : (!leS y x) = decide (x.cps.toList < y.cps.toList) := by
  unfold leS
  simp
theorem twin_cmp {vs : List Value} {k : Value → Str × Str} (all : ∀ v ∈ vs, Twin s.heap v (k v)) : Cmp prog w A s (tuples' true) (fun p => p.1 ∈ vs) (lt2 fun v u => ahead (k v) (k u)) := by
  intro p q pm qm
  obtain ⟨a, ob, t, u, n, e1, h1, h2, h3⟩ := all _ pm
  obtain ⟨b, oc, x, y, m, e2, g1, g2, g3⟩ := all _ qm
  show wpAny (model prog w) A (keyLt' (tuples' true) p.1 q.1) (fun r s' => s' = s ∧ r = ahead (k p.1) (k q.1)) (fun _ _ => False) s
  unfold ahead
  rw [leS_lt, leS_lt]
  generalize k p.1 = i at h3 ⊢
  generalize k q.1 = j at g3 ⊢
  rw [e1, e2]
  obtain ⟨i1, i2⟩ := i
  obtain ⟨j1, j2⟩ := j
  refine PySem.W.kat_lt h1 h3 g1 g3 ?_
  show PySem.W.KatLex prog w A true (decide (2 < 2)) _ [(.str i1 t, .str j1 x), (.str i2 u, .str j2 y)] 0 s
  dsimp only
  by_cases z1 : i1 = j1
  · rw [if_pos z1]
    refine PySem.W.kat_cons (SeqAt.EqAt.str_str i1 t j1 x prog w _ _ ?_)
    rw [show (i1 == j1) = true from by simpa using z1]
    refine PySem.W.kat_yes (PySem.W.kat_cons (SeqAt.EqAt.str_str i2 u j2 y prog w _ _ ?_))
    by_cases z2 : i2 = j2
    · rw [show (i2 == j2) = true from by simpa using z2, z2]
      exact PySem.W.kat_yes (PySem.W.kat_nil ⟨rfl, by simp⟩)
    · rw [show (i2 == j2) = false from by simpa using z2]
      exact PySem.W.kat_no (PySem.W.kat_one _ _ (PyProof.Rows.lt_str ⟨rfl, rfl⟩))
  · rw [if_neg z1]
    refine PySem.W.kat_cons (SeqAt.EqAt.str_str i1 t j1 x prog w _ _ ?_)
    rw [show (i1 == j1) = false from by simpa using z1]
    exact PySem.W.kat_no (oneLt_str ⟨rfl, rfl⟩)
theorem twin_sortable {a : Addr} {vs : List Value} {k : Value → Str × Str} (some_ : 0 < vs.length) (all : ∀ v ∈ vs, Twin s.heap v (k v)) (off : ∀ ob, s.heap.get? a = some ob → ob.cls ≠ .type "tuple") : SortableO prog w A s a vs fun v u => ahead (k v) (k u) := by
  intro h' keep
  have all' : ∀ v ∈ vs, Twin h' v (k v) := fun v hv => (all v hv).stay fun b ob e c => keep b ob (fun z => off ob (z ▸ e) c) e
  obtain ⟨fs, k1, k2, k3⟩ := heads all'
  refine ⟨tuples' true, fun Q E out => ?_, twin_cmp all'⟩
  refine PySem.W.kat_kind (T := .type "str") k1 (by omega) (fun f hf => ?_) (by rfl) ?_
  · obtain ⟨x, t, rfl⟩ := k3 f hf
    exact PySem.W.Looks.now
  · rw [show (Value.type "str" != Value.type "tuple") = true from by decide]
    exact out
def twinOf (h : Heap) (v : Value) : Str × Str := match v with
  | .ref a => match h.get? a with
    | some ob => match ob.data with
      | .seq its _ => match its.toList with
        | [.str x _, .str y _] => (x, y)
        | _ => ("", "")
      | _ => ("", "")
    | none => ("", "")
  | _ => ("", "")
theorem Twin.of {h : Heap} {v : Value} {p : Str × Str} (x : Twin h v p) : twinOf h v = p := by
  obtain ⟨a, ob, t, u, n, rfl, h1, h2, h3⟩ := x
  unfold twinOf
  simp only [h1, h3]
def adr : Value → Addr
  | .ref a => a
  | _ => 0
theorem adr_map : ∀ {vs : List Value}, (∀ v ∈ vs, ∃ a, v = .ref a) → (vs.map adr).map Value.ref = vs
  | [], _ => rfl
  | v :: vs, all => by
    obtain ⟨a, e⟩ := all v List.mem_cons_self
    rw [List.map_cons, List.map_cons, adr_map fun u hu => all u (List.mem_cons_of_mem _ hu), e]
    rfl
theorem adr_refs (as : List Addr) : (as.map Value.ref).map adr = as := by
  rw [List.map_map]
  exact List.map_id' as
theorem sort_view {r d : Addr} {kvs : List (Key × Value)} {ep : Nat} {Q : Value → Shared → Prop} {m : List (Str × Str)} (quiet : A.handled = none) (isv : s.heap.IsItemsView r d) (last : s.heap.objs.size ≤ r + 1) (isd : s.heap.DictAt (mixKind prog w) d kvs ep) (few : kvs.length ≤ sizeLine)
    (told : ∀ (j : Nat) (k : Key) (x : Value), kvs[j]? = some (k, x) → ∃ y z t, k = .inr y ∧ x = .str z t ∧ m[j]? = some (y, z)) (len : m.length = kvs.length)
    (out : ∀ (h' : Heap) (tk : Nat) (p : Addr) (as : List Addr) (c : Nat), (∀ b ob, s.heap.get? b = some ob → h'.get? b = some ob) → s.heap.objs.size ≤ p → (∀ a ∈ as, s.heap.objs.size ≤ a) → (p :: as).Nodup → h'.get? p = some (seqObj "list" (as.map Value.ref).toArray c) → as.length = m.length →
      (∀ (j : Nat) (a : Addr), as[j]? = some a → ∃ q, (sortP m)[j]? = some q ∧ Twin h' (.ref a) q) → Q (.ref p) { s with heap := h', toks := tk }) :
    wpAny (model prog w) A (call (.builtin "sorted") [.ref r]) Q E s := by
  refine Calls.call_function_entry kind_sorted plain_sorted entry_sorted (args_sorted1 _) ?_
  unfold Builtin.«sorted»
  refine wpAny_bind (m := checkCount "sorted" 1 1 _) (wpAny_pure ?_)
  refine wpAny_bind (PySem.W.kdx_collect (A := A.in1) (knd := mixKind prog w) quiet isv isd few fun h1 tk as k1 l1 g1 => ?_)
  refine wpAny_bind (wpAny_newList ?_ (by rw [List.length_map, l1]; exact few))
  have here : (h1.push (seqObj "list" (as.map Value.ref).toArray 0)).get? h1.objs.size = some (seqObj "list" (as.map Value.ref).toArray 0) := Heap.get?_push_size _ rfl
  have pair : ∀ (j : Nat) (a : Addr), as[j]? = some a → ∃ q, m[j]? = some q ∧ Twin h1 (.ref a) q := fun j a ha => by
    obtain ⟨key, k, x, e1, e2, e3⟩ := g1.pairs j a ha
    obtain ⟨y, z, t, rfl, rfl, e4⟩ := told j k x e1
    obtain ⟨u, rfl⟩ := (show ∃ u, key = Value.str y u from relV_key (show keyIs (.inr y) key = true from e2))
    exact ⟨(y, z), e4, a, _, u, t, _, rfl, e3, rfl, rfl⟩
  have twin : ∀ v ∈ as.map Value.ref, Twin (h1.push (seqObj "list" (as.map Value.ref).toArray 0)) v (twinOf h1 v) := fun v hv => by
    obtain ⟨a, ha, rfl⟩ := List.mem_map.mp hv
    obtain ⟨j, hj⟩ := List.mem_iff_getElem?.mp ha
    obtain ⟨q, _, tw⟩ := pair j a hj
    rw [tw.of]
    exact tw.stay fun b ob e _ => Heap.get?_push_of_some _ e
  have order := ahead_swo (twinOf h1)
  refine wpAny_bind (wpAny_holding (wpAny_call_entry slot_list_sort ⟨_, here, rfl⟩ entry_list_sort (list_sort_ord order here (by rw [List.length_map, l1]; exact few) (fun two => twin_sortable (by omega) twin fun ob e => ?_) fun outs o1 o2 => ⟨_, rfl, ?_⟩) (args_list_sort _)))
  · have e' := e.symm.trans here
    cases e'
    exact fun z => absurd (Value.type.inj z) (by decide)
  · refine wpAny_pure ⟨_, rfl, ?_⟩
    have refs : ∀ v ∈ outs, ∃ a, v = Value.ref a := fun v hv => by
      obtain ⟨a, _, rfl⟩ := List.mem_map.mp (o2.perm.mem_iff.mp hv)
      exact ⟨a, rfl⟩
    have same := adr_map refs
    have perm : (outs.map adr).Perm as := by
      have := o2.perm.map adr
      rwa [adr_refs] at this
    obtain ⟨c, at_⟩ := sortedHeap_at (vs := as.map Value.ref) (out := outs.toArray) here
    have there : ∀ a ∈ as, a < h1.objs.size := fun a ha => g1.there ha
    have old : ∀ b ob, h1.get? b = some ob → (sortedHeap (h1.push (seqObj "list" (as.map Value.ref).toArray 0)) h1.objs.size (as.map Value.ref) outs.toArray).get? b = some ob := fun b ob e => by
      have lt := Heap.lt_size e
      rw [sortedHeap_old (Nat.ne_of_lt lt) (by rw [size_push']; exact Nat.lt_succ_of_lt lt)]
      exact Heap.get?_push_of_some _ e
    have keyed : (as.map Value.ref).map (twinOf h1) = m := by
      apply List.ext_getElem?
      intro j
      rw [List.map_map, List.getElem?_map]
      cases e : as[j]? with
      | none =>
        have : m.length ≤ j := by
          rw [len, ← l1]
          exact List.getElem?_eq_none_iff.mp e
        rw [List.getElem?_eq_none_iff.mpr this]
        rfl
      | some a =>
        obtain ⟨q, e1, tw⟩ := pair j a e
        rw [e1]
        exact congrArg some tw.of
    have sorted_ : outs.map (twinOf h1) = sortP m := by
      refine sortP_eq ?_ ?_
      · rw [← keyed]
        exact o2.perm.map _
      · exact List.pairwise_map.mpr (o1.imp fun {a b} z => z)
    refine out _ tk h1.objs.size (outs.map adr) c (fun b ob e => old b ob (k1 b ob e)) ?_ (fun a ha => ?_) ?_ ?_ ?_ fun j a hj => ?_
    · obtain ⟨ob, e, _⟩ := isv
      exact Nat.le_trans last (Heap.lt_size (k1 _ _ e))
    · exact Nat.le_of_lt (g1.above a (perm.mem_iff.mp ha))
    · refine List.nodup_cons.mpr ⟨fun z => Nat.lt_irrefl _ (there _ (perm.mem_iff.mp z)), perm.nodup_iff.mpr ?_⟩
      exact g1.rise.imp fun {a b} z => Nat.ne_of_lt z
    · rw [same]
      exact at_
    · rw [perm.length_eq, l1, len]
    · rw [← sorted_, List.getElem?_map]
      rw [List.getElem?_map] at hj
      cases e : outs[j]? with
      | none => rw [e] at hj; cases hj
      | some v =>
        rw [e] at hj
        cases hj
        refine ⟨_, rfl, ?_⟩
        have hv := List.mem_of_getElem? e
        obtain ⟨b, hb, rfl⟩ := List.mem_map.mp (o2.perm.mem_iff.mp hv)
        obtain ⟨i, hi⟩ := List.mem_iff_getElem?.mp hb
        obtain ⟨q, _, tw⟩ := pair i b hi
        rw [tw.of]
        exact tw.stay fun x ob e _ => old x ob e
end
end SrtP
namespace L2
open PySem PySem.Spec PyProof.Rows
theorem Inv.bulk {X : Cx} {pins : List (Addr × Obj)} {σ : St} {H : Hp} {s : Shared} {h' : Heap} {tk : Nat} {p : Addr} {as : List Addr} {m : List (Str × Str)} {c : Nat} (I : Inv X pins σ H s) (k : ∀ b ob, s.heap.get? b = some ob → h'.get? b = some ob) (np : s.heap.objs.size ≤ p)
    (na : ∀ a ∈ as, s.heap.objs.size ≤ a) (nd : (p :: as).Nodup) (there : h'.get? p = some (seqObj "list" (as.map Value.ref).toArray c)) (len : as.length = m.length) (few : m.length ≤ sizeLine) (tw : ∀ (j : Nat) (a : Addr), as[j]? = some a → ∃ q, m[j]? = some q ∧ SrtP.Twin h' (.ref a) q) :
    ∃ H' : Hp, (∀ b o, H b = some o → H' b = some o) ∧ H p = none ∧ (∀ a ∈ as, H a = none) ∧ H' p = some (.lst (as.map V.ref)) ∧ Paired (fun (a : Addr) (q : Str × Str) => H' a = some (.tup [.str q.1, .str q.2])) as m ∧ Inv X pins σ H' { s with heap := h', toks := tk } := by
  obtain ⟨nd1, nd2⟩ := List.nodup_cons.mp nd
  have fp : H p = none := I.hok.fresh np
  have fa : ∀ a ∈ as, H a = none := fun a ha => I.hok.fresh (na a ha)
  have two := LiI.putT_at as (m.map fun q => ((Sum.inr q.1 : Key), V.str q.2)) (upd H p (.lst (as.map V.ref))) (by rw [List.length_map]; exact len) nd2
  have off := fun b (hb : b ∉ as) => LiI.putT_off as (m.map fun q => ((Sum.inr q.1 : Key), V.str q.2)) (upd H p (.lst (as.map V.ref))) hb
  generalize LiI.putT (upd H p (.lst (as.map V.ref))) as (m.map fun q => ((Sum.inr q.1 : Key), V.str q.2)) = N at two off ⊢
  have atP : N p = some (.lst (as.map V.ref)) := by rw [off p nd1, upd_same]
  have rest : ∀ b, b ∉ as → b ≠ p → N b = H b := fun b h1 h2 => by rw [off b h1, upd_ne h2]
  have old : ∀ b ob, s.heap.get? b = some ob → b ∉ as ∧ b ≠ p := fun b ob e => by
    have lt := Heap.lt_size e
    exact ⟨fun z => absurd lt (Nat.not_lt.mpr (na b z)), fun z => absurd lt (Nat.not_lt.mpr (z ▸ np))⟩
  have kp : ∀ b o, H b = some o → N b = some o := fun b o e => by
    rw [rest b (fun z => by rw [fa b z] at e; cases e) (fun z => by rw [z, fp] at e; cases e)]
    exact e
  have two' : ∀ (j : Nat) (a : Addr), as[j]? = some a → ∃ q, m[j]? = some q ∧ N a = some (.tup [.str q.1, .str q.2]) := fun j a ha => by
    obtain ⟨y, e1, e2⟩ := LiI.paired_get two ha
    rw [List.getElem?_map] at e1
    cases e : m[j]? with
    | none => rw [e] at e1; cases e1
    | some q =>
      rw [e] at e1
      cases e1
      exact ⟨q, rfl, e2⟩
  refine ⟨N, kp, fp, fa, atP, ?_, ?_⟩
  · clear tw there off
    have pr : ∀ (as : List Addr) (m : List (Str × Str)), Paired (fun (t : Addr) (p : Key × V) => N t = some (.tup [kV p.1, p.2])) as (m.map fun q => ((Sum.inr q.1 : Key), V.str q.2)) → Paired (fun (a : Addr) (q : Str × Str) => N a = some (.tup [.str q.1, .str q.2])) as m := fun as => by
      induction as with
      | nil =>
        intro m h
        cases m with
        | nil => exact .nil
        | cons q m => cases h
      | cons a as ih =>
        intro m h
        cases m with
        | nil => cases h
        | cons q m =>
          rw [List.map_cons] at h
          cases h with
          | cons h1 h2 => exact .cons h1 (ih m h2)
    exact pr as m two
  · have un : Un (frs X.stack) [] H N s.heap h' := {
      keep := fun b ob e _ _ _ => k b ob e
      slot := fun b ob e _ _ _ => ⟨ob.slots, k b ob e⟩
      free := fun b ob e n _ => by
        obtain ⟨z1, z2⟩ := old b ob e
        rw [rest b z1 z2]
        exact n
      there := fun b ob e _ => ⟨ob, k b ob e⟩
      tups := fun b xs e => kp b _ e
      frzs := fun b o u e => kp b _ e
      tbls := fun b ps e => ⟨#[], by rw [kp b _ e]; simp⟩ }
    refine I.call' (ch := []) rfl un (fun b u e => ?_) I.bare fun b z => nomatch z
    by_cases hb : b ∈ as
    · obtain ⟨j, hj⟩ := List.mem_iff_getElem?.mp hb
      obtain ⟨q, e1, e2⟩ := two' j b hj
      obtain ⟨q', e3, a, ob, t, w, n, e4, e5, e6, e7⟩ := tw j b hj
      rw [e1] at e3
      cases e3
      cases e4
      rw [e2] at e
      cases e
      exact ⟨by show 2 ≤ sizeLine; decide, [.str q.1 t, .str q.2 w], .cons ⟨_, rfl⟩ (.cons ⟨_, rfl⟩ .nil), ob, e5, e6, n, e7⟩
    · by_cases hp : b = p
      · subst hp
        rw [atP] at e
        cases e
        exact ⟨by rw [List.length_map, len]; exact few, as.map Value.ref, c, LiI.vals_refs as, there⟩
      · rw [rest b hb hp] at e
        exact (I.hok b u e).stay (fun d v _ y => k d v y) (fun d y => kp d _ y) fun d xs y => kp d _ y
end L2
set_option Elab.async false
set_option linter.all false
set_option maxRecDepth 100000
namespace MI
open PySem PySem.Spec PyProof.Rows L2
abbrev kvP (q : Str × Str) : Key × V := (Sum.inr q.1, .str q.2)
/-! ### sorted(d.items()), d a dict of texts by texts -/
def rSortIt : V → Hp → VK → Prop := fun x H Q => ∃ (d : Addr) (m : List (Str × Str)), x = .ref d ∧ H d = some (.dK (m.map kvP)) ∧ ∀ (H' : Hp) (p : Addr) (as : List Addr), (∀ b o, H b = some o → H' b = some o) → H p = none → (∀ a ∈ as, H a = none) →
  H' p = some (.lst (as.map V.ref)) → Paired (fun (a : Addr) (q : Str × Str) => H' a = some (.tup [.str q.1, .str q.2])) as (SrtP.sortP m) → Q (.ref p) H'
theorem kv_get {vs : List (Key × Value)} : ∀ {m : List (Str × Str)} {vs : List (Key × Value)}, KV (m.map kvP) vs → ∀ (j : Nat) (k : Key) (x : Value), vs[j]? = some (k, x) → ∃ y z t, k = .inr y ∧ x = .str z t ∧ m[j]? = some (y, z)
  | [], _, r, j, k, x, e => by
    cases r
    cases e
  | q :: m, _, r, j, k, x, e => by
    rw [List.map_cons] at r
    cases r with
    | @cons _ b _ bs h t =>
      cases j with
      | zero =>
        cases e
        obtain ⟨h1, u, h2⟩ := h
        exact ⟨q.1, q.2, u, h1.symm, h2, rfl⟩
      | succ j => exact kv_get (vs := vs) t j k x e
theorem pe_sortIt {X : Cx} {e : Expr} {te : TE} {p apos cpos pos : Pos} (hc : X.calm = true) (hg : Gl X "sorted") (hm : X.mg "sorted" = none) (he : PE X e te) (hbase : attributeBase e "items" X.env (eval e X.env) = eval e X.env := by rfl) (hline : (apos.endLine == cpos.line) = true := by rfl)
    (na : starEach [.Call (.Attribute e "items" apos) [] [] cpos] X.env = (false, eval (.Call (.Attribute e "items" apos) [] [] cpos) X.env) :: starEach [] X.env := by rfl) : PE X (.Call (.Name "sorted" p) [.Call (.Attribute e "items" apos) [] [] cpos] [] pos) (tUn rSortIt te) := ⟨fun pins s σ H Q I hq => by
  refine Call_ (ld_blt I hg hm boot_sorted (PyProof.Rows.callWith_builtin1 (PyProof.Rows.args_cons ?_ na) na rfl))
  refine wpAny_Call_method (T := "dict") (id := "dict.items") hbase rfl hline F.plainAttrs_dict F.slot_dict_items F.type_dict_items (thn (he.run pins s σ H _ I hq) fun u s1 ⟨x, H1, I1, rx, d, m, ex, hd, q⟩ => ?_)
  subst ex
  cases rx
  obtain ⟨hz, hs0, vs, kv, isd⟩ := I1.hok d _ hd
  obtain ⟨ep, hat⟩ := isd.dictAt
  have lk : m.length = vs.length := by
    have := Paired.length kv
    rwa [List.length_map] at this
  have hz' : m.length ≤ sizeLine := by rwa [List.length_map] at hz
  refine ⟨isd.typeIs, isd.mapOf.noDict, ?_⟩
  show wpAny _ _ (callWith cpos (.builtin "dict.items") [.ref d] [] []) _ X.xe s1
  refine method_meetsIn F.slot_dict_items F.entry_dict_items rfl (PySem.evalArgs_none ⟨rfl, isd.typeIs, F.args_dict_items_1 _, _, meets_dict_items (mixKind X.prog X.w) d hs0, ⟨vs, isd⟩, ?_⟩)
  have I2 : Inv X pins σ H1 { s1 with heap := s1.heap.push { cls := .type "dict_items", data := .fields #[.ref d] } } := I1.kept (t' := s1.toks) fun b ob q => Heap.get?_push_of_some _ q
  refine PyProof.Rows.args_nil ?_
  refine SrtP.sort_view (m := m) (I1.ok.hd hc) ⟨_, Heap.get?_push_size _ rfl, rfl, rfl⟩ (by rw [Heap.size_push]; exact Nat.le_refl _) (hat.push _) (by omega) (fun j k x e => kv_get (vs := vs) kv j k x e) lk fun h' tk pl as c k1 np na' nd there len tw => ?_
  have len' : as.length = (SrtP.sortP m).length := len.trans (SrtP.sortP_len m).symm
  obtain ⟨H', e1, e2, e3, e4, e5, J⟩ := I2.bulk (tk := tk) k1 np na' nd there len' (by rw [SrtP.sortP_len]; exact hz') tw
  exact ⟨.ref pl, H', J, rfl, q H' pl as e1 e2 e3 e4 e5⟩⟩
theorem Sim.grow {G : Gx} {ι : List Addr} {H H' : Hp} {S : Store} (s : Sim G ι H S) (k : ∀ b o, H b = some o → H' b = some o) : Post G ι H ι H' S := by
  have t : ∀ a xs, SqT G.K H a xs → SqT G.K H' a xs := fun a xs q => by
    rcases q with (q | ⟨o, q⟩) | q
    · exact .inl (.inl (k _ _ q))
    · exact .inl (.inr ⟨o, k _ _ q⟩)
    · exact .inr q
  refine ⟨fun _ _ e => e, t, fun a o u e => k _ _ e, fun a o e _ => k _ _ e, s.len, s.nd, fun n o a hn ha => ?_, G.tb.keeps _ _ s.inv fun b o e _ => k _ _ e⟩
  have r := s.obj n o a hn ha
  obtain ⟨ho, e⟩ := r.here
  exact r.mono (fun _ _ e => e) t ((k _ _ e).trans e.symm)
theorem Sim.note {G : Gx} {ι : List Addr} {H H' : Hp} {S : Store} {p : Addr} {mo : MO} (s : Sim G ι H S) (k : ∀ b o, H b = some o → H' b = some o) (h : H p = none) (r : RO G ι H' p mo) : Post G ι H (ι ++ [p]) H' (S ++ [mo]) := by
  have g := s.grow k
  have ext : ∀ (n : Nat) (a : Addr), ι[n]? = some a → (ι ++ [p])[n]? = some a := fun n a e => by
    rw [List.getElem?_append_left (List.getElem?_eq_some_iff.mp e).1]
    exact e
  have off : p ∉ ι := fun z => by
    obtain ⟨n, hn⟩ := List.getElem?_of_mem z
    obtain ⟨ho, e⟩ := s.there hn
    rw [h] at e
    cases e
  refine ⟨ext, g.tup, g.frz, g.kp, by simp [s.len], ?_, fun n o a hn ha => ?_, g.sim.inv⟩
  · exact List.nodup_append.mpr ⟨s.nd, by simp, fun a ha b hb e => off (by
      rw [← List.mem_singleton.mp hb, ← e]
      exact ha)⟩
  · by_cases hl : n < S.length
    · rw [List.getElem?_append_left hl] at hn
      rw [List.getElem?_append_left (by rw [s.len]; exact hl)] at ha
      exact (g.sim.obj n o a hn ha).mono ext (fun _ _ e => e) rfl
    · have hn' : n = S.length := by
        have := (List.getElem?_eq_some_iff.mp hn).1
        simp at this
        omega
      subst hn'
      rw [List.getElem?_append_right (Nat.le_refl _)] at hn
      rw [List.getElem?_append_right (by rw [s.len]; exact Nat.le_refl _)] at ha
      simp [s.len] at hn ha
      subst hn
      subst ha
      exact r.mono ext (fun _ _ e => e) rfl
def pairsT : List (Key × MV) → Option (List (Str × Str))
  | [] => some []
  | (.inr x, .str y) :: r => (pairsT r).map ((x, y) :: ·)
  | _ :: _ => none
def mvP2 (q : Str × Str) : MV := .tup [.str q.1, .str q.2]
def fSortIt (w : MV) (S : Store) : Res MV := match w with
  | .ref n => match S[n]? with
    | some (.dic kvs) => match pairsT kvs with
      | some m => .ok (.ref S.length) (S ++ [.lst ((SrtP.sortP m).map mvP2)])
      | none => .stuck
    | _ => .stuck
  | _ => .stuck
section
variable {X : Cx} {G : Gx} {W : WX} {a b c : Expr} {da db dc : Den} {pos p apos cpos : Pos}
theorem pairsT_ok {ι : List Addr} {H : Hp} : ∀ {kvs : List (Key × MV)} {kv : List (Key × V)} {m : List (Str × Str)}, pairsT kvs = some m → kv.map (·.1) = kvs.map (·.1) → RWs G ι H (kvs.map (·.2)) (kv.map (·.2)) → kv = m.map kvP
  | [], kv, m, e, e1, _ => by
    cases e
    cases kv with
    | nil => rfl
    | cons _ _ => cases e1
  | (k, w) :: kvs, [], m, e, e1, _ => by cases e1
  | (k, w) :: kvs, (k', v) :: kv, m, e, e1, r => by
    simp only [List.map_cons, List.cons.injEq] at e1 r
    cases r with
    | cons r1 r2 =>
      unfold pairsT at e
      split at e
      · rename_i h
        cases h
      · rename_i x y r' h
        cases h
        cases e2 : pairsT kvs with
        | none => rw [e2] at e; cases e
        | some m' =>
          rw [e2] at e
          cases e
          cases r1
          rw [pairsT_ok e2 e1.2 r2, List.map_cons, show k' = Sum.inr x from e1.1]
      · cases e
theorem paired_rws {ι : List Addr} {H : Hp} : ∀ {as : List Addr} {m : List (Str × Str)}, Paired (fun (a : Addr) (q : Str × Str) => H a = some (.tup [.str q.1, .str q.2])) as m → RWs G ι H (m.map mvP2) (as.map V.ref)
  | _, _, .nil => .nil
  | _, _, .cons h t => .cons (.tup (.of h) (.cons (.str _) (.cons (.str _) .nil))) (paired_rws t)
theorem w_sortIt : UnW G fSortIt rSortIt := fun ι H S E Q w v s r h => by
  unfold fSortIt at h
  split at h
  · cases r with
    | ref i =>
      split at h
      · rename_i kvs hS
        obtain ⟨kv, g, q1, q2⟩ := s.obj _ _ _ hS i
        split at h
        · rename_i m e
          have z := pairsT_ok e q1 q2
          subst z
          refine ⟨_, m, rfl, g, fun H' pl as k np na at_ pr => ?_⟩
          exact h _ H' (s.note k np (mo := .lst ((SrtP.sortP m).map mvP2)) ⟨_, at_, paired_rws pr⟩) (.ref pl) (.ref (by rw [← s.len]; simp))
        · exact h.elim
      · exact h.elim
  · exact h.elim
theorem de_sortIt (hc : X.calm = true) (hg : Gl X "sorted") (hm : X.mg "sorted" = none) (ha : DE X G W a da) (hbase : attributeBase a "items" X.env (eval a X.env) = eval a X.env := by rfl) (hline : (apos.endLine == cpos.line) = true := by rfl)
    (na : starEach [.Call (.Attribute a "items" apos) [] [] cpos] X.env = (false, eval (.Call (.Attribute a "items" apos) [] [] cpos) X.env) :: starEach [] X.env := by rfl) : DE X G W (.Call (.Name "sorted" p) [.Call (.Attribute a "items" apos) [] [] cpos] [] pos) (dUn fSortIt da) :=
  ⟨PE.imp (pe_sortIt hc hg hm ha.run hbase hline na) fun _ _ _ h => un_imp w_sortIt h⟩
/-! ### d.setdefault(k, w) -/
def isDic (w : MV) (S : Store) : Bool := match w with
  | .ref n => match S[n]? with
    | some (.dic _) => true
    | _ => false
  | _ => false
def fSetd (o k w : MV) (S : Store) : Res MV := match o with
  | .ref n => match S[n]?, keyM k with
    | some (.dic kvs), some k => if kvs.length < 100000 then match valM kvs k with
        | some w' => .ok w' S
        | none => .ok w (S.set n (.dic (putM kvs k w)))
      else .stuck
    | _, _ => .stuck
  | _ => .stuck
def dSetd (o k w : Den) : Den := fun ρ S => (o ρ S).bind fun ow S1 => if isDic ow S1 then (k ρ S1).bind fun kw S2 => (w ρ S2).bind fun ww S3 => fSetd ow kw ww S3 else .stuck
theorem de_setd (ha : DE X G W a da) (hb : DE X G W b db) (hd : DE X G W c dc) (m : M2 X a "setdefault" apos b c pos) : DE X G W (.Call (.Attribute a "setdefault" apos) [b, c] [] pos) (dSetd da db dc) := ⟨PE.imp (pe_dsetd ha.run hb.run hd.run m) fun σ H Q h => by
  obtain ⟨ι, S, ρ, s, re, h⟩ := h
  refine ⟨ι, S, ρ, s, re, (fin.bind h).mono fun w1 ι1 H1 S1 p1 _ h1 v1 r1 => ?_⟩
  obtain ⟨S1, s1, m1, n1, _, h1⟩ := h1
  have re1 := n1 _ _ re
  split at h1
  · rename_i isd
    unfold isDic at isd
    split at isd
    · cases r1 with
      | ref i =>
        rename_i n ad
        split at isd
        · rename_i kvs hS
          obtain ⟨kv, g, _, _⟩ := s1.obj _ _ _ hS i
          refine ⟨ad, rfl, .inl ⟨kv, .inl g⟩, ι1, S1, ρ, s1, re1, (fin.bind h1).mono fun w2 ι2 H2 S2 p2 _ h2 v2 r2 => ?_⟩
          obtain ⟨S2, s2, m2, n2, _, h2⟩ := h2
          refine ⟨ι2, S2, ρ, s2, n2 _ _ re1, (fin.bind h2).mono fun w3 ι3 H3 S3 p3 _ h3 v3 r3 => ?_⟩
          obtain ⟨S3, s3, m3, _, _, h3⟩ := h3
          have r1' := m3 _ _ (m2 _ _ (RW.ref (G := G) (H := H1) i))
          cases r1' with
          | ref i3 =>
            unfold fSetd at h3
            dsimp only at h3
            split at h3
            · rename_i kvs3 k hS3 hk
              obtain ⟨kv3, g3, q1, q2⟩ := s3.obj _ _ _ hS3 i3
              have ek := key_ok (m3 _ _ r2) hk
              split at h3
              · rename_i few
                have le : kv3.length = kvs3.length := by
                  have := congrArg List.length q1
                  simpa using this
                refine ⟨kv3, k, g3, ek, by rw [le]; exact Nat.lt_of_lt_of_le few (by rw [sizeLine_eq]; decide), fun v hv => ?_, fun hv => ?_⟩
                · rcases kvs_val (k := k) q1 q2 with ⟨w', v', z1, z2, z3⟩ | ⟨_, z2⟩
                  · rw [z1] at h3
                    rw [hv] at z2
                    cases z2
                    exact h3 ι3 H3 (.refl s3) _ z3
                  · rw [hv] at z2
                    cases z2
                · rcases kvs_val (k := k) q1 q2 with ⟨w', v', z1, z2, z3⟩ | ⟨z1, _⟩
                  · rw [hv] at z2
                    cases z2
                  · rw [z1] at h3
                    obtain ⟨p1, p2⟩ := kvs_put (k := k) r3 q1 q2
                    have t := sqT_upd (K := G.K) (ho := .dK (putK kv3 k v3)) (noTup_of g3 (fun _ z => by cases z) (fun _ _ z => by cases z))
                    have pw := s3.write i3 g3 (fun _ z => by cases z) (fun _ _ z => by cases z) (ho' := .dK (putK kv3 k v3)) (mo := .dic (putM kvs3 k w3)) ⟨_, upd_same, p1, p2.mono (fun _ _ e => e) t⟩
                    exact h3 ι3 _ pw _ (pw.rw r3)
              · exact h3.elim
            · exact h3.elim
        · cases isd
    · cases isd
  · exact h1.elim⟩
end
section
variable {S : Store} {E : EX} {Q : MV → Store → Prop} {ρ : Env'} {n : Nat}
end
end MI
set_option Elab.async false
set_option linter.all false
set_option maxRecDepth 100000
/-! d.get(k, w), d.get(k): keys that are texts or whole numbers -/
namespace MI
open PySem PySem.Spec PyProof.Rows L2
section
variable {X : Cx} {G : Gx} {W : WX} {a b c : Expr} {da db dc : Den} {pos apos : Pos}
end
section
variable {E : EX} {S : Store} {ρ : Env'} {Q : MV → Store → Prop}
end
end MI
set_option Elab.async false
set_option linter.all false
set_option maxRecDepth 100000
/-! k in d, d a dict made in the program; what else `in` asks as before -/
namespace MI
open PySem PySem.Spec PyProof.Rows L2
section
variable {X : Cx} {G : Gx}
end
end MI
set_option Elab.async false
set_option linter.all false
set_option maxRecDepth 100000
/-! tuple(d.items()), d a dict of texts by texts -/
namespace TupV
open PySem PySem.Spec PyProof.Rows PySem.Calls L2
section
variable {prog : Program} {w : World} {A : Around} {E : Value → Shared → Prop} {s : Shared}
end
end TupV
namespace L2
open PySem PySem.Spec PyProof.Rows
end L2
namespace MI
open PySem PySem.Spec PyProof.Rows L2
section
variable {X : Cx} {G : Gx} {W : WX} {a b c : Expr} {da db dc : Den} {pos p apos cpos : Pos}
end
section
variable {S : Store} {E : EX} {Q : MV → Store → Prop} {n : Nat}
end
end MI
set_option Elab.async false
set_option linter.all false
set_option maxRecDepth 100000
/-! sorted(t), t a tuple or a list of pairs of texts -/
namespace SrtP
open PySem PyProof.Rows PySem.Spec SrtO MI L2
section
variable {prog : Program} {w : World} {A : Around} {E : Value → Shared → Prop} {s : Shared}
end
end SrtP
namespace MI
open PySem PySem.Spec PyProof.Rows L2
section
variable {X : Cx} {G : Gx} {W : WX} {a b c : Expr} {es : List Expr} {da : Den} {dr : DenL} {pos p : Pos}
end
end MI
set_option Elab.async false
set_option linter.all false
set_option maxRecDepth 100000
/-! o.m(e, ..), m a method of an own class that raises nothing -/
namespace MI
open PySem PySem.Spec PyProof.Rows L2
section
variable {X : Cx} {G : Gx} {W : WX} {o e : Expr} {es : List Expr} {pos apos : Pos} {dO : Den} {dr : DenL}
end
end MI
set_option Elab.async false
set_option linter.all false
set_option maxRecDepth 100000
/-! set(xs) of keys of any one kind; len(set(xs)) of texts -/
namespace SetM
open PySem PySem.Spec PyProof.Rows
section
variable {K : Type} [DecidableEq K]
def addK (l : List K) (k : K) : List K := if k ∈ l then l else k :: l
def seen (ks : List K) : List K := ks.foldl addK []
theorem len_addK (l : List K) (k : K) : (addK l k).length = if decide (k ∈ l) = true then l.length else l.length + 1 := by
  unfold addK
  by_cases h : k ∈ l <;> simp [h]
theorem seen_len (ks : List K) : (seen ks).length ≤ ks.length := by
  have : ∀ (ks l : List K), (ks.foldl addK l).length ≤ l.length + ks.length := fun ks => by
    induction ks with
    | nil => intro l; simp
    | cons k ks ih =>
      intro l
      rw [List.foldl_cons]
      have h1 := ih (addK l k)
      have h2 := len_addK l k
      rw [List.length_cons]
      split at h2 <;> omega
  simpa [seen] using this ks []
end
section
variable {K : Type} [DecidableEq K] {prog : Program} {w : World} {A : Around}
end
section
variable {K : Type} [DecidableEq K] {prog : Program} {w : World} {A : Around} {E : Value → Shared → Prop} {s : Shared}
abbrev bare (led : Bool) : Obj := { cls := .type "set", dict := none, data := .set #[] 0 (.fresh 0 0 led) }
set_option maxHeartbeats 3200000 in
set_option maxHeartbeats 3200000 in
end
end SetM
set_option Elab.async false
set_option linter.all false
set_option maxRecDepth 100000
/-! sets of texts whose tables can be walked; sorted(set(xs)) -/
namespace SetX
open PySem PySem.Spec PyProof.Rows L2
open SetM (addK seen_len)
def txt (m : Int × Value) : Str := match m.2 with
  | .str z _ => z
  | _ => ⟨#[]⟩
def IsT (w : World) (m : Int × Value) : Prop := ∃ z tk, m.2 = Value.str z tk ∧ m.1 = hashStr w z
def led (w : World) (tb : SetTable) : Prop := w.params.followText "set-order" = true ∨ tb.led = true
structure Holds (w : World) (ks : List Str) (ms : Array (Int × Value)) (tb : SetTable) : Prop where
  each : ∀ m ∈ ms.toList, IsT w m
  perm : (ms.toList.map txt).Perm (SetM.seen ks)
  few : ms.size < scanBound
  fit : tb.fits ms.size = true
  ris : Ris tb.place.toList
  led : led w tb
def SetT (w : World) (h : Heap) (a : Addr) (ks : List Str) : Prop := ∃ ob ms ep tb, h.get? a = some ob ∧ ob.ExactSet ∧ ob.data = .set ms ep tb ∧ Holds w ks ms tb
section
variable {prog : Program} {w : World} {h h' : Heap} {a : Addr} {ks : List Str}
theorem SetT.stay (R : SetT w h a ks) (keep : ∀ ob, h.get? a = some ob → h'.get? a = some ob) : SetT w h' a ks :=
  let ⟨ob, ms, ep, tb, here, more⟩ := R
  ⟨ob, ms, ep, tb, keep ob here, more⟩
theorem SetT.low (R : SetT w h a ks) : a < h.objs.size :=
  let ⟨_, _, _, _, here, _⟩ := R
  Heap.lt_size here
theorem Holds.size {ms : Array (Int × Value)} {tb : SetTable} (H : Holds w ks ms tb) : ms.size = (SetM.seen ks).length := by
  have := H.perm.length_eq
  rwa [List.length_map, Array.length_toList] at this
end
section
variable {prog : Program} {w : World} {A : Around} {E : Value → Shared → Prop} {s : Shared} {a : Addr} {ks : List Str}
theorem put_at {h : Heap} {ob : Obj} {ms ms' : Array (Int × Value)} {ep : Nat} {tb tb' : SetTable} (here : h.get? a = some ob) (data : ob.data = .set ms ep tb) :
    (h.update a (Obj.putSet ms' tb')).get? a = some { ob with data := .set ms' (ep + 1) tb' } := L2.store_at here data
theorem grow {G : Bool → Sem Unit} (still : ∀ (b : Bool) (s1 : Shared) (R : Unit → Shared → Prop), R () s1 → wpAny (model prog w) A (G b) R E s1) {ob : Obj} {ms : Array (Int × Value)} {ep : Nat} {tb : SetTable} (here : s.heap.get? a = some ob)
    (exact_ : ob.ExactSet) (data : ob.data = .set ms ep tb) {ns : Array (Int × Value)} {tn : SetTable} {ks' : List Str} (hs : Holds w ks' ns tn) {dummy : Bool} {R : Option Bool → Shared → Prop}
    (out : ∀ h', Heap.SameBut a s.heap h' → SetT w h' a ks' → R (some true) { s with heap := h' }) :
    wpAny (model prog w) A (storeSet a ns tn >>= fun _ => if (!dummy && tn.tooFull) = true then do
            G (relayAll tn ns (SetTable.grown ns.size)).2.2
            storeSet a (relayAll tn ns (SetTable.grown ns.size)).1 (relayAll tn ns (SetTable.grown ns.size)).2.1
            pure (some true)
          else pure (some true)) R E s := by
  have same := Heap.SameBut.update s.heap a (Obj.putSet ns tn)
  have now := put_at (ms' := ns) (tb' := tn) here data
  refine wpAny_bind (wpAny_storeSet_of here data ?_ (fits_of_scanBound hs.few))
  split
  · have r1 := relayAll_led tn ns (SetTable.grown ns.size)
    have r2 := relayAll_ris tn ns (SetTable.grown ns.size)
    have r3 := relayAll_fits tn ns (SetTable.grown ns.size)
    have r4 := relayAll_perm tn ns (SetTable.grown ns.size)
    generalize relayAll tn ns (SetTable.grown ns.size) = all at r1 r2 r3 r4 ⊢
    obtain ⟨us, tu, gave⟩ := all
    dsimp only at r1 r2 r3 r4 ⊢
    have size : us.size = ns.size := by
      have := r4.length_eq
      simpa only [Array.length_toList] using this
    have hu : Holds w ks' us tu := ⟨fun m hm => hs.each m (r4.mem_iff.mp hm), (r4.map txt).trans hs.perm, size ▸ hs.few, r3, r2, hs.led.imp id fun z => r1.trans z⟩
    refine wpAny_bind (still _ _ _ ?_)
    refine wpAny_bind (wpAny_storeSet_of now rfl ?_ (fits_of_scanBound hu.few))
    exact wpAny_pure (out _ (same.trans (Heap.SameBut.update _ a _)) ⟨_, us, _, tu, put_at (ms' := us) (tb' := tu) now rfl, exact_, rfl, hu⟩)
  · exact wpAny_pure (out _ same ⟨_, ns, _, tn, now, exact_, rfl, hs⟩)
end
end SetX
set_option Elab.async false
set_option linter.all false
set_option maxRecDepth 100000
namespace MI
open PySem PySem.Spec PyProof.Rows L2
section
variable {X : Cx} {G : Gx} {W : WX} {a : Expr} {da : Den} {pos p p2 q : Pos}
end
end MI
set_option Elab.async false
set_option linter.all false
set_option maxRecDepth 100000
/-! sorted(set(xs)), xs a list of texts -/
namespace SetX
open PySem PySem.Spec PyProof.Rows L2
open SetM (addK seen_len)
section
variable {prog : Program} {w : World} {A : Around} {E : Value → Shared → Prop} {s : Shared} {a : Addr} {ks : List Str}
end
section
variable {prog : Program} {w : World} {A : Around} {E : Value → Shared → Prop} {s : Shared}
set_option maxHeartbeats 3200000 in
set_option maxHeartbeats 3200000 in
end
end SetX
set_option Elab.async false
set_option linter.all false
set_option maxRecDepth 100000
namespace MI
open PySem PySem.Spec PyProof.Rows L2
section
variable {X : Cx} {G : Gx} {W : WX} {a : Expr} {da : Den} {pos p p2 q : Pos}
end
end MI
set_option Elab.async false
set_option linter.all false
set_option maxRecDepth 100000
namespace MI
open PySem PySem.Spec PyProof.Rows L2
/-! sorted({..}), a comprehension that makes texts -/
section
variable {X : Cx}
set_option maxHeartbeats 1600000 in
end
end MI
set_option Elab.async false
set_option linter.all false
set_option maxRecDepth 100000
namespace MI
open PySem PySem.Spec PyProof.Rows L2
section
variable {prog : Program} {w : World} {A : Around} {R : Result → Shared → Prop} {s : Shared} {e ta ia tb ib : Expr} {fa fb : List Expr} {sc : Scope} {pos : Pos} {iv dv : Value} {env : Env}
abbrev up (prog : Program) (w : World) (A : Around) (env : Env) (R : Result → Shared → Prop) : Value → Shared → Prop := notedBy (model prog w) A env fun x s' => R (.error x) s'
end
section
variable {X : Cx}
set_option maxHeartbeats 1600000 in
end
end MI
set_option Elab.async false
set_option linter.all false
set_option maxRecDepth 100000
namespace MI
open PySem PySem.Spec PyProof.Rows L2
section
variable {X : Cx} {G : Gx} {W : WX} {e a b c : Expr} {pos : Pos} {d da db : Den}
end
/-! reading them -/
section
variable {E : EX} {S : Store} {ρ : Env'} {Q : MV → Store → Prop}
end
end MI
set_option Elab.async false
set_option linter.all false
set_option maxRecDepth 100000
/-! sorted(xs), sorted(set(xs)), xs a tuple or a list of texts -/
namespace SetX
open PySem PySem.Spec PyProof.Rows L2
open SetM (addK seen_len)
section
variable {prog : Program} {w : World} {A : Around} {E : Value → Shared → Prop} {s : Shared}
set_option maxHeartbeats 3200000 in
set_option maxHeartbeats 3200000 in
end
end SetX
namespace MI
open PySem PySem.Spec PyProof.Rows L2
section
variable {X : Cx} {G : Gx} {W : WX} {a b c : Expr} {es : List Expr} {da : Den} {dr : DenL} {pos p p2 q : Pos}
end
end MI
set_option Elab.async false
set_option linter.all false
set_option maxRecDepth 100000
/-! sorted(xs), xs a list of any alike data (tuples of whole numbers, texts, tuples ..) -/
namespace MI
open PySem PySem.Spec PyProof.Rows L2
open PySem.W (AllAlike alike dataLe)
section
variable {X : Cx} {G : Gx} {W : WX} {a : Expr} {es : List Expr} {dr : DenL} {pos p : Pos}
end
end MI
set_option Elab.async false
set_option linter.all false
set_option maxRecDepth 100000
/-! tuples that are known to have no dict: tuple(xs) noted in the store, t.index(x) of data; read as the tuple itself -/
namespace MI
open PySem PySem.Spec PyProof.Rows L2
section
variable {X : Cx} {K : PySem.W.Frag}
end
section
variable {X : Cx} {G : Gx} {W : WX} {a b : Expr} {es : List Expr} {da : Den} {dr : DenL} {pos apos : Pos}
end
section
variable {E : EX} {S : Store} {Q : MV → Store → Prop} {ρ : Env'}
end
end MI
set_option Elab.async false
set_option linter.all false
set_option maxRecDepth 100000
/-! {k: v, ..}, its keys texts or whole numbers -/
namespace MI
open PySem PySem.Spec PyProof.Rows L2
section
variable {X : Cx} {G : Gx} {W : WX} {pos : Pos}
structure DPs (X : Cx) (G : Gx) (W : WX) (pos : Pos) (keys : List (Option Expr)) (values : List Expr) (prs : List (Den × Den)) : Prop where
  run : PPs X pos keys values (prs.map fun p => (tD G W p.1, tD G W p.2))
end
section
variable {E : EX} {S : Store} {ρ : Env'} {Q : MV → Store → Prop}
end
end MI
set_option Elab.async false
set_option linter.all false
set_option maxRecDepth 100000
/-! d.update(e), both with keys that are texts or whole numbers -/
namespace MI
open PySem PySem.Spec PyProof.Rows L2
section
variable {X : Cx} {G : Gx} {W : WX} {a b : Expr} {es : List Expr} {da : Den} {dr : DenL} {pos apos : Pos}
end
section
variable {E : EX} {S : Store} {Q : MV → Store → Prop}
end
end MI
set_option Elab.async false
set_option linter.all false
set_option maxRecDepth 100000
/-! dicts keyed by tuples of whole numbers and texts; tuples that are written and noted -/
namespace MI
open PySem PySem.Spec PyProof.Rows L2
section
variable {κ : Type} [DecidableEq κ]
variable {G : Gx} {ι : List Addr} {H : Hp}
end
section
variable {X : Cx} {G : Gx} {W : WX} {a b c : Expr} {es : List Expr} {da db dc : Den} {dr : DenL} {pos apos : Pos}
end
section
variable {E : EX} {S : Store} {Q : MV → Store → Prop} {ρ : Env'} {QE : Env' → Store → Prop}
end
end MI
set_option Elab.async false
set_option linter.all false
set_option maxRecDepth 100000
/-! dicts keyed by tuples: {t: v} with one pair; the walk over the keys while the dict is locked; tuple(xs) that is noted as a key -/
namespace MI
open PySem PySem.Spec PyProof.Rows L2
section
variable {G : Gx} {ι ι' : List Addr} {H H' : Hp} {S S1 S' : Store}
end
section
variable {X : Cx} {G : Gx} {W : WX} {e a b : Expr} {da db d : Den} {pos apos : Pos}
end
section
variable {E : EX} {S : Store} {Q : MV → Store → Prop} {ρ : Env'}
end
end MI
set_option Elab.async false
set_option linter.all false
set_option maxRecDepth 100000
/-! {k: v for x in xs if t}, keys texts or whole numbers -/
namespace MI
open PySem PySem.Spec PyProof.Rows L2
section
variable {X : Cx} {G : Gx} {W : WX} {e a b c : Expr} {pos : Pos} {d dk da db : Den} {dr : DenL}
end
end MI
namespace MI
open PySem PySem.Spec PyProof.Rows L2
def fBoolL : List MV → Store → Res MV
  | [.ref n], S => match S[n]? with
    | some (.lst l) => .ok (.bl (!l.isEmpty)) S
    | _ => .stuck
  | _, _ => .stuck
section
variable {X : Cx} {G : Gx} {W : WX} {a : Expr} {es : List Expr} {dr : DenL} {pos : Pos}
theorem w_boolL : ClW G fBoolL (fun xs H Q => ∃ (a : Addr) (zs : List V), xs = [.ref a] ∧ SqL G.K H a zs ∧ Q (.bl (!zs.isEmpty)) H) := fun ι H S E Q ws vs s r h => by
  unfold fBoolL at h
  split at h
  · rename_i n
    obtain ⟨v, rfl, r1⟩ := rws1 r
    cases r1 with
    | ref i =>
      split at h
      · rename_i l hS
        obtain ⟨us, g, q⟩ := s.obj _ _ _ hS i
        refine ⟨_, us, rfl, .of g, ?_⟩
        rw [isEmpty_rws q]
        exact h ι H (.refl s) _ (.bl _)
      · exact h.elim
  · exact h.elim
theorem de_boolL {p : Pos} (hK : X.K = G.K) (hg : Gl X "bool") (hm : X.mg "bool" = none) (ha : DA X G W (a :: es) dr)
    (he : starEach (a :: es) X.env = (false, eval a X.env) :: starEach es X.env := by rfl) (hpl : (backTo pos (starEach es X.env)).any (·.1) = false := by rfl) : DE X G W (.Call (.Name "bool" p) (a :: es) [] pos) (dCall fBoolL dr) :=
  de_callTy call_boolL (by rw [hK]; exact w_boolL) hg hm (by decide +kernel) ha (by decide) (by decide) he hpl
end
end MI
namespace MI
open PySem PySem.Spec PyProof.Rows L2
section
variable {X : Cx} {G : Gx} {W : WX} {a : Expr} {es : List Expr} {dr : DenL} {pos : Pos}
end
section
variable {E : EX} {S : Store} {Q : MV → Store → Prop} {ρ : Env'}
end
end MI
set_option Elab.async false
set_option linter.all false
set_option maxRecDepth 100000
/-! sum(xs), xs a list of whole numbers; t.count(x), t a noted tuple of data -/
namespace MI
open PySem PySem.Spec PyProof.Rows L2
section
variable {X : Cx}
end
section
variable {X : Cx} {G : Gx} {W : WX} {a b : Expr} {es : List Expr} {da : Den} {dr : DenL} {pos apos p : Pos}
end
end MI
namespace MI
open PySem PySem.Spec PyProof.Rows L2
/-! name = {k: v for ..} on one line -/
section
variable {X : Cx}
variable {G : Gx} {W : WX} {d dk : Den}
end
end MI
set_option Elab.async false
set_option linter.all false
set_option maxRecDepth 100000
/-! *d among items, list(d), sorted(d): d a dict, its keys texts or whole numbers -/
namespace StD
open PySem PySem.Spec PyProof.Rows L2
section
variable {prog : Program} {w : World} {A : Around} {E : Value → Shared → Prop} {s : Shared} {T : String} {r d : Addr} {n : Nat} {P : Nat → Value → Prop} {OK : Heap → Prop}
end
section
variable {X : Cx} {pins : List (Addr × Obj)} {σ : L2.St} {H : Hp} {s : Shared}
end
end StD
namespace MI
open PySem PySem.Spec PyProof.Rows L2
section
variable {X : Cx} {G : Gx} {W : WX} {a : Expr} {es : List Expr} {da : Den} {dr : DenL} {pos p : Pos}
end
section
variable {E : EX} {S : Store} {Q : MV → Store → Prop}
end
end MI
set_option Elab.async false
set_option linter.all false
set_option maxRecDepth 100000
/-! sorted(xs), xs a tuple or a list of whole numbers -/
namespace SetX
open PySem PySem.Spec PyProof.Rows L2
section
variable {prog : Program} {w : World} {A : Around} {E : Value → Shared → Prop} {s : Shared}
end
end SetX
namespace MI
open PySem PySem.Spec PyProof.Rows L2
section
variable {X : Cx} {G : Gx} {W : WX} {a : Expr} {es : List Expr} {dr : DenL} {pos : Pos}
end
end MI
namespace MI
open PySem PySem.Spec PyProof.Rows L2
section
variable {X : Cx} {G : Gx} {W : WX} {a : Expr} {es : List Expr} {dr : DenL} {pos : Pos}
end
end MI
set_option Elab.async false
set_option linter.all false
set_option maxRecDepth 100000
/-! sorted(set(t)), t a tuple of whole numbers -/
namespace MI
open PySem PySem.Spec PyProof.Rows L2
section
variable {X : Cx} {G : Gx} {W : WX} {a : Expr} {da : Den} {pos p p2 q : Pos}
end
end MI
set_option Elab.async false
set_option linter.all false
set_option maxRecDepth 100000
/-! a slice of a tuple, noted (for t[a:b].count(x)); a < b < c < d -/
namespace MI
open PySem PySem.Spec PyProof.Rows L2
section
variable {X : Cx} {a b c d : Expr} {ta tb tc td : TE} {pos : Pos}
end
section
variable {X : Cx} {G : Gx} {W : WX} {a b c d : Expr} {da db dc dd : Den} {pos p2 : Pos}
end
section
variable {S : Store} {ρ : Env'} {E : EX} {Q : MV → Store → Prop}
end
end MI
set_option Elab.async false
set_option linter.all false
set_option maxRecDepth 100000
/-! sorted(xs), xs a tuple or a list of any alike data -/
namespace SetX
open PySem PySem.Spec PyProof.Rows L2
open PySem.W
section
variable {prog : Program} {w : World} {A : Around} {E : Value → Shared → Prop} {s : Shared} {β : Type} {vs : List Value} {bs : List β} {enc : β → PyData} {R : Value → β → Prop}
end
end SetX
namespace MI
open PySem PySem.Spec PyProof.Rows L2
open PySem.W (AllAlike alike dataLe)
section
variable {X : Cx} {G : Gx} {W : WX} {a : Expr} {es : List Expr} {dr : DenL} {pos p : Pos}
end
end MI
set_option Elab.async false
set_option linter.all false
set_option maxRecDepth 100000
/-! t.get(k, w) of a dict that the top has written -/
namespace L2
open PySem PySem.Spec PyProof.Rows
section
variable {X : Cx} {d : Addr} {es : Array DictEntry} {n : Nat} {o e f : Expr} {to ty tx : TE} {apos cpos : Pos}
variable {a b : Expr} {ta tb : TE} {rest : List Expr} {pos : Pos}
end
end L2
namespace MI
open PySem PySem.Spec PyProof.Rows L2
section
variable {X : Cx} {G : Gx} {W : WX} {b c : Expr} {db dc : Den} {pos apos p : Pos} {x : Str} {dd : Addr} {tbl : List (Str × MV)}
end
section
variable {E : EX} {S : Store} {Q : MV → Store → Prop}
end
end MI
set_option Elab.async false
set_option linter.all false
set_option maxRecDepth 100000
set_option maxHeartbeats 1000000
/-! defs as values: x(..) by a local name; == by an own __eq__ -/
namespace MI
open PySem PySem.Spec PyProof.Rows L2
structure FnV (P : Program) (w : World) (K : PySem.W.Frag) (mg : Str → Option Value) (base : Heap) (G : Gx) (k : Nat) (n : Nat) (g : FnM) : Prop where
  ex : ∃ (kk : Nat) (f : Addr) (fd : FuncData) (ps : List Str), kk ≤ k ∧ G.outs[n]? = some f ∧ FnOk P w K mg base (L2.CX P w) kk f fd ps (spF G g) ∧ PySem.W.keepIn K (.ref f) = true ∧ Binds K fd ps []
section
variable {X : Cx} {G : Gx} {W : WX} {a : Expr} {es : List Expr} {dr : DenL} {pos p : Pos}
end
def fEqO (c : Str) (g : FnM) (w1 w2 : MV) (S : Store) : Res MV := match w1, w2 with
  | .ref a, .ref b => match S[a]?, S[b]? with
    | some (.ins c1 _), some (.ins c2 _) => if c1 = c ∧ c2 = c then (match g [.ref a, .ref b] S with
      | .ok (.bl k) S' => .ok (.bl k) S'
      | _ => .stuck) else .stuck
    | _, _ => .stuck
  | _, _ => .stuck
def rEqO (G : Gx) (C : Addr) (g : FnM) : R2 := fun x y H Q => ∃ a b dx dy fs gs, x = .ref a ∧ y = .ref b ∧ H a = some (.ins C dx fs) ∧ H b = some (.ins C dy gs) ∧ spF G g [.ref a, .ref b] H (fun v H' => (∃ k, v = .bl k) ∧ Q v H') (fun _ _ _ => False)
section
variable {X : Cx} {G : Gx}
theorem op_eqO {k : Nat} {C f : Addr} {fd : FuncData} {ps : List Str} {g : FnM} (h : OwnEq X.K C f) (F : FnOk X.prog X.w X.K X.mg X.base (L2.CX X.prog X.w) k f fd ps (spF G g)) (hr : Room k X.A) (hb : Binds X.K fd ps []) (hx : Passes (L2.CX X.prog X.w) X (fun _ _ _ => False)) : OpR X (compareOp .Eq) (rEqO G C g) := by
  intro pins s σ H x y v u Q I rx ry hq
  obtain ⟨a, b, dx, dy, fs, gs, rfl, rfl, ha, hb', hsp⟩ := hq
  cases rx
  cases ry
  obtain ⟨mA, J, _⟩ := ins_get I.hok ha
  obtain ⟨mB, J', _⟩ := ins_get I.hok hb'
  obtain ⟨od, J, _⟩ := J.look
  obtain ⟨od', J', _⟩ := J'.look
  obtain ⟨m, hF⟩ := I.fr
  show wpAny (model X.prog X.w) X.A (richCompare .Eq (.ref a) (.ref b)) (EP X pins σ Q) X.xe s
  refine PySem.W.cmp_K (op := .Eq) (tb := .ref C) hr.units0 hF I.ok.mod.kin J J'.type h.no h.here h.fn ?_
  refine wpAny_mono (run_fn (dvs := []) (ds := []) (us := [.ref a, .ref b]) (vs := [.ref a, .ref b]) F hr hb .nil hx I (.cons rfl (.cons rfl .nil)) hsp) (fun r s' z => ?_) fun _ _ x => x
  obtain ⟨v, H', I', rv, ⟨k, ek⟩, q⟩ := z
  subst ek
  cases rv
  exact ⟨.bl k, H', I', rfl, q⟩
theorem w_eqO {c : Str} {C : Addr} {g : FnM} (hC : G.ct c = some C) : OpW G (fEqO c g) (rEqO G C g) := fun ι H S E Q w1 w2 v1 v2 s r1 r2 h => by
  unfold fEqO at h
  split at h
  · rename_i n1 n2
    split at h
    · rename_i c1 fs1 c2 fs2 e1 e2
      split at h
      · rename_i hc
        obtain ⟨hc1, hc2⟩ := hc
        subst hc1
        subst hc2
        cases r1 with
        | ref i1 =>
          cases r2 with
          | ref i2 =>
            obtain ⟨C1, d1, f1, z1, g1, _⟩ := s.obj _ _ _ e1 i1
            obtain ⟨C2, d2, f2, z2, g2, _⟩ := s.obj _ _ _ e2 i2
            rw [hC] at z1 z2
            cases z1
            cases z2
            refine ⟨_, _, d1, d2, f1, f2, rfl, rfl, g1, g2, ι, S, [.ref n1, .ref n2], s, .cons (.ref i1) (.cons (.ref i2) .nil), ?_⟩
            split at h
            · rename_i k S' eg
              rw [eg]
              intro ι' H' p v r
              have h' := h ι' H' p v r
              cases r
              exact ⟨⟨k, rfl⟩, h'⟩
            · exact h.elim
      · exact h.elim
    · exact h.elim
  · exact h.elim
theorem cmp_eqO {k : Nat} {c : Str} {C f : Addr} {fd : FuncData} {ps : List Str} {g : FnM} (hC : G.ct c = some C) (h : OwnEq X.K C f) (F : FnOk X.prog X.w X.K X.mg X.base (L2.CX X.prog X.w) k f fd ps (spF G g)) (hr : Room k X.A) (hb : Binds X.K fd ps []) (hx : Passes (L2.CX X.prog X.w) X (fun _ _ _ => False)) : CmpOk X G .Eq (fEqO c g) :=
  ⟨_, op_eqO h F hr hb hx, w_eqO hC⟩
end
/-! min(m, n), max(m, n) -/
def fMin2 : FnM := fun ws S => match ws with
  | [.int i, .int j] => .ok (.int (if j < i then j else i)) S
  | _ => .stuck
def fMax2 : FnM := fun ws S => match ws with
  | [.int i, .int j] => .ok (.int (if j > i then j else i)) S
  | _ => .stuck
section
variable {X : Cx} {G : Gx} {W : WX} {a : Expr} {es : List Expr} {dr : DenL} {pos p : Pos}
theorem w_min2 : ClW G fMin2 (fun xs H Q => ∃ i j : Int, xs = [.int i, .int j] ∧ Q (.int (if j < i then j else i)) H) := fun ι H S E Q ws vs s r h => by
  unfold fMin2 at h
  split at h
  · obtain ⟨v, v2, rfl, r1, r2⟩ := rws2 r
    cases r1
    cases r2
    exact ⟨_, _, rfl, h ι H (.refl s) _ (.int _)⟩
  · exact h.elim
theorem w_max2 : ClW G fMax2 (fun xs H Q => ∃ i j : Int, xs = [.int i, .int j] ∧ Q (.int (if j > i then j else i)) H) := fun ι H S E Q ws vs s r h => by
  unfold fMax2 at h
  split at h
  · obtain ⟨v, v2, rfl, r1, r2⟩ := rws2 r
    cases r1
    cases r2
    exact ⟨_, _, rfl, h ι H (.refl s) _ (.int _)⟩
  · exact h.elim
theorem de_min2 (hc : X.calm = true) (hg : Gl X "min") (hm : X.mg "min" = none) (ha : DA X G W (a :: es) dr)
    (he : starEach (a :: es) X.env = (false, eval a X.env) :: starEach es X.env := by rfl) (hpl : (backTo pos (starEach es X.env)).any (·.1) = false := by rfl) : DE X G W (.Call (.Name "min" p) (a :: es) [] pos) (dCall fMin2 dr) :=
  de_callB (call_min2 hc) w_min2 hg hm (by decide +kernel) ha (by decide) (by decide) he hpl
theorem de_max2 (hc : X.calm = true) (hg : Gl X "max") (hm : X.mg "max" = none) (ha : DA X G W (a :: es) dr)
    (he : starEach (a :: es) X.env = (false, eval a X.env) :: starEach es X.env := by rfl) (hpl : (backTo pos (starEach es X.env)).any (·.1) = false := by rfl) : DE X G W (.Call (.Name "max" p) (a :: es) [] pos) (dCall fMax2 dr) :=
  de_callB (call_max2 hc) w_max2 hg hm (by decide +kernel) ha (by decide) (by decide) he hpl
end
section
variable {E : EX} {S : Store} {ρ : Env'} {Q : MV → Store → Prop}
end
end MI
set_option Elab.async false
set_option linter.all false
set_option maxRecDepth 100000
set_option maxHeartbeats 1000000
/-! == by an own __eq__, also with a tuple on the right -/
namespace MI
open PySem PySem.Spec PyProof.Rows L2
section
variable {X : Cx} {G : Gx}
end
section
variable {E : EX} {S : Store} {Q : MV → Store → Prop}
end
end MI
set_option Elab.async false
set_option linter.all false
set_option maxRecDepth 100000
set_option maxHeartbeats 1000000
/-! A list gathered from a zip of two tuples: the list's loop over any source of new things; the zip as such a source. -/
namespace Gath
open PySem PySem.Spec
structure Gives (prog : Program) (w : World) (A : Around) (I S : Addr) (n : Nat) (St : Nat → Heap → List Addr → Prop) (Fi : Heap → List Addr → Prop) : Prop where
  many : ∀ i h l, St i h l → l.length = i
  next : ∀ i h l, i < n → St i h l → ∀ (s : Shared) (E : Value → Shared → Prop), s.heap = h → ∀ o, h.get? S = some o → wpAny (model prog w) A (pyNext (.ref I)) (fun r s' => ∃ a h', r = some (.ref a) ∧ s' = { s with heap := h' } ∧ h'.get? S = some o ∧ St (i + 1) h' (l ++ [a])) E s
  stop : ∀ h l, St n h l → ∀ (s : Shared) (E : Value → Shared → Prop), s.heap = h → ∀ o, h.get? S = some o → wpAny (model prog w) A (pyNext (.ref I)) (fun r s' => ∃ h', r = none ∧ s' = { s with heap := h' } ∧ h'.get? S = some o ∧ Fi h' l) E s
  still : ∀ i h h' l, St i h l → h'.objs.size = h.objs.size → (∀ b, b ≠ S → h'.get? b = h.get? b) → St i h' l
abbrev Holds (h : Heap) (S : Addr) (l : List Addr) : Prop := ∃ c, h.get? S = some { cls := .type "list", dict := none, data := .seq (l.map Value.ref).toArray c, slots := #[] }
section
variable {prog : Program} {w : World} {A : Around} {I S : Addr} {n : Nat} {St : Nat → Heap → List Addr → Prop} {Fi : Heap → List Addr → Prop} {R : Result → Shared → Prop} {res : Value}
theorem grown {h : Heap} {l : List Addr} {a : Addr} {c : Nat} (e : h.get? S = some { cls := .type "list", dict := none, data := .seq (l.map Value.ref).toArray c, slots := #[] }) : Holds (h.update S (Obj.mapSeq fun xs => xs.push (Value.ref a))) S (l ++ [a]) := by
  refine ⟨c + 1, ?_⟩
  rw [Heap.get?_update_self _ e rfl]
  simp [Obj.mapSeq]
end
end Gath
namespace ZipL
open PySem PySem.Spec PyProof.Rows L2 RZ PySem.W Gath
section
variable {prog : Program} {w : World} {A : Around} {E : Value → Shared → Prop} {s : Shared}
end
structure Own (z TI TO i1 i2 l1 l2 S : Addr) : Prop where
  ap : ZipApart z TI TO i1 i2 l1 l2
  lo : ∀ b ∈ [z, TI, TO, i1, i2, l1, l2], b < S
structure ZS (z TI TO i1 i2 l1 l2 S : Addr) (xs ys : Array Value) (h0 : Heap) (i : Nat) (h : Heap) (l : List Addr) : Prop where
  len : l.length = i
  pi : IsPair h TI (.ref i1) (.ref i2)
  j1 : h.IsTupleIter i1 l1 i
  j2 : h.IsTupleIter i2 l2 i
  t1 : h.IsTuple l1 xs
  t2 : h.IsTuple l2 ys
  own : (IsZip h z TI TO .none ∧ ∃ a b, IsPair h TO a b) ∨ ∃ T f o, IsZipHeld h z TI TO T f ∧ h.get? T = some o ∧ T ∉ [z, i1, i2, S]
  inc : l.Pairwise (· < ·)
  up : ∀ a ∈ l, S < a
  pr : ∀ (j : Nat) (a : Addr), l[j]? = some a → ∃ x y, xs[j]? = some x ∧ ys[j]? = some y ∧ IsPair h a x y
  old : ∀ b o, b < S → b ∉ [z, TO, i1, i2] → h0.get? b = some o → h.get? b = some o
structure ZE (z TO i1 i2 S : Addr) (xs ys : Array Value) (h0 : Heap) (n : Nat) (h : Heap) (l : List Addr) : Prop where
  len : l.length = n
  inc : l.Pairwise (· < ·)
  up : ∀ a ∈ l, S < a
  pr : ∀ (j : Nat) (a : Addr), l[j]? = some a → ∃ x y, xs[j]? = some x ∧ ys[j]? = some y ∧ IsPair h a x y
  old : ∀ b o, b < S → b ∉ [z, TO, i1, i2] → h0.get? b = some o → h.get? b = some o
section
variable {z TI TO i1 i2 l1 l2 S : Addr} {xs ys : Array Value} {h0 h h' : Heap} {i : Nat} {l : List Addr}
theorem Own.ne (O : Own z TI TO i1 i2 l1 l2 S) {b : Addr} (hb : b ∈ [z, TI, TO, i1, i2, l1, l2]) : b ≠ S := Nat.ne_of_lt (O.lo b hb)
theorem Own.off (O : Own z TI TO i1 i2 l1 l2 S) {b : Addr} (hb : S ≤ b) : b ∉ [z, TO, i1, i2] := fun m => by
  have : b ∈ [z, TI, TO, i1, i2, l1, l2] := by
    simp only [List.mem_cons, List.mem_nil_iff, or_false] at m ⊢
    rcases m with m | m | m | m <;> simp [m]
  exact absurd (O.lo b this) (Nat.not_lt.mpr hb)
theorem ZS.next (O : Own z TI TO i1 i2 l1 l2 S) (st : ZS z TI TO i1 i2 l1 l2 S xs ys h0 i h l) (hS : S < h.objs.size) {x y : Value} (ex : xs[i]? = some x) (ey : ys[i]? = some y) (k1 : h'.IsTupleIter i1 l1 (i + 1)) (k2 : h'.IsTupleIter i2 l2 (i + 1)) (new : IsPair h' h.objs.size x y)
    (keep : ∀ b o, b ∉ [z, TO, i1, i2] → h.get? b = some o → h'.get? b = some o) (held : ∃ T f o, IsZipHeld h' z TI TO T f ∧ h'.get? T = some o ∧ T ∉ [z, i1, i2, S]) : ZS z TI TO i1 i2 l1 l2 S xs ys h0 (i + 1) h' (l ++ [h.objs.size]) := by
  have D := O.ap
  have nTI : TI ∉ [z, TO, i1, i2] := by simp [D.TIz, D.TITO, D.TIi1, D.TIi2]
  have n1 : l1 ∉ [z, TO, i1, i2] := by simp [D.l1z, D.l1TO, D.l1i1, D.l1i2]
  have n2 : l2 ∉ [z, TO, i1, i2] := by simp [D.l2z, D.l2TO, D.l2i1, D.l2i2]
  have inside : ∀ a ∈ l, a < h.objs.size := fun a m => by
    obtain ⟨j, e⟩ := List.getElem?_of_mem m
    obtain ⟨_, _, _, _, p⟩ := st.pr j a e
    exact Heap.lt_size p
  refine ⟨by simp [st.len], keep _ _ nTI st.pi, k1, k2, st.t1.at fun o => keep l1 o n1, st.t2.at fun o => keep l2 o n2, .inr held, ?_, ?_, ?_, fun b o lt nb e => keep b o nb (st.old b o lt nb e)⟩
  · exact List.pairwise_append.mpr ⟨st.inc, by simp, fun a m b m' => by simpa [List.mem_singleton.mp m'] using inside a m⟩
  · intro a m
    rcases List.mem_append.mp m with m | m
    · exact st.up a m
    · simpa [List.mem_singleton.mp m] using hS
  · intro j a e
    by_cases lt : j < l.length
    · obtain ⟨x', y', f1, f2, f3⟩ := st.pr j a (by simpa [List.getElem?_append_left lt] using e)
      exact ⟨x', y', f1, f2, keep a _ (O.off (Nat.le_of_lt (st.up a (List.mem_of_getElem? (by simpa [List.getElem?_append_left lt] using e))))) f3⟩
    · have ej : j = i := by
        have q := (List.getElem?_eq_some_iff.mp e).1
        have ln := st.len
        rw [List.length_append, List.length_singleton] at q
        omega
      subst ej
      have ea : h.objs.size = a := by
        simpa [← st.len] using e
      subst ea
      exact ⟨x, y, ex, ey, new⟩
theorem ZS.still (O : Own z TI TO i1 i2 l1 l2 S) (st : ZS z TI TO i1 i2 l1 l2 S xs ys h0 i h l) (same : ∀ b, b ≠ S → h'.get? b = h.get? b) : ZS z TI TO i1 i2 l1 l2 S xs ys h0 i h' l := by
  have at_ : ∀ b o, b ≠ S → h.get? b = some o → h'.get? b = some o := fun b o n e => (same b n).trans e
  refine ⟨st.len, at_ _ _ (O.ne (by simp)) st.pi, st.j1.at fun o => at_ i1 o (O.ne (by simp)), st.j2.at fun o => at_ i2 o (O.ne (by simp)), st.t1.at fun o => at_ l1 o (O.ne (by simp)), st.t2.at fun o => at_ l2 o (O.ne (by simp)), ?_, st.inc, st.up, fun j a e => ?_, fun b o lt nb e => at_ b o (Nat.ne_of_lt lt) (st.old b o lt nb e)⟩
  · rcases st.own with ⟨q, a, b, p⟩ | ⟨T, f, o, q, e, nT⟩
    · exact .inl ⟨at_ _ _ (O.ne (by simp)) q, a, b, at_ _ _ (O.ne (by simp)) p⟩
    · exact .inr ⟨T, f, o, at_ _ _ (O.ne (by simp)) q, at_ T o (fun m => nT (by simp [m])) e, nT⟩
  · obtain ⟨x, y, f1, f2, f3⟩ := st.pr j a e
    exact ⟨x, y, f1, f2, at_ a _ (Nat.ne_of_gt (st.up a (List.mem_of_getElem? e))) f3⟩
end
section
variable {prog : Program} {w : World} {A : Around} {z TI TO i1 i2 l1 l2 S : Addr} {xs ys : Array Value} {h0 : Heap}
theorem ZS.of {s : Shared} (O : Own z TI TO i1 i2 l1 l2 S) (free : IsZip s.heap z TI TO .none) (pi : IsPair s.heap TI (.ref i1) (.ref i2)) {a b : Value} (po : IsPair s.heap TO a b) (j1 : s.heap.IsTupleIter i1 l1 0) (j2 : s.heap.IsTupleIter i2 l2 0) (t1 : s.heap.IsTuple l1 xs) (t2 : s.heap.IsTuple l2 ys) {h : Heap} (k : ∀ b o, b < S → s.heap.get? b = some o → h.get? b = some o) :
    ZS z TI TO i1 i2 l1 l2 S xs ys s.heap 0 h [] := by
  have at_ : ∀ b ∈ [z, TI, TO, i1, i2, l1, l2], ∀ o, s.heap.get? b = some o → h.get? b = some o := fun b m o => k b o (O.lo b m)
  exact ⟨rfl, at_ _ (by simp) _ pi, j1.at fun o => at_ i1 (by simp) o, j2.at fun o => at_ i2 (by simp) o, t1.at fun o => at_ l1 (by simp) o, t2.at fun o => at_ l2 (by simp) o, .inl ⟨at_ _ (by simp) _ free, a, b, at_ _ (by simp) _ po⟩, by simp, by simp, by simp, fun b o lt _ => k b o lt⟩
end
end ZipL
namespace L2
open PySem PySem.Spec PyProof.Rows
def pairsAt (H : Hp) (as : List Addr) (m : List (V × V)) : Hp := fun b => match (as.zip m).lookup b with
  | some q => some (.tup [q.1, q.2])
  | none => H b
theorem look_off : ∀ {as : List Addr} {m : List (V × V)} {b : Addr}, b ∉ as → (as.zip m).lookup b = none
  | [], _, _, _ => rfl
  | _ :: _, [], _, _ => rfl
  | a :: as, q :: m, b, h => by
    rw [List.zip_cons_cons, List.lookup_cons, beq_eq_false_iff_ne.mpr fun e => h (by simp [e])]
    exact look_off fun z => h (by simp [z])
theorem look_at : ∀ {as : List Addr} {m : List (V × V)}, as.Nodup → ∀ (j : Nat) (a : Addr) (q : V × V), as[j]? = some a → m[j]? = some q → (as.zip m).lookup a = some q
  | [], _, _, j, a, q, e, _ => by simp at e
  | _ :: _, [], _, j, a, q, _, e => by simp at e
  | c :: as, p :: m, nd, j, a, q, e1, e2 => by
    obtain ⟨n1, n2⟩ := List.nodup_cons.mp nd
    rw [List.zip_cons_cons, List.lookup_cons]
    cases j with
    | zero =>
      simp at e1 e2
      subst e1
      subst e2
      simp
    | succ j =>
      have e1 : as[j]? = some a := by simpa using e1
      have : (a == c) = false := beq_eq_false_iff_ne.mpr fun z => n1 (z ▸ List.mem_of_getElem? e1)
      rw [this]
      exact look_at n2 j a q e1 (by simpa using e2)
theorem paired_of {α β : Type} {F : α → β → Prop} : ∀ {as : List α} {m : List β}, as.length = m.length → (∀ (j : Nat) (a : α) (q : β), as[j]? = some a → m[j]? = some q → F a q) → Paired F as m
  | [], [], _, _ => .nil
  | [], _ :: _, h, _ => nomatch h
  | _ :: _, [], h, _ => nomatch h
  | _ :: _, _ :: _, h, k => .cons (k 0 _ _ rfl rfl) (paired_of (Nat.succ.inj h) fun j a q e1 e2 => k (j + 1) a q (by simpa using e1) (by simpa using e2))
theorem Inv.pairs {X : Cx} {pins : List (Addr × Obj)} {σ : St} {H : Hp} {s : Shared} {h' : Heap} {tk : Nat} {p : Addr} {as : List Addr} {m : List (V × V)} {c : Nat} (I : Inv X pins σ H s) (k : ∀ b ob, s.heap.get? b = some ob → h'.get? b = some ob) (np : s.heap.objs.size ≤ p) (na : ∀ a ∈ as, p < a) (nd : as.Nodup)
    (at_ : h'.get? p = some (seqObj "list" (as.map Value.ref).toArray c)) (len : as.length = m.length) (few : m.length ≤ sizeLine) (tw : ∀ (j : Nat) (a : Addr) (q : V × V), as[j]? = some a → m[j]? = some q → ∃ x y : Value, RelV q.1 x ∧ RelV q.2 y ∧ IsPair h' a x y) :
    ∃ H' : Hp, (∀ b o, H b = some o → H' b = some o) ∧ H p = none ∧ (∀ a ∈ as, H a = none) ∧ H' p = some (.lst (as.map V.ref)) ∧ Paired (fun (a : Addr) (q : V × V) => H' a = some (.tup [q.1, q.2])) as m ∧ Inv X pins σ H' { s with heap := h', toks := tk } := by
  have pn : p ∉ as := fun z => Nat.lt_irrefl _ (na p z)
  have fp : H p = none := I.hok.fresh np
  have fa : ∀ a ∈ as, H a = none := fun a z => I.hok.fresh (Nat.le_trans np (Nat.le_of_lt (na a z)))
  have off : ∀ b, b ∉ as → b ≠ p → pairsAt (upd H p (.lst (as.map V.ref))) as m b = H b := fun b h1 h2 => by
    unfold pairsAt
    rw [look_off h1]
    exact upd_ne h2
  have atP : pairsAt (upd H p (.lst (as.map V.ref))) as m p = some (.lst (as.map V.ref)) := by
    unfold pairsAt
    rw [look_off pn]
    exact upd_same
  have atA : ∀ (j : Nat) (a : Addr) (q : V × V), as[j]? = some a → m[j]? = some q → pairsAt (upd H p (.lst (as.map V.ref))) as m a = some (.tup [q.1, q.2]) := fun j a q e1 e2 => by
    unfold pairsAt
    rw [look_at nd j a q e1 e2]
  generalize pairsAt (upd H p (.lst (as.map V.ref))) as m = N at off atP atA
  have kp : ∀ b o, H b = some o → N b = some o := fun b o e => (off b (fun z => by rw [fa b z] at e; cases e) (fun z => by rw [z, fp] at e; cases e)).trans e
  have low : ∀ b ob, s.heap.get? b = some ob → b ∉ as ∧ b ≠ p := fun b ob e => by
    have lt : b < p := Nat.lt_of_lt_of_le (Heap.lt_size e) np
    exact ⟨fun z => Nat.lt_asymm lt (na b z), Nat.ne_of_lt lt⟩
  refine ⟨N, kp, fp, fa, atP, paired_of len atA, I.call' (ch := []) rfl ⟨fun b o e _ _ _ => k b o e, fun b o e _ _ _ => ⟨o.slots, k b o e⟩, fun b o e n _ => (off b (low b o e).1 (low b o e).2).trans n, fun b o e _ => ⟨o, k b o e⟩, fun b xs e => kp b _ e, fun b o u e => kp b _ e, fun b ps e => ⟨#[], by rw [kp b _ e]; simp⟩⟩ (fun b u e => ?_) I.bare fun b z => nomatch z⟩
  by_cases hb : b ∈ as
  · obtain ⟨j, e1⟩ := List.getElem?_of_mem hb
    have lt : j < m.length := len ▸ (List.getElem?_eq_some_iff.mp e1).1
    have e2 := List.getElem?_eq_getElem lt
    obtain ⟨x, y, r1, r2, ip⟩ := tw j b _ e1 e2
    cases (atA j b _ e1 e2).symm.trans e
    exact ⟨by show 2 ≤ sizeLine; decide, [x, y], .cons r1 (.cons r2 .nil), _, ip, rfl, _, rfl⟩
  · by_cases hp : b = p
    · cases atP.symm.trans (hp ▸ e)
      exact ⟨by rw [List.length_map, len]; exact few, as.map Value.ref, c, LiI.vals_refs as, hp ▸ at_⟩
    · exact (I.hok b u ((off b hb hp).symm.trans e)).stay (fun d v _ y => k d v y) (fun d y => kp d _ y) fun d xs y => kp d _ y
end L2
namespace L2
open PySem PySem.Spec PyProof.Rows
end L2
namespace MI
open PySem PySem.Spec PyProof.Rows L2
section
variable {X : Cx} {G : Gx} {W : WX} {a b : Expr} {dr : DenL}
end
section
variable {E : EX} {S : Store} {Q : MV → Store → Prop}
end
end MI
set_option Elab.async false
set_option linter.all false
set_option maxRecDepth 100000
set_option maxHeartbeats 2000000
/-! texts: str(x), sep.join(xs), z.split(sep); defs with a star parameter and their calls; what is never reached -/
namespace MI
open PySem PySem.Spec PyProof.Rows L2
/-! ### str(x) -/
def fStrOf : FnM := fun ws S => match ws with
  | [.int i] => if decide (i.natAbs < 2 ^ 64) = true then .ok (.str (toString i)) S else .stuck
  | [.str z] => .ok (.str z) S
  | _ => .stuck
section
variable {X : Cx} {G : Gx} {W : WX} {a b : Expr} {es : List Expr} {da db : Den} {dr : DenL} {pos p apos : Pos}
theorem log_small {n : Nat} (h : n < 2 ^ 64) : n.log2 < 1920 := by
  by_cases z : n = 0
  · subst z
    decide
  · exact Nat.lt_trans ((Nat.log2_lt z).mpr h) (by decide)
theorem w_strOf : ClW G fStrOf (fun xs H Q => (∃ i, xs = [.int i] ∧ i.natAbs.log2 < 1920 ∧ Q (.str (toString i)) H) ∨ ∃ z, xs = [.str z] ∧ Q (.str z) H) := fun ι H S E Q ws vs s r h => by
  unfold fStrOf at h
  split at h
  · obtain ⟨v, rfl, r1⟩ := rws1 r
    cases r1
    split at h
    · rename_i hz
      exact .inl ⟨_, rfl, log_small (of_decide_eq_true hz), h ι H (.refl s) _ (.str _)⟩
    · exact h.elim
  · obtain ⟨v, rfl, r1⟩ := rws1 r
    cases r1
    exact .inr ⟨_, rfl, h ι H (.refl s) _ (.str _)⟩
  · exact h.elim
theorem de_strOf (hg : Gl X "str") (hm : X.mg "str" = none) (ha : DA X G W (a :: es) dr)
    (he : starEach (a :: es) X.env = (false, eval a X.env) :: starEach es X.env := by rfl) (hpl : (backTo pos (starEach es X.env)).any (·.1) = false := by rfl) : DE X G W (.Call (.Name "str" p) (a :: es) [] pos) (dCall fStrOf dr) :=
  de_callTy (call_str_int.or SkE.call_str_str) w_strOf hg hm (by decide +kernel) ha (by decide) (by decide) he hpl
/-! ### z.split(sep), sep.join(xs) -/
def dTx (f : Str → MV → Store → Res MV) (o e : Den) : Den := fun ρ S => (o ρ S).bind fun w S1 => match w with
  | .str z => (e ρ S1).bind fun y S2 => f z y S2
  | _ => .stuck
def TxW (G : Gx) (f : Str → MV → Store → Res MV) (r : V → List V → Hp → VK → Prop) : Prop := ∀ (ι : List Addr) (H : Hp) (S : Store) (E : Value → Option Addr → Hp → Prop) (Q : VK) (z : Str) (w : MV) (v : V), Sim G ι H S → RW G ι H w v → fin G ι H E (PV G Q) (f z w S) → r (.str z) [v] H Q
theorem tx_imp {f : Str → MV → Store → Res MV} {r : V → List V → Hp → VK → Prop} (hw : TxW G f r) {σ : L2.St} {H : Hp} {Q : VK} (h : tD G W (dTx f da db) σ H Q) : tM1 r (tD G W da) (tD G W db) σ H Q := by
  obtain ⟨ι, S, ρ, s, re, h⟩ := h
  refine ⟨ι, S, ρ, s, re, (fin.bind h).mono fun w ι1 H1 S1 p _ h1 v r1 => ?_⟩
  obtain ⟨S1, s1, _, re1, _, h1⟩ := h1
  split at h1
  · cases r1
    refine ⟨⟨_, rfl⟩, ι1, S1, ρ, s1, re1 _ _ re, (fin.bind h1).mono fun y ι2 H2 S2 p2 _ h2 v2 r2 => ?_⟩
    obtain ⟨S2, s2, _, _, _, h2⟩ := h2
    exact hw ι2 H2 S2 _ Q _ y v2 s2 r2 h2
  · exact h1.elim
def fSplitB (z : Str) (w : MV) (S : Store) : Res MV := match w with
  | .str b => if decide ((b.length == 0) = false) && decide (z.length ≤ 90000) then .ok (.ref S.length) (S ++ [.lst ((Txt.split z b).map .str)]) else .stuck
  | _ => .stuck
theorem rws_texts {ι : List Addr} {H : Hp} : ∀ l : List Str, RWs G ι H (l.map .str) (l.map .str)
  | [] => .nil
  | z :: l => .cons (.str z) (rws_texts l)
theorem w_splitB : TxW G fSplitB (fun x xs H Q => ∃ a b, x = .str a ∧ xs = [.str b] ∧ (b.length == 0) = false ∧ a.length + 2 ≤ sizeLine ∧ rNewStrs (Txt.split a b) H Q) := fun ι H S E Q z w v s r h => by
  unfold fSplitB at h
  split at h
  · cases r
    split at h
    · rename_i hz
      rw [Bool.and_eq_true] at hz
      have h2 := of_decide_eq_true hz.2
      exact ⟨_, _, rfl, rfl, of_decide_eq_true hz.1, by rw [sizeLine_eq]; omega, new_lst s (rws_texts _) h⟩
    · exact h.elim
  · exact h.elim
theorem de_split (ho : DE X G W a da) (hb : DE X G W b db) (hs : starEach [b] X.env = [(false, eval b X.env)] := by rfl) (hbase : attributeBase a "split" X.env (eval a X.env) = eval a X.env := by rfl) (hline : (apos.endLine == pos.line) = true := by rfl) :
    DE X G W (.Call (.Attribute a "split" apos) [b] [] pos) (dTx fSplitB da db) := ⟨PE.imp (pe_split ho.run hb.run hs hbase hline) fun _ _ _ h => tx_imp w_splitB h⟩
def textsM : List MV → Option (List Str)
  | [] => some []
  | .str z :: l => (textsM l).map (z :: ·)
  | _ :: _ => none
theorem texts_ok : ∀ {l : List MV} {ys : List Str}, textsM l = some ys → l = ys.map .str
  | [], _, h => by cases h; rfl
  | .str z :: l, ys, h => by
    unfold textsM at h
    cases e : textsM l with
    | none =>
      rw [e] at h
      cases h
    | some ys' =>
      rw [e] at h
      cases h
      rw [texts_ok e]
      rfl
  | .non :: _, _, h => by cases h
  | .bl _ :: _, _, h => by cases h
  | .int _ :: _, _, h => by cases h
  | .tup _ :: _, _, h => by cases h
  | .ref _ :: _, _, h => by cases h
  | .out _ :: _, _, h => by cases h
theorem rws_back_texts {ι : List Addr} {H : Hp} : ∀ {ys : List Str} {vs : List V}, RWs G ι H (ys.map .str) vs → vs = ys.map .str
  | [], _, r => by cases r; rfl
  | z :: ys, _, r => by
    cases r with
    | cons r1 r2 =>
      cases r1
      rw [rws_back_texts r2]
      rfl
def fJoinB (z : Str) (w : MV) (S : Store) : Res MV := match itemsOf w S with
  | some l => match textsM l with
    | some ys => if decide ((ys.map (·.length)).sum + ys.length * z.length ≤ 16777216) = true then .ok (.str (Txt.join z ys)) S else .stuck
    | none => .stuck
  | none => .stuck
theorem w_joinB : TxW G fJoinB (fun x xs H Q => ∃ a p, ∃ ys : List Str, x = .str a ∧ xs = [.ref p] ∧ (SqL G.K H p (ys.map V.str) ∨ SqT G.K H p (ys.map V.str)) ∧ (ys.map (·.length)).sum + ys.length * a.length ≤ 16777216 ∧ Q (.str (Txt.join a ys)) H) := fun ι H S E Q z w v s r h => by
  unfold fJoinB at h
  split at h
  · rename_i l hl
    split at h
    · rename_i ys hy
      split at h
      · rename_i hz
        obtain ⟨x, us, rfl, t, q⟩ := items_ok s r hl
        rw [texts_ok hy] at q
        have e := rws_back_texts q
        subst e
        exact ⟨_, _, ys, rfl, rfl, t, of_decide_eq_true hz, h ι H (.refl s) _ (.str _)⟩
      · exact h.elim
    · exact h.elim
  · exact h.elim
theorem de_join (hK : X.K = G.K) (ho : DE X G W a da) (hb : DE X G W b db) (hs : starEach [b] X.env = [(false, eval b X.env)] := by rfl) (hbase : attributeBase a "join" X.env (eval a X.env) = eval a X.env := by rfl) (hline : (apos.endLine == pos.line) = true := by rfl) :
    DE X G W (.Call (.Attribute a "join" apos) [b] [] pos) (dTx fJoinB da db) := ⟨PE.imp (pe_join ho.run hb.run hs hbase hline) fun _ _ _ h => tx_imp (by rw [hK]; exact w_joinB) h⟩
end
/-! ### a def with a star parameter alone -/
def mkFnS (N : Nat) (body : DenS) : FnM := fun ws S => if ws.length ≤ 100000 then mkFn 1 N body [.tup ws] S else .stuck
section
variable {P : Program} {w : World} {K : PySem.W.Frag} {mg : Str → Option Value} {base : Heap} {G : Gx}
theorem fn_okS {x qual : Str} {st : Stmt} {f : Addr} {fd : FuncData} {N : List Str} {pv : Str} {k : Nat} {body : DenS} (F : Fun K x qual st f fd) (S : FnScope N ([] ++ [pv]) (defScope st))
    (hbind : ∀ (kV doc pm : Value) (an : Option Addr) (cdv ct : Value) (us rest : List Value), us.length = ([] : List Str).length → bindArgs (PySem.W.fnOf x qual (defArgs st) (defBody st) (defScope st) .none kV doc pm an cdv ct) ⟨us ++ rest, []⟩ = (newTuple rest >>= fun t => pure (([] : List Str).zip us ++ [(pv, t)])))
    (hb : ∀ (cdv : Value) (A : Around) (outer : List Env) (s : Shared) (H : Hp) (E : XK), Room k (A.deeper (envOfC qual (defScope st) s.heap.objs.size f cdv)) → DSs (cxOf (L2.CX P w) P w K mg base N qual (defScope st) f cdv A outer s H E) G (fun cls d _ H => E cls d H) (defBody st) body) (hdy : G.dyn = [] := by rfl) :
    FnR P w K mg base (L2.CX P w) (k + 1) f (spF G (mkFnS N.length body)) := by
  obtain ⟨oc, od, kV, dc, pm, an, cdv, ct, osl, rfl, lk, hcd⟩ := F.ex
  have base0 := StX.fn_star (base := base) (P := P) (w := w) (mg := mg) (k := k) (sp := fun vs H Q E => ∃ ι S ws, Sim G ι H S ∧ RWs G ι H ws vs ∧ fin G ι H E (PV G Q) (mkFn 1 N.length body ws S)) lk hcd S (StX.cxUp (P := P) (w := w)) (hbind kV dc pm an cdv ct) fun A outer s H vs Q E hr h => ?_
  · intro A outer s H us vs Q E hr e0 r h
    refine base0 A outer s H us vs Q E hr e0 r ?_
    obtain ⟨ι, S0, ws, s0, q, h⟩ := h
    unfold mkFnS at h
    split at h
    · rename_i hl
      refine ⟨[], vs, rfl, rfl, by rw [← q.length]; exact big_ok hl, fun p hp => ?_⟩
      have post := s0.lay hp (.tup vs)
      exact ⟨ι, S0, [.tup ws], post.sim, .cons (.tup (.of upd_same) (post.rws q)) .nil, fin.later post h⟩
    · exact h.elim
  · refine ⟨_, (hb cdv A outer s H E hr).run, ?_⟩
    obtain ⟨ι, S0, ws, s0, q, h⟩ := h
    refine ⟨ι, S0, _, s0, re_start q hdy, ?_⟩
    unfold mkFn at h
    split at h
    · rename_i hl
      rw [hl]
      cases e : body (ws.map some ++ List.replicate (N.length - 1) none) S0 with
      | err c fs S' => rw [hl, e] at h; exact h.elim
      | stuck => rw [hl, e] at h; exact h.elim
      | ok fl S' =>
        rw [hl, e] at h
        cases fl with
        | next ρ => exact fun ι' H' p σ' _ => gc_ok s0 p .non h
        | ret w' => exact fun ι' H' p v r' => gc_ok s0 p r' h
        | brk ρ => exact h.elim
        | cont ρ => exact h.elim
        | exc c fs ρ => exact fun ι' H' p σ' cls d _ q => h ι' H' cls d p q
    · exact h.elim
end
def okOnly {α : Type} : Res α → Res α
  | .ok a S => .ok a S
  | _ => .stuck
def dCallR (g : FnM) (r : DenL) : Den := fun ρ S => (r ρ S).bind fun ws S1 => okOnly (g ws S1)
section
variable {X : Cx} {G : Gx} {W : WX} {a : Expr} {es : List Expr} {da : Den} {dr : DenL} {pos p : Pos}
theorem okOnly_fin {ι : List Addr} {H : Hp} {E E' : Value → Option Addr → Hp → Prop} {P : MV → List Addr → Hp → Prop} {r : Res MV} (h : fin G ι H E P (okOnly r)) : fin G ι H E' P r := by
  cases r with
  | ok a S => exact h
  | err c fs S => exact h.elim
  | stuck => exact h
theorem callR_imp {g : FnM} {σ : L2.St} {H : Hp} {Q : VK} (h : tD G W (dCallR g dr) σ H Q) : tDs G W dr σ H fun vs H1 => spF G g vs H1 Q fun _ _ _ => False := by
  obtain ⟨ι, S, ρ, s, re, h⟩ := h
  refine ⟨ι, S, ρ, s, re, (fin.bind h).mono fun ws ι1 H1 S1 p _ h1 vs r => ?_⟩
  obtain ⟨S1, s1, _, _, _, h1⟩ := h1
  exact ⟨ι1, S1, ws, s1, r, okOnly_fin h1⟩
theorem de_callR0 {k : Nat} {f : Addr} {g : FnM} {x : Str} (F : FnR X.prog X.w X.K X.mg X.base (L2.CX X.prog X.w) k f (spF G g)) (hr : Room k X.A) (hg : Gl X x) (hm : X.mg x = some (.ref f)) (hk : PySem.W.keepIn X.K (.ref f) = true) (hx : Passes (L2.CX X.prog X.w) X (fun _ _ _ => False)) (ha : DA X G W (a :: es) dr)
    (hdb : (x == ("__debug__" : Str)) = false := by decide) (he : starEach (a :: es) X.env = (false, eval a X.env) :: starEach es X.env := by rfl) (hpl : (backTo pos (starEach es X.env)).any (·.1) = false := by rfl) :
    DE X G W (.Call (.Name x p) (a :: es) [] pos) (dCallR g dr) :=
  ⟨⟨fun pins s σ H Q I h => wpAny_Call_Name_kw (ld_glob I hg hm (PySem.W.callWith_K (h₀ := X.base) I.ok.mod.kin hk (thn (ha.run.run pos pins s σ _ _ I (callR_imp h)) fun us s2 ⟨vs, H2, I2, r, q⟩ => ⟨I2.kIn, wpAny_call (run_fnR F hr hx I2 r q)⟩) he hpl) hdb)⟩⟩
theorem de_callR2 {k : Nat} {f : Addr} {g : FnM} {x : Str} (F : FnR X.prog X.w X.K X.mg X.base (L2.CX X.prog X.w) k f (spF G g)) (hr : Room k X.A) (hg : Gl X x) (hm : X.mg x = some (.ref f)) (hk : PySem.W.keepIn X.K (.ref f) = true) (hx : Passes (L2.CX X.prog X.w) X (fun _ _ _ => False)) (ha : DA X G W (a :: es) dr)
    (hdb : (x == ("__debug__" : Str)) = false := by decide) (he : starEach (a :: es) X.env = (false, eval a X.env) :: starEach es X.env := by rfl) (hst : (backTo pos (starEach es X.env)).any (·.1) = true := by rfl) :
    DE X G W (.Call (.Name x p) (a :: es) [] pos) (dCallR g dr) := ⟨PE.imp (StX.pe_callS2 F hr hk hg hm hx ha.run hdb he hst) fun _ _ _ h => callR_imp h⟩
def dCallR1 (g : FnM) (d : Den) : Den := fun ρ S => (d ρ S).bind fun w S1 => match itemsOf w S1 with
  | some l => okOnly (g l S1)
  | none => .stuck
theorem de_callR1 {k : Nat} {f : Addr} {g : FnM} {x : Str} {sp_ : Pos} (hK : X.K = G.K) (F : FnR X.prog X.w X.K X.mg X.base (L2.CX X.prog X.w) k f (spF G g)) (hr : Room k X.A) (hg : Gl X x) (hm : X.mg x = some (.ref f)) (hk : PySem.W.keepIn X.K (.ref f) = true) (hx : Passes (L2.CX X.prog X.w) X (fun _ _ _ => False)) (ha : DE X G W a da)
    (hdb : (x == ("__debug__" : Str)) = false := by decide) (hst : starEach [.Starred a sp_] X.env = [(true, eval a X.env)] := by rfl) :
    DE X G W (.Call (.Name x p) [.Starred a sp_] [] pos) (dCallR1 g da) := ⟨PE.imp (StX.pe_callS1 F hr hk hg hm hx ha.run hdb hst) fun σ H Q h => by
  obtain ⟨ι, S, ρ, s, re, h⟩ := h
  refine ⟨ι, S, ρ, s, re, (fin.bind h).mono fun w ι1 H1 S1 p _ h1 v r => ?_⟩
  obtain ⟨S1, s1, _, _, _, h1⟩ := h1
  split at h1
  · rename_i l e
    obtain ⟨x, us, rfl, t, q⟩ := items_ok s1 r e
    exact ⟨x, us, rfl, by rw [hK]; exact t.symm, ι1, S1, l, s1, q, okOnly_fin h1⟩
  · exact h1.elim⟩
end
section
variable {E : EX} {S : Store} {ρ : Env'} {Q : MV → Store → Prop}
end
end MI
set_option Elab.async false
set_option linter.all false
set_option maxRecDepth 100000
set_option maxHeartbeats 2000000
/-! enumerate(x, start=k) of a list or a tuple; int of a text -/
namespace MI
open PySem PySem.Spec PyProof.Rows L2
structure Rowy (K : PySem.W.Frag) (a : Addr) where
  sq : Hp → List V → Prop
  isn : Heap → Array Value → Prop
  stand : Heap → Addr → Nat → Prop
  draw : ∀ (pg : Program) (w : World) (A : Around) (j : Addr), A.handled = none → a ≠ j → ∀ zs : Array Value, Draws pg w A j [j, a] zs.size (fun i v => zs[i]? = some v) (fun i h => stand h j i ∧ isn h zs)
  cell : ∀ (h : Heap) (j : Addr) (i : Nat), stand h j i → ∃ o, h.get? j = some o ∧ ∀ v, o.data ≠ .cell v
  on : ∀ (h h' : Heap) (j : Addr) (i : Nat), (∀ o, h.get? j = some o → h'.get? j = some o) → stand h j i → stand h' j i
  told : ∀ (X : Cx) (pins : List (Addr × Obj)) (σ : L2.St) (H : Hp) (s : Shared), X.K = K → Inv X pins σ H s → ∀ xs, sq H xs → ∃ us : List Value, Vals xs us ∧ isn s.heap us.toArray
  one : ∀ (X : Cx) (pins : List (Addr × Obj)) (σ : L2.St) (H : Hp) (s : Shared), X.K = K → Inv X pins σ H s → ∀ xs ys, sq H xs → sq H ys → xs = ys
def rowL (K : PySem.W.Frag) (a : Addr) : Rowy K a where
  sq := fun H => SqL K H a
  isn := fun h => h.IsList a
  stand := fun h j => h.IsListIter j a
  draw := fun _ _ _ j hh n zs => Draws.list hh j a n zs
  cell := fun _ _ _ ⟨o, e, _, d⟩ => ⟨o, e, fun _ k => by rw [d] at k; cases k⟩
  on := fun _ _ _ _ k ⟨o, e, r⟩ => ⟨o, k o e, r⟩
  told := fun X _ _ _ _ hK I _ q => by
    subst hK
    obtain ⟨us, r, p, _⟩ := I.list q
    exact ⟨us, r, p.isList⟩
  one := fun X _ _ _ _ hK I _ _ q q' => by
    subst hK
    exact I.list_inj q q'
def rowT (K : PySem.W.Frag) (a : Addr) : Rowy K a where
  sq := fun H => SqT K H a
  isn := fun h => h.IsTuple a
  stand := fun h j => h.IsTupleIter j a
  draw := fun _ _ _ j hh n zs => Draws.tuple hh j a n zs
  cell := fun _ _ _ ⟨o, e, _, d⟩ => ⟨o, e, fun _ k => by rw [d] at k; cases k⟩
  on := fun _ _ _ _ k ⟨o, e, r⟩ => ⟨o, k o e, r⟩
  told := fun X _ _ _ _ hK I _ q => by
    subst hK
    obtain ⟨us, r, p, _⟩ := I.tuple q
    exact ⟨us, r, p⟩
  one := fun X _ _ _ _ hK I _ _ q q' => by
    subst hK
    exact I.tuple_inj q q'
def IteZ {K : PySem.W.Frag} {a : Addr} (Z : Rowy K a) (k : Int) : It where
  go := fun i H => ∃ xs x, Z.sq H xs ∧ xs[i]? = some x
  yld := fun i H v H' => ∃ T x, (∀ xs, Z.sq H xs → xs[i]? = some x) ∧ H T = none ∧ v = .ref T ∧ H' = upd H T (.tup [.int (k + (i : Nat)), x])
  stop := fun i H => ∃ xs : List V, Z.sq H xs ∧ xs.length = i
theorem turn_enumZ {P : Program} {w : World} {K : PySem.W.Frag} {a : Addr} (Z : Rowy K a) {es : List Expr} {kk : Nat} {tp : Pos} (e j : Addr) (k : Int) (d1 : a ≠ j) (d2 : a ≠ e) (d3 : e ≠ j) :
    Turn P w K (.Tuple es kk tp) (IteZ Z k) [e, j] e (fun i h => (∃ v, IsEnum h e j (k + (i : Nat)) v) ∧ Z.stand h j i) := by
  have two : ∀ b, b ∈ [e, j] → b = e ∨ b = j := fun b hb => by
    rcases List.mem_cons.mp hb with m | m
    · exact .inl m
    · exact .inr (List.mem_singleton.mp m)
  refine ⟨List.mem_cons_self, fun i h st b hb => ?_, fun i h h' st k' => ?_, ?_, ?_, fun _ i s Q E st h => wpAny_pyIter_enum st.1.choose_spec h⟩
  · rcases two b hb with z | z <;> rw [z]
    · exact ⟨_, st.1.choose_spec, fun _ q => nomatch q⟩
    · exact Z.cell _ _ _ st.2
  · exact ⟨⟨_, k' e List.mem_cons_self _ st.1.choose_spec⟩, Z.on _ _ _ _ (k' j (List.mem_cons_of_mem _ List.mem_cons_self)) st.2⟩
  · intro X e1 e2 e3 calm i pins s σ H E I free st go
    subst e1 e2
    obtain ⟨⟨v0, hv⟩, hj⟩ := st
    obtain ⟨xs, x, q, hx⟩ := go
    obtain ⟨us, rs, hn⟩ := Z.told X pins σ H s e3 I xs q
    obtain ⟨u, hu, r⟩ := rs.get hx
    have in_ : i < us.toArray.size := by
      rw [List.size_toArray]
      exact (List.getElem?_eq_some_iff.mp hu).1
    refine wpAny_pyNext_enum_itemC (Z.draw X.prog X.w X.A.in1 j (I.ok.hd calm) d1 us.toArray) hv ⟨hj, hn⟩ in_ d3 (fun z => ?_) fun y h1 tk hy out st1 new1 _ same => ⟨_, rfl, ?_⟩
    · rcases List.mem_cons.mp z with y | y
      · exact d3 y
      · exact d2 (List.mem_singleton.mp y).symm
    have hy : us.toArray[i]? = some y := hy
    rw [List.getElem?_toArray, hu] at hy
    cases hy
    refine wpAny_letOwnedTupleGo_enum (s := { s with heap := h1, toks := tk + 1 }) out fun h2 hv2 but => ?_
    have pr := (but.2 _ (Nat.ne_of_gt (Heap.lt_size hv))).trans new1
    have I2 : Inv X pins σ (upd H s.heap.objs.size (.tup [.int (k + (i : Nat)), x])) { s with heap := h2, toks := tk + 1 } :=
      I.turnedNew (t' := tk + 1) (ch := [e, j]) (fun b ob hb q => (but.2 b fun z => hb (z ▸ List.mem_cons_self)).trans (same b ob (fun z => hb (z ▸ List.mem_cons_self)) (fun z => hb (z ▸ List.mem_cons_of_mem _ List.mem_cons_self)) q)) free (Nat.le_refl _)
        ⟨(by decide : 2 ≤ sizeLine), [.int (k + (i : Nat)) tk, u], .cons ⟨_, rfl⟩ (.cons r .nil), _, pr, rfl, _, rfl⟩
    refine ⟨.ref s.heap.objs.size, _, I2, rfl, ⟨_, x, fun ys hys => ?_, I.hok.fresh (Nat.le_refl _), rfl, rfl⟩, ⟨⟨u, ?_⟩, Z.on _ _ _ _ (fun o q => (but.2 j (Ne.symm d3)).trans q) st1.1⟩, fun b hb => ?_⟩
    · rw [← Z.one X pins σ H s e3 I xs ys q hys]
      exact hx
    · rw [show k + ((i + 1 : Nat) : Int) = k + (i : Nat) + 1 by omega]
      exact hv2
    · have below : b < s.heap.objs.size := by
        rcases two b hb with z | z <;> rw [z]
        · exact Heap.lt_size hv
        · exact Heap.lt_size (Z.cell _ _ _ hj).choose_spec.1
      exact (upd_ne (Nat.ne_of_lt below)).trans (free b hb).1
  · intro X e1 e2 e3 calm i pins s σ H E I free st over
    subst e1 e2
    obtain ⟨⟨v0, hv⟩, hj⟩ := st
    obtain ⟨xs, q, hl⟩ := over
    obtain ⟨us, rs, hn⟩ := Z.told X pins σ H s e3 I xs q
    have hz : us.toArray.size = i := by rw [List.size_toArray, ← rs.length, hl]
    refine wpAny_pyNext_enum_endD (Z.draw X.prog X.w X.A.in1 j (I.ok.hd calm) d1 us.toArray) hv ⟨by rw [hz]; exact hj, hn⟩ fun h1 but => ⟨rfl, ?_⟩
    exact I.turnedL (t' := s.toks) (ch := [j]) (fun b o hb q => but b o (fun z => hb (z ▸ List.mem_cons_self)) q) fun b hb => free b (List.mem_cons_of_mem _ hb)
theorem withTyKw {M : Model} {A : Around} {E : Value → Shared → Prop} {s : Shared} {pos : Pos} {T : String} {first : List Value} {args : List (Bool × Sem Value)} {kws : List (Option Str × Sem Value)} {Q : Value → Shared → Prop}
    (ha : args.any (·.1) = false) (hw : kws.any (·.1.isNone) = false) (h : wpAny M A (evalArgs (.type T) true args kws) (fun a s1 => wpAny M A (call (.type T) (first ++ a.pos) a.kw) Q E s1) E s) : wpAny M A (callWith pos (.type T) first args kws) Q E s := by
  unfold callWith
  refine wpAny_bind (wpAny_holding (wpAny_mono h (fun a s1 h1 => wpAny_bind (wpAny_standAt ?_)) fun _ _ z => z))
  rw [ha, hw]
  exact wpAny_bind (wpAny_pure (wpAny_bind (wpAny_mono h1 (fun r s2 q => wpAny_bind (wpAny_holding (wpAny_point (wpAny_pure q)))) fun _ _ z => z)))
def iEnumS (K : PySem.W.Frag) (k : Int) (ta : TE) : TI := fun σ H R => ta σ H fun v H1 => ∃ a xs, v = .ref a ∧ (SqL K H1 a xs ∧ R (IteZ (rowL K a) k) H1 ∨ SqT K H1 a xs ∧ R (IteZ (rowT K a) k) H1)
theorem pi_enumS {X : Cx} {e : Expr} {ta : TE} {p pos tpos cpos kp : Pos} {elts : List Expr} {kk j : Nat} {k : Int} (hg : Gl X "enumerate") (hm : X.mg "enumerate" = none) (h0 : -(2 ^ 63) ≤ k) (h1 : k < 2 ^ 63) (ha : PE X e ta) (hs : starEach [e] X.env = [(false, eval e X.env)] := by rfl) :
    PI X (.Tuple elts kk tpos) (.Call (.Name "enumerate" p) [e] [⟨some "start", .Constant (.int k) j cpos, kp⟩] pos) (iEnumS X.K k ta) := by
  constructor
  intro pins s σ H R I h
  refine wpAny_Call_Name_kw (ld_blt I hg hm boot_enumerate (withTyKw ?_ rfl ?_))
  · rw [hs]
    rfl
  rw [hs]
  refine evalArgs_kwB rfl (PySem.Calls.spliced_cons (thn (ha.run pins s σ H _ I h) fun u s1 hh => PySem.Calls.spliced_nil ?_))
  obtain ⟨v, H1, I1, r1, a, xs, rfl, q1⟩ := hh
  refine kws_cons (thn (pe_int.run pins s1 σ H1 (fun v2 H2 => v2 = .int k ∧ H2 = H1) I1 ⟨rfl, rfl⟩) fun n s2 hh => kws_nil ?_)
  obtain ⟨v2, H2, I2, r2, rfl, rfl⟩ := hh
  obtain ⟨tk, rfl⟩ := r2
  cases r1
  have main : ∀ (Z : Rowy X.K a) (o : Obj) (P : Heap → Prop) (B : Begins (.ref a) o P), P s2.heap → a < s2.heap.objs.size → (∀ h', h'.get? s2.heap.objs.size = some o → Z.stand h' s2.heap.objs.size 0) → R (IteZ Z k) H2 →
      wpAny (model X.prog X.w) X.A (call (.type "enumerate") [.ref a] [("start", .int k tk)]) (fun v s3 => wpAny (model X.prog X.w) X.A (pyIter v) (PIE X pins σ (.Tuple elts kk tpos) R) X.xe s3) X.xe s2 := fun Z o P B st low begun q => by
    refine enum_begins_start B st h0 h1 fun h' he ho _ hk => wpAny_pyIter_enum he ?_
    refine ⟨_, [s2.heap.objs.size + 1, s2.heap.objs.size], _, _, H2, rfl, I2.kept (t' := s2.toks) hk, turn_enumZ Z _ s2.heap.objs.size k (Nat.ne_of_lt low) (Nat.ne_of_lt (Nat.lt_succ_of_lt low)) (Nat.succ_ne_self _), ⟨⟨.none, ?_⟩, begun h' ho⟩, fun b hb => ?_, q⟩
    · rw [show k + ((0 : Nat) : Int) = k by omega]
      exact he
    · have up : s2.heap.objs.size ≤ b := by
        rcases List.mem_cons.mp hb with m | m
        · rw [m]
          exact Nat.le_succ _
        · rw [(List.mem_singleton).mp m]
          exact Nat.le_refl _
      exact I2.fpOk up (I2.hok.fresh up)
  rcases q1 with ⟨hq, q⟩ | ⟨hq, q⟩
  · obtain ⟨us, _, p', _⟩ := I2.list hq
    exact main (rowL X.K a) _ _ (begins_list a us.toArray) p'.isList p'.lt (fun _ ho => ⟨_, ho, rfl, rfl⟩) q
  · obtain ⟨us, _, p', _⟩ := I2.tuple hq
    exact main (rowT X.K a) _ _ (begins_tuple a us.toArray) p' p'.lt (fun _ ho => ⟨_, ho, rfl, rfl⟩) q
section
variable {X : Cx} {G : Gx} {W : WX} {a : Expr} {es : List Expr} {da : Den} {dr : DenL} {pos : Pos}
def nxK (k : Int) (l : List MV) (i : Nat) : Nx := match l[i]? with
  | some w => .yield (.tup [.int (k + i), w])
  | none => if l.length = i then .stop else .stuck
def srcNT (k : Int) (l : List MV) : Src := fun i _ => nxK k l i
def srcNR (k : Int) (n : Nat) : Src := fun i S => match S[n]? with
  | some (.lst l) => nxK k l i
  | some (.rol l) => nxK k l i
  | _ => .stuck
def enumK (k : Int) (w : MV) (S : Store) : Res Src := match w with
  | .tup l => .ok (srcNT k l) S
  | .ref n => match S[n]? with
    | some (.lst _) => .ok (srcNR k n) S
    | some (.rol _) => .ok (srcNR k n) S
    | _ => .stuck
  | _ => .stuck
def iEnumK (k : Int) (d : Den) : DenI := fun ρ S => (d ρ S).bind (enumK k)
theorem nxK_ok {a : Addr} (Z : Rowy G.K a) {k : Int} {ι ι1 : List Addr} {H H1 : Hp} {S1 : Store} (po : Post G ι H ι1 H1 S1) {l : List MV} {vs : List V} {i : Nat} (q : Z.sq H1 vs) (r : RWs G ι1 H1 l vs) : match nxK k l i with
    | .yield w => (IteZ Z k).go i H1 ∧ ∀ x H', (IteZ Z k).yld i H1 x H' → Post G ι1 H1 ι1 H' S1 ∧ RW G ι1 H' w x
    | .stop => (IteZ Z k).stop i H1
    | .stuck => True := by
  unfold nxK
  cases e : l[i]? with
  | some w =>
    obtain ⟨v, e2, r2⟩ := r.get e
    refine ⟨⟨vs, v, q, e2⟩, fun x H' y => ?_⟩
    obtain ⟨T, x', y1, hT, rfl, rfl⟩ := y
    have z := y1 vs q
    rw [e2] at z
    cases z
    exact pair_ok po.sim hT (.int _) r2
  | none =>
    dsimp only
    by_cases z : l.length = i
    · rw [if_pos z]
      exact ⟨vs, q, by rw [← r.length, z]⟩
    · rw [if_neg z]
      trivial
theorem it_kT {K : PySem.W.Frag} (hK : K = G.K) {ι : List Addr} {H : Hp} {a : Addr} {vs : List V} {l : List MV} {k : Int} (t : SqT K H a vs) (q : RWs G ι H l vs) : ItOk G ι H (IteZ (rowT K a) k) (srcNT k l) := fun i ι1 H1 S1 po => by
  subst hK
  exact nxK_ok (rowT G.K a) po (po.tup _ _ t) (po.rws q)
theorem it_kR {K : PySem.W.Frag} (hK : K = G.K) {ι : List Addr} {H : Hp} {a : Addr} {n : Nat} {k : Int} (t : ι[n]? = some a) : ItOk G ι H (IteZ (rowL K a) k) (srcNR k n) := fun i ι1 H1 S1 po => by
  subst hK
  have at1 := po.ext _ _ t
  unfold srcNR
  cases hS : S1[n]? with
  | none => trivial
  | some o =>
    cases o with
    | lst l =>
      obtain ⟨vs, g, q⟩ := po.sim.obj _ _ _ hS at1
      exact nxK_ok (rowL G.K a) po (.of g) q
    | rol l =>
      obtain ⟨o, vs, g, q, _⟩ := po.sim.obj _ _ _ hS at1
      exact nxK_ok (rowL G.K a) po (.inl (.inr ⟨o, g⟩)) q
    | dic kvs => trivial
    | ins c fs => trivial
    | tpo l => trivial
    | tpp l => trivial
    | dct kvs => trivial
    | fdt kvs => trivial
    | set zs => trivial
theorem di_enumK {p tpos cpos kp : Pos} {elts : List Expr} {kk j : Nat} {k : Int} (hK : X.K = G.K) (hg : Gl X "enumerate") (hm : X.mg "enumerate" = none) (h0 : -(2 ^ 63) ≤ k) (h1 : k < 2 ^ 63) (ha : DE X G W a da) (hs : starEach [a] X.env = [(false, eval a X.env)] := by rfl) :
    DI X G W (.Tuple elts kk tpos) (.Call (.Name "enumerate" p) [a] [⟨some "start", .Constant (.int k) j cpos, kp⟩] pos) (iEnumK k da) := ⟨PI.imp (pi_enumS hg hm h0 h1 ha.run hs) fun σ H R h => by
  obtain ⟨ι, S, ρ, s, re, h⟩ := h
  refine ⟨ι, S, ρ, s, re, (fin.bind h).mono fun w ι1 H1 S1 p _ h1 v r => ?_⟩
  obtain ⟨S1, s1, _, _, _, h1⟩ := h1
  unfold enumK at h1
  split at h1
  · cases r with
    | tup t q => exact ⟨_, _, rfl, .inr ⟨by rw [hK]; exact t, h1 ι1 H1 (.refl s1) _ (it_kT hK (by rw [hK]; exact t) q)⟩⟩
  · cases r with
    | ref i =>
      split at h1
      · rename_i hS
        obtain ⟨vs, g, q⟩ := s1.obj _ _ _ hS i
        exact ⟨_, vs, rfl, .inl ⟨.of g, h1 ι1 H1 (.refl s1) _ (it_kR hK i)⟩⟩
      · rename_i hS
        obtain ⟨o, vs, g, q, _⟩ := s1.obj _ _ _ hS i
        exact ⟨_, vs, rfl, .inl ⟨.inl (.inr ⟨o, g⟩), h1 ι1 H1 (.refl s1) _ (it_kR hK i)⟩⟩
      · exact h1.elim
  · exact h1.elim⟩
/-! ### int of a text -/
def fIntS : FnM := fun ws S => match ws with
  | [.int i] => .ok (.int i) S
  | [.str z] => (match PySem.intText? z with
    | some n => if decide (z.length ≤ 640) = true then .ok (.int n) S else .stuck
    | none => .stuck)
  | _ => .stuck
theorem w_intS : ClW G fIntS (fun xs H Q => ((∃ i, xs = [.int i] ∧ Q (.int i) H) ∨ ∃ k, xs = [.bl k] ∧ Q (.int (if k then 1 else 0)) H) ∨ ∃ a n, xs = [.str a] ∧ PySem.intText? a = some n ∧ a.length ≤ 640 ∧ Q (.int n) H) := fun ι H S E Q ws vs s r h => by
  unfold fIntS at h
  split at h
  · obtain ⟨v, rfl, r1⟩ := rws1 r
    cases r1
    exact .inl (.inl ⟨_, rfl, h ι H (.refl s) _ (.int _)⟩)
  · obtain ⟨v, rfl, r1⟩ := rws1 r
    cases r1
    split at h
    · rename_i n hn
      split at h
      · rename_i hz
        exact .inr ⟨_, n, rfl, hn, of_decide_eq_true hz, h ι H (.refl s) _ (.int _)⟩
      · exact h.elim
    · exact h.elim
  · exact h.elim
theorem de_intS {p : Pos} (hg : Gl X "int") (hm : X.mg "int" = none) (ha : DA X G W (a :: es) dr)
    (he : starEach (a :: es) X.env = (false, eval a X.env) :: starEach es X.env := by rfl) (hpl : (backTo pos (starEach es X.env)).any (·.1) = false := by rfl) : DE X G W (.Call (.Name "int" p) (a :: es) [] pos) (dCall fIntS dr) :=
  de_callTy (call_int1.or call_int_str) w_intS hg hm (by decide +kernel) ha (by decide) (by decide) he hpl
end
section
variable {E : EX} {S : Store} {ρ : Env'} {QI : Src → Store → Prop} {QF : Fl → Store → Prop} {k : Int}
end
/-! ### not e, of whatever can be a test -/
def dNotT (d : Den) : Den := fun ρ S => (d ρ S).bind fun w S1 => (truB w S1).bind fun k S2 => .ok (.bl (!k)) S2
section
variable {X : Cx} {G : Gx} {W : WX} {a : Expr} {da : Den} {pos : Pos}
theorem de_notT (hK : X.K = G.K) (ha : DE X G W a da) : DE X G W (.UnaryOp .Not a pos) (dNotT da) := by
  refine ⟨PE.imp (pe_notT ha.run) fun σ H Q h => ?_⟩
  obtain ⟨ι, S, ρ, s, re, h⟩ := h
  refine ⟨ι, S, ρ, s, re, (fin.bind h).mono fun w ι1 H1 S1 p _ h1 v r => ?_⟩
  obtain ⟨S2, s2, _, _, _, h2⟩ := h1
  unfold truB at h2
  split at h2
  · rename_i k e
    exact ⟨k, by rw [hK]; exact tru_w s2 r e, h2 ι1 H1 (.refl s2) _ (.bl _)⟩
  · exact h2.elim
end
section
variable {E : EX} {S : Store} {ρ : Env'} {Q : MV → Store → Prop}
end
end MI
set_option Elab.async false
set_option linter.all false
set_option maxRecDepth 100000
set_option maxHeartbeats 2000000
/-! zip of a list and a tuple -/
namespace MI
open PySem PySem.Spec PyProof.Rows L2
def ItzZ {K : PySem.W.Frag} {a b : Addr} (Y : Rowy K a) (Z : Rowy K b) : It where
  go := fun i H => ∃ xs ys x y, (Y.sq H xs ∧ Z.sq H ys) ∧ xs[i]? = some x ∧ ys[i]? = some y
  yld := fun i H v H' => ∃ T x y, ((∀ l, Y.sq H l → l[i]? = some x) ∧ ∀ l, Z.sq H l → l[i]? = some y) ∧ H T = none ∧ v = .ref T ∧ H' = upd H T (.tup [x, y])
  stop := fun i H => ∃ xs ys : List V, (Y.sq H xs ∧ Z.sq H ys) ∧ i ≤ xs.length ∧ i ≤ ys.length ∧ (i = xs.length ∨ i = ys.length)
theorem in5 {c z t o p q : Addr} (h : c ∈ [z, t, o, p, q]) : c = z ∨ c = t ∨ c = o ∨ c = p ∨ c = q := by
  simp only [List.mem_cons, List.not_mem_nil, or_false] at h
  exact h
theorem off5 {c z t o p q : Addr} (h : c ∉ [z, t, o, p, q]) : c ≠ z ∧ c ≠ t ∧ c ≠ o ∧ c ≠ p ∧ c ≠ q := by
  simp only [List.mem_cons, List.not_mem_nil, or_false, not_or] at h
  exact h
theorem turn_zipZ {P : Program} {w : World} {K : PySem.W.Frag} {a b : Addr} (Y : Rowy K a) (Z : Rowy K b) {es : List Expr} {kk : Nat} {tp : Pos} {z t o p q : Addr} (D : ZipSep2 z t o p q [p, a] [q, b]) (na : a ≠ p) (nb : b ≠ q) :
    Turn P w K (.Tuple es kk tp) (ItzZ Y Z) [z, t, o, p, q] z (fun i h => (IsZip h z t o .none ∧ IsTupOf2 h t (.ref p) (.ref q) ∧ ∃ x y, IsTupOf2 h o x y) ∧ Y.stand h p i ∧ Z.stand h q i) := by
  have cells : ∀ {i : Nat} {h : Heap} {c : Addr}, ((IsZip h z t o .none ∧ IsTupOf2 h t (.ref p) (.ref q) ∧ ∃ x y, IsTupOf2 h o x y) ∧ Y.stand h p i ∧ Z.stand h q i) → c ∈ [z, t, o, p, q] → ∃ ob, h.get? c = some ob ∧ ∀ v, ob.data ≠ .cell v := fun {i h c} st hc => by
    obtain ⟨⟨hz, ht, _, _, ho⟩, h1, h2⟩ := st
    rcases in5 hc with rfl | rfl | rfl | rfl | rfl
    · exact ⟨_, hz, fun _ k => nomatch k⟩
    · exact ⟨_, ht, fun _ k => nomatch k⟩
    · exact ⟨_, ho, fun _ k => nomatch k⟩
    · exact Y.cell _ _ _ h1
    · exact Z.cell _ _ _ h2
  refine ⟨List.mem_cons_self, fun i h st c hc => cells st hc, fun i h h' st k => ?_, ?_, ?_, fun _ i s Q E st h => wpAny_pyIter_zip st.1.1 h⟩
  · obtain ⟨⟨hz, ht, x, y, ho⟩, h1, h2⟩ := st
    exact ⟨⟨k z (by simp) _ hz, k t (by simp) _ ht, x, y, k o (by simp) _ ho⟩, Y.on _ _ _ _ (k p (by simp)) h1, Z.on _ _ _ _ (k q (by simp)) h2⟩
  · intro X e1 e2 e3 calm i pins s σ H E I free st go
    have st0 := st
    subst e1 e2
    obtain ⟨⟨hz, ht, x0, y0, ho⟩, h1, h2⟩ := st
    obtain ⟨xs, ys, x, y, ⟨tx, ty⟩, hx, hy⟩ := go
    obtain ⟨us, ru, nu⟩ := Y.told X pins σ H s e3 I xs tx
    obtain ⟨vs, rv, nv⟩ := Z.told X pins σ H s e3 I ys ty
    obtain ⟨u1, g1, r1⟩ := ru.get hx
    obtain ⟨u2, g2, r2⟩ := rv.get hy
    have size : ∀ {l : List Value} {u : Value}, l[i]? = some u → i < l.toArray.size := fun e => by
      rw [List.size_toArray]
      exact ((List.getElem?_eq_some_iff).mp e).1
    refine wpAny_pyNext_zipD2_item D (Y.draw X.prog X.w X.A.in1 p (I.ok.hd calm) na us.toArray) (Z.draw X.prog X.w X.A.in1 q (I.ok.hd calm) nb vs.toArray) hz ht ho ⟨h1, nu⟩ ⟨h2, nv⟩ (size g1) (size g2) fun w1 w2 h' tk k1 k2 z1 o1 s1 s2 pr _ same => ⟨_, rfl, ?_⟩
    have k1 : us.toArray[i]? = some w1 := k1
    have k2 : vs.toArray[i]? = some w2 := k2
    rw [List.getElem?_toArray, g1] at k1
    rw [List.getElem?_toArray, g2] at k2
    cases k1
    cases k2
    refine wpAny_letOwnedTupleGo_zip (s := { s with heap := h', toks := tk }) z1 fun h'' z2 but => ?_
    have pr2 := (but.2 _ (Nat.ne_of_gt (Heap.lt_size hz))).trans pr
    have I2 : Inv X pins σ (upd H s.heap.objs.size (.tup [x, y])) { s with heap := h'', toks := tk } :=
      I.turnedNew (t' := tk) (ch := [z, t, o, p, q]) (fun c ob hb e => (but.2 c (off5 hb).1).trans (same c ob (off5 hb).1 (off5 hb).2.2.1 (off5 hb).2.2.2.1 (off5 hb).2.2.2.2 e)) free (Nat.le_refl _)
        ⟨(by decide : 2 ≤ sizeLine), [u1, u2], .cons r1 (.cons r2 .nil), _, pr2, rfl, _, rfl⟩
    refine ⟨.ref s.heap.objs.size, _, I2, rfl, ⟨_, x, y, ⟨fun l hl => ?_, fun l hl => ?_⟩, I.hok.fresh (Nat.le_refl _), rfl, rfl⟩, ⟨⟨z2, (but.2 _ D.TIz).trans (same _ _ D.TIz D.TITO D.TIi1 D.TIi2 ht), u1, u2, (but.2 _ D.TOz).trans o1⟩, Y.on _ _ _ _ (fun ob e => (but.2 _ (Ne.symm D.zi1)).trans e) s1.1, Z.on _ _ _ _ (fun ob e => (but.2 _ (Ne.symm D.zi2)).trans e) s2.1⟩, fun c hb => ?_⟩
    · rw [Y.one X pins σ H s e3 I l xs hl tx]
      exact hx
    · rw [Z.one X pins σ H s e3 I l ys hl ty]
      exact hy
    · obtain ⟨ob, e, _⟩ := cells st0 hb
      exact (upd_ne (Nat.ne_of_lt (Heap.lt_size e))).trans (free c hb).1
  · intro X e1 e2 e3 calm i pins s σ H E I free st over
    subst e1 e2
    obtain ⟨⟨hz, ht, x0, y0, ho⟩, h1, h2⟩ := st
    obtain ⟨xs, ys, ⟨tx, ty⟩, a1, a2, a3⟩ := over
    obtain ⟨us, ru, nu⟩ := Y.told X pins σ H s e3 I xs tx
    obtain ⟨vs, rv, nv⟩ := Z.told X pins σ H s e3 I ys ty
    have l1 := ru.length
    have l2 := rv.length
    have n1 : us.toArray.size = us.length := List.size_toArray
    have n2 : vs.toArray.size = vs.length := List.size_toArray
    exact wpAny_pyNext_zipD2_end D (Y.draw X.prog X.w X.A.in1 p (I.ok.hd calm) na us.toArray) (Z.draw X.prog X.w X.A.in1 q (I.ok.hd calm) nb vs.toArray) hz ht ho ⟨h1, nu⟩ ⟨h2, nv⟩ (by omega) (by omega) (by omega) fun h' tk same =>
      ⟨rfl, I.turnedL (t' := tk) (ch := [z, t, o, p, q]) (fun c ob hb e => same c ob (off5 hb).1 (off5 hb).2.2.1 (off5 hb).2.2.2.1 (off5 hb).2.2.2.2 e) free⟩
def iZipM (K : PySem.W.Frag) (ta : TA) : TI := fun σ H R => ta σ H fun vs H1 => ∃ a b xs ys, vs = [.ref a, .ref b] ∧ SqL K H1 a xs ∧ SqT K H1 b ys ∧ R (ItzZ (rowL K a) (rowT K b)) H1
theorem pi_zipM {X : Cx} {e e2 : Expr} {ta : TA} {p pos tpos : Pos} {elts : List Expr} {kk : Nat} (hg : Gl X "zip") (hm : X.mg "zip" = none) (ha : PA X [e, e2] ta)
    (hs : starEach [e, e2] X.env = (false, eval e X.env) :: starEach [e2] X.env := by rfl) (hpl : (backTo pos (starEach [e2] X.env)).any (·.1) = false := by rfl) : PI X (.Tuple elts kk tpos) (.Call (.Name "zip" p) [e, e2] [] pos) (iZipM X.K ta) := by
  constructor
  intro pins s σ H R I h
  refine Call_ (ld_blt I hg hm PyProof.Rows.boot_zip (PyProof.Rows.callWith_type1 (thn (ha.run pos pins s σ H _ I h) fun us s1 hh => ?_) hs hpl))
  obtain ⟨vs, H1, I1, r1, a, b, xs, ys, rfl, tx, ty, q1⟩ := hh
  obtain ⟨v1, v2, rfl, ra, rb⟩ := vals2 r1
  cases ra
  cases rb
  obtain ⟨l1, _, p1, _⟩ := I1.list tx
  obtain ⟨l2, _, p2, _⟩ := I1.tuple ty
  refine zip_begins2 (begins_list a l1.toArray) (begins_tuple b l2.toArray) p1.isList p2 fun h' hz hT hO g1 g2 _ hk => wpAny_pyIter_zip hz ?_
  refine ⟨_, [s1.heap.objs.size + 4, s1.heap.objs.size + 2, s1.heap.objs.size + 3, s1.heap.objs.size, s1.heap.objs.size + 1], _, _, H1, rfl, I1.kept (t' := s1.toks) hk, turn_zipZ (rowL X.K a) (rowT X.K b) (zip_sep2 (fun c hc => ?_) (fun c hc => ?_)) (Nat.ne_of_lt p1.lt) (Nat.ne_of_lt (Nat.lt_succ_of_lt p2.lt)), ⟨⟨hz, hT, _, _, hO⟩, ⟨_, g1, rfl, rfl⟩, ⟨_, g2, rfl, rfl⟩⟩, fun c hc => ?_, q1⟩
  · rw [(List.mem_singleton).mp hc]
    exact p1.lt
  · rw [(List.mem_singleton).mp hc]
    exact p2.lt
  · have up : s1.heap.objs.size ≤ c := by
      rcases in5 hc with k | k | k | k | k <;> rw [k] <;> first | exact Nat.le_refl _ | exact Nat.le_add_right _ _
    exact I1.fpOk up (I1.hok.fresh up)
section
variable {X : Cx} {G : Gx} {W : WX} {a b : Expr} {dr : DenL} {pos : Pos}
def srcZipM (n : Nat) (m : List MV) : Src := fun i S => match S[n]? with
  | some (.lst l) => if decide (i ≤ l.length ∧ i ≤ m.length) then (match l[i]?, m[i]? with
    | some w, some u => .yield (.tup [w, u])
    | _, _ => .stop) else .stuck
  | _ => .stuck
def zipM (ws : List MV) (S : Store) : Res Src := match ws with
  | [.ref n, .tup m] => (match S[n]? with
    | some (.lst _) => .ok (srcZipM n m) S
    | _ => .stuck)
  | _ => .stuck
theorem it_zipM {K : PySem.W.Frag} (hK : K = G.K) {ι : List Addr} {H : Hp} {p q : Addr} {us : List V} {n : Nat} {m : List MV} (t : ι[n]? = some p) (t2 : SqT K H q us) (r2 : RWs G ι H m us) : ItOk G ι H (ItzZ (rowL K p) (rowT K q)) (srcZipM n m) := fun i ι1 H1 S1 po => by
  subst hK
  have at1 := po.ext _ _ t
  have tt := po.tup _ _ t2
  have qq := po.rws r2
  have ll := qq.length
  unfold srcZipM
  cases hS : S1[n]? with
  | none => trivial
  | some ob =>
    cases ob with
    | lst l =>
      obtain ⟨vs, g, q1⟩ := po.sim.obj _ _ _ hS at1
      have l1 := q1.length
      dsimp only
      by_cases hc : i ≤ l.length ∧ i ≤ m.length
      · rw [if_pos (decide_eq_true hc)]
        cases e : l[i]? with
        | some w =>
          cases e2 : m[i]? with
          | some u =>
            obtain ⟨v, f, r⟩ := q1.get e
            obtain ⟨v', f', r'⟩ := qq.get e2
            refine ⟨⟨vs, us, v, v', ⟨.of g, tt⟩, f, f'⟩, fun x H' y => ?_⟩
            obtain ⟨T, x1, x2, ⟨y1, y2⟩, hT, rfl, rfl⟩ := y
            have z1 := y1 vs (.of g)
            have z2 := y2 us tt
            rw [f] at z1
            rw [f'] at z2
            cases z1
            cases z2
            exact pair_ok po.sim hT r r'
          | none =>
            have k := List.getElem?_eq_none_iff.mp e2
            exact ⟨vs, us, ⟨.of g, tt⟩, by omega, by omega, .inr (by omega)⟩
        | none =>
          have k := List.getElem?_eq_none_iff.mp e
          exact ⟨vs, us, ⟨.of g, tt⟩, by omega, by omega, .inl (by omega)⟩
      · rw [if_neg (by rw [decide_eq_false hc]; exact Bool.false_ne_true)]
        trivial
    | rol l => trivial
    | dic kvs => trivial
    | ins c fs => trivial
    | tpo l => trivial
    | tpp l => trivial
    | dct kvs => trivial
    | fdt kvs => trivial
    | set zs => trivial
theorem di_zipM {p tpos : Pos} {elts : List Expr} {kk : Nat} (hK : X.K = G.K) (hg : Gl X "zip") (hm : X.mg "zip" = none) (ha : DA X G W [a, b] dr) (hs : starEach [a, b] X.env = (false, eval a X.env) :: starEach [b] X.env := by rfl) (hpl : (backTo pos (starEach [b] X.env)).any (·.1) = false := by rfl) :
    DI X G W (.Tuple elts kk tpos) (.Call (.Name "zip" p) [a, b] [] pos) (iRng zipM dr) := ⟨PI.imp (pi_zipM hg hm ha.run hs hpl) fun σ H R h => by
  obtain ⟨ι, S, ρ, s, re, h⟩ := h
  refine ⟨ι, S, ρ, s, re, (fin.bind h).mono fun ws ι1 H1 S1 p _ h1 vs r => ?_⟩
  obtain ⟨S1, s1, _, _, _, h1⟩ := h1
  unfold zipM at h1
  split at h1
  · obtain ⟨v, v2, rfl, r1, r2⟩ := rws2 r
    cases r1 with
    | ref i =>
      cases r2 with
      | tup t q =>
        split at h1
        · rename_i hS
          obtain ⟨vs, g, _⟩ := s1.obj _ _ _ hS i
          exact ⟨_, _, vs, _, rfl, .of g, by rw [hK]; exact t, h1 ι1 H1 (.refl s1) _ (it_zipM hK i (by rw [hK]; exact t) q)⟩
        · exact h1.elim
  · exact h1.elim⟩
end
section
variable {E : EX} {S : Store} {QI : Src → Store → Prop}
end
end MI
set_option Elab.async false
set_option linter.all false
set_option maxRecDepth 100000
set_option maxHeartbeats 2000000
/-! MIbl: the look over a told list of places (addrs.py finds it): far less memory than asD -/
namespace MI
open PySem PySem.Spec PyProof.Rows L2
def looksL (as : List Addr) (fa : List He.Fa) (ts : List He.Tab) (ex : Fr → Bool) (fs : List Df) (g : Addr → Option Obj) : MI.Seen := lookM fa ts ex fs (He.frG g as)
def hookL (as : List Addr) (fa : List He.Fa) (ts : List He.Tab) (ex : Fr → Bool) (fs : List Df) : PySem.W.Hook where
  α := MI.Seen
  obs := fun s => looksL as fa ts ex fs s.heap.get?
  val := fun w => dueM ts fs w
  says := fun w h => ∃ K : Fr, K.In h ∧ Told fa ts ex fs w K
  of := fun _ _ e => ⟨_, He.frG_in, told_of e⟩
  keeps := fun _ _ _ ⟨K, hK, c⟩ k => ⟨K, PySem.W.Frag.In.keeps hK k, c⟩
def lookL (as : List Addr) (fa : List He.Fa) (ts : List He.Tab) (ex : Fr → Bool) (fs : List Df) (s : PySem.W.SharedT) : MI.Seen := looksL as fa ts ex fs (HandSHeadRun.getT s)
theorem lookL_eq (as : List Addr) (fa : List He.Fa) (ts : List He.Tab) (ex : Fr → Bool) (fs : List Df) (s : PySem.W.SharedT) : lookL as fa ts ex fs s = (hookL as fa ts ex fs).obs s.abs := by
  have e : HandSHeadRun.getT s = s.abs.heap.get? := funext (HandSHeadRun.getT_eq s)
  unfold lookL
  rw [e]
  rfl
end MI
set_option Elab.async false
set_option linter.all false
set_option maxRecDepth 100000
set_option maxHeartbeats 4000000
namespace K11
open PySem PySem.Spec PyProof.Rows L2 MI
def top (i : Nat) : Stmt := PySem.Challenge.pw_classhouse_k11_known_houses.main.body.getD i (.Pass ⟨0, 0, 0, 0⟩)
def s_House : Stmt := (PySem.Stmt.ClassDef (name := "House") (bases := []) (keywords := []) (body := [ (PySem.Stmt.FunctionDef (name := "__init__") (args := { posonlyargs := [], args := [ { arg := "self", annotation := none, pos := ⟨214, 17, 214, 21⟩ : PySem.Arg }, { arg := "classes", annotation := none, pos := ⟨214, 23, 214, 30⟩ : PySem.Arg }], vararg := none, kwonlyargs := [], kw_defaults := [], kwarg := none, defaults := [] : PySem.Arguments }) (body := [ (PySem.Stmt.Expr (value := (PySem.Expr.Call (func := (PySem.Expr.Name "check_classes" ⟨215, 8, 215, 21⟩)) (args := [(PySem.Expr.Name "classes" ⟨215, 22, 215, 29⟩)]) (keywords := []) (pos := ⟨215, 8, 215, 30⟩))) (pos := ⟨215, 8, 215, 30⟩)), (PySem.Stmt.Assign (targets := [(PySem.Expr.Attribute (PySem.Expr.Name "self" ⟨216, 8, 216, 12⟩) "_classes" ⟨216, 8, 216, 21⟩)]) (value := (PySem.Expr.Name "classes" ⟨216, 24, 216, 31⟩)) (pos := ⟨216, 8, 216, 31⟩))]) (decorator_list := []) (returns := none) (type_params := []) (scope := { kind := PySem.ScopeKind.function, names := [ (PySem.Str.ofString "self", PySem.NameKind.local), (PySem.Str.ofString "classes", PySem.NameKind.local), (PySem.Str.ofString "check_classes", PySem.NameKind.globalImplicit)], isGenerator := false, isCoroutine := false, more := [] : PySem.Scope }) (tscope := none) (bind := "__init__") (pos := ⟨214, 4, 216, 31⟩)), (PySem.Stmt.FunctionDef (name := "classes") (args := { posonlyargs := [], args := [{ arg := "self", annotation := none, pos := ⟨219, 16, 219, 20⟩ : PySem.Arg }], vararg := none, kwonlyargs := [], kw_defaults := [], kwarg := none, defaults := [] : PySem.Arguments }) (body := [ (PySem.Stmt.Return (value := (some (PySem.Expr.Attribute (PySem.Expr.Name "self" ⟨220, 15, 220, 19⟩) "_classes" ⟨220, 15, 220, 28⟩))) (pos := ⟨220, 8, 220, 28⟩))]) (decorator_list := [(PySem.Expr.Name "property" ⟨218, 5, 218, 13⟩)]) (returns := none) (type_params := []) (scope := { kind := PySem.ScopeKind.function, names := [(PySem.Str.ofString "self", PySem.NameKind.local)], isGenerator := false, isCoroutine := false, more := [] : PySem.Scope }) (tscope := none) (bind := "classes") (pos := ⟨219, 4, 220, 28⟩)), (PySem.Stmt.FunctionDef (name := "__eq__") (args := { posonlyargs := [], args := [ { arg := "self", annotation := none, pos := ⟨222, 15, 222, 19⟩ : PySem.Arg }, { arg := "other", annotation := none, pos := ⟨222, 21, 222, 26⟩ : PySem.Arg }], vararg := none, kwonlyargs := [], kw_defaults := [], kwarg := none, defaults := [] : PySem.Arguments }) (body := [ (PySem.Stmt.Return (value := (some (PySem.Expr.BoolOp (op := PySem.BoolOp.And) (values := [ (PySem.Expr.Call (func := (PySem.Expr.Name "isinstance" ⟨223, 15, 223, 25⟩)) (args := [(PySem.Expr.Name "other" ⟨223, 26, 223, 31⟩), (PySem.Expr.Name "House" ⟨223, 33, 223, 38⟩)]) (keywords := []) (pos := ⟨223, 15, 223, 39⟩)), (PySem.Expr.Compare (left := (PySem.Expr.Attribute (PySem.Expr.Name "self" ⟨223, 44, 223, 48⟩) "_classes" ⟨223, 44, 223, 57⟩)) (ops := [PySem.CmpOp.Eq]) (comparators := [(PySem.Expr.Attribute (PySem.Expr.Name "other" ⟨223, 61, 223, 66⟩) "_classes" ⟨223, 61, 223, 75⟩)]) (pos := ⟨223, 44, 223, 75⟩))]) (pos := ⟨223, 15, 223, 75⟩)))) (pos := ⟨223, 8, 223, 75⟩))]) (decorator_list := []) (returns := none) (type_params := []) (scope := { kind := PySem.ScopeKind.function, names := [ (PySem.Str.ofString "self", PySem.NameKind.local), (PySem.Str.ofString "other", PySem.NameKind.local), (PySem.Str.ofString "isinstance", PySem.NameKind.globalImplicit), (PySem.Str.ofString "House", PySem.NameKind.globalImplicit)], isGenerator := false, isCoroutine := false, more := [] : PySem.Scope }) (tscope := none) (bind := "__eq__") (pos := ⟨222, 4, 223, 75⟩))]) (decorator_list := []) (type_params := []) (scope := { kind := PySem.ScopeKind.class, names := [ (PySem.Str.ofString "__init__", PySem.NameKind.local), (PySem.Str.ofString "classes", PySem.NameKind.local), (PySem.Str.ofString "property", PySem.NameKind.globalImplicit), (PySem.Str.ofString "__eq__", PySem.NameKind.local)], isGenerator := false, isCoroutine := false, more := [] : PySem.Scope }) (tscope := none) (bind := "House") (static_attributes := [PySem.Str.ofString "_classes"]) (pos := ⟨212, 0, 223, 75⟩))
def s_names_of : Stmt := (PySem.Stmt.FunctionDef (name := "names_of") (args := { posonlyargs := [], args := [{ arg := "classes", annotation := none, pos := ⟨54, 13, 54, 20⟩ : PySem.Arg }], vararg := none, kwonlyargs := [], kw_defaults := [], kwarg := none, defaults := [] : PySem.Arguments }) (body := [ (PySem.Stmt.Return (value := (some (PySem.Expr.Tuple (elts := [ (PySem.Expr.Constant (PySem.Const.str "top") 0 ⟨55, 12, 55, 17⟩), (PySem.Expr.Starred (value := (PySem.Expr.ListComp (elt := (PySem.Expr.Subscript (value := (PySem.Expr.Name "row" ⟨55, 21, 55, 24⟩)) (slice := (PySem.Expr.Constant (PySem.Const.int 0) 0 ⟨55, 25, 55, 26⟩)) (pos := ⟨55, 21, 55, 27⟩))) (generators := [ { target := (PySem.Expr.Name "row" ⟨55, 32, 55, 35⟩), iter := (PySem.Expr.Name "classes" ⟨55, 39, 55, 46⟩), ifs := [], is_async := 0 : PySem.Comprehension }]) (scope := { kind := PySem.ScopeKind.function, names := [(PySem.Str.ofString ".0", PySem.NameKind.local), (PySem.Str.ofString "row", PySem.NameKind.local)], isGenerator := false, isCoroutine := false, more := [] : PySem.Scope }) (pos := ⟨55, 20, 55, 47⟩))) (pos := ⟨55, 19, 55, 47⟩))]) (k := 0) (pos := ⟨55, 11, 55, 48⟩)))) (pos := ⟨55, 4, 55, 48⟩))]) (decorator_list := []) (returns := none) (type_params := []) (scope := { kind := PySem.ScopeKind.function, names := [(PySem.Str.ofString "classes", PySem.NameKind.local)], isGenerator := false, isCoroutine := false, more := [ (PySem.Str.ofString "fast", (PySem.Const.str "classes")), (PySem.Str.ofString "fast", (PySem.Const.str "row"))] : PySem.Scope }) (tscope := none) (bind := "names_of") (pos := ⟨54, 0, 55, 48⟩))
def s_is_class : Stmt := (PySem.Stmt.FunctionDef (name := "is_class") (args := { posonlyargs := [], args := [ { arg := "classes", annotation := none, pos := ⟨52, 13, 52, 20⟩ : PySem.Arg }, { arg := "name", annotation := none, pos := ⟨52, 22, 52, 26⟩ : PySem.Arg }], vararg := none, kwonlyargs := [], kw_defaults := [], kwarg := none, defaults := [] : PySem.Arguments }) (body := [ (PySem.Stmt.Return (value := (some (PySem.Expr.Compare (left := (PySem.Expr.Name "name" ⟨53, 11, 53, 15⟩)) (ops := [PySem.CmpOp.In]) (comparators := [ (PySem.Expr.Call (func := (PySem.Expr.Name "names_of" ⟨53, 19, 53, 27⟩)) (args := [(PySem.Expr.Name "classes" ⟨53, 28, 53, 35⟩)]) (keywords := []) (pos := ⟨53, 19, 53, 36⟩))]) (pos := ⟨53, 11, 53, 36⟩)))) (pos := ⟨53, 4, 53, 36⟩))]) (decorator_list := []) (returns := none) (type_params := []) (scope := { kind := PySem.ScopeKind.function, names := [ (PySem.Str.ofString "classes", PySem.NameKind.local), (PySem.Str.ofString "name", PySem.NameKind.local), (PySem.Str.ofString "names_of", PySem.NameKind.globalImplicit)], isGenerator := false, isCoroutine := false, more := [] : PySem.Scope }) (tscope := none) (bind := "is_class") (pos := ⟨52, 0, 53, 36⟩))
def s_class_of : Stmt := (PySem.Stmt.FunctionDef (name := "class_of") (args := { posonlyargs := [], args := [ { arg := "classes", annotation := none, pos := ⟨56, 13, 56, 20⟩ : PySem.Arg }, { arg := "name", annotation := none, pos := ⟨56, 22, 56, 26⟩ : PySem.Arg }], vararg := none, kwonlyargs := [], kw_defaults := [], kwarg := none, defaults := [] : PySem.Arguments }) (body := [ (PySem.Stmt.For (target := (PySem.Expr.Name "row" ⟨57, 8, 57, 11⟩)) (iter := (PySem.Expr.Name "classes" ⟨57, 15, 57, 22⟩)) (body := [ (PySem.Stmt.If (test := (PySem.Expr.Compare (left := (PySem.Expr.Subscript (value := (PySem.Expr.Name "row" ⟨58, 11, 58, 14⟩)) (slice := (PySem.Expr.Constant (PySem.Const.int 0) 0 ⟨58, 15, 58, 16⟩)) (pos := ⟨58, 11, 58, 17⟩))) (ops := [PySem.CmpOp.Eq]) (comparators := [(PySem.Expr.Name "name" ⟨58, 21, 58, 25⟩)]) (pos := ⟨58, 11, 58, 25⟩))) (body := [(PySem.Stmt.Return (some (PySem.Expr.Name "row" ⟨59, 19, 59, 22⟩)) ⟨59, 12, 59, 22⟩)]) (orelse := []) (pos := ⟨58, 8, 59, 22⟩))]) (orelse := []) (pos := ⟨57, 4, 59, 22⟩)), (PySem.Stmt.Return (some (PySem.Expr.Name "TOP" ⟨60, 11, 60, 14⟩)) ⟨60, 4, 60, 14⟩)]) (decorator_list := []) (returns := none) (type_params := []) (scope := { kind := PySem.ScopeKind.function, names := [ (PySem.Str.ofString "classes", PySem.NameKind.local), (PySem.Str.ofString "name", PySem.NameKind.local), (PySem.Str.ofString "row", PySem.NameKind.local), (PySem.Str.ofString "TOP", PySem.NameKind.globalImplicit)], isGenerator := false, isCoroutine := false, more := [] : PySem.Scope }) (tscope := none) (bind := "class_of") (pos := ⟨56, 0, 60, 14⟩))
def s_line_up : Stmt := (PySem.Stmt.FunctionDef (name := "line_up") (args := { posonlyargs := [], args := [ { arg := "classes", annotation := none, pos := ⟨61, 12, 61, 19⟩ : PySem.Arg }, { arg := "name", annotation := none, pos := ⟨61, 21, 61, 25⟩ : PySem.Arg }], vararg := none, kwonlyargs := [], kw_defaults := [], kwarg := none, defaults := [] : PySem.Arguments }) (body := [ (PySem.Stmt.Assign (targets := [(PySem.Expr.Name "line" ⟨62, 4, 62, 8⟩)]) (value := (PySem.Expr.List [] ⟨62, 11, 62, 13⟩)) (pos := ⟨62, 4, 62, 13⟩)), (PySem.Stmt.While (test := (PySem.Expr.Compare (left := (PySem.Expr.Name "name" ⟨63, 10, 63, 14⟩)) (ops := [PySem.CmpOp.NotEq]) (comparators := [(PySem.Expr.Constant (PySem.Const.str "top") 0 ⟨63, 18, 63, 23⟩)]) (pos := ⟨63, 10, 63, 23⟩))) (body := [ (PySem.Stmt.Expr (value := (PySem.Expr.Call (func := (PySem.Expr.Attribute (PySem.Expr.Name "line" ⟨64, 8, 64, 12⟩) "append" ⟨64, 8, 64, 19⟩)) (args := [(PySem.Expr.Name "name" ⟨64, 20, 64, 24⟩)]) (keywords := []) (pos := ⟨64, 8, 64, 25⟩))) (pos := ⟨64, 8, 64, 25⟩)), (PySem.Stmt.Assign (targets := [(PySem.Expr.Name "name" ⟨65, 8, 65, 12⟩)]) (value := (PySem.Expr.Subscript (value := (PySem.Expr.Call (func := (PySem.Expr.Name "class_of" ⟨65, 15, 65, 23⟩)) (args := [(PySem.Expr.Name "classes" ⟨65, 24, 65, 31⟩), (PySem.Expr.Name "name" ⟨65, 33, 65, 37⟩)]) (keywords := []) (pos := ⟨65, 15, 65, 38⟩))) (slice := (PySem.Expr.Constant (PySem.Const.int 1) 0 ⟨65, 39, 65, 40⟩)) (pos := ⟨65, 15, 65, 41⟩))) (pos := ⟨65, 8, 65, 41⟩))]) (orelse := []) (pos := ⟨63, 4, 65, 41⟩)), (PySem.Stmt.Return (value := (some (PySem.Expr.Tuple (elts := [ (PySem.Expr.Starred (PySem.Expr.Name "line" ⟨66, 13, 66, 17⟩) ⟨66, 12, 66, 17⟩), (PySem.Expr.Constant (PySem.Const.str "top") 0 ⟨66, 19, 66, 24⟩)]) (k := 0) (pos := ⟨66, 11, 66, 25⟩)))) (pos := ⟨66, 4, 66, 25⟩))]) (decorator_list := []) (returns := none) (type_params := []) (scope := { kind := PySem.ScopeKind.function, names := [ (PySem.Str.ofString "classes", PySem.NameKind.local), (PySem.Str.ofString "name", PySem.NameKind.local), (PySem.Str.ofString "line", PySem.NameKind.local), (PySem.Str.ofString "class_of", PySem.NameKind.globalImplicit)], isGenerator := false, isCoroutine := false, more := [] : PySem.Scope }) (tscope := none) (bind := "line_up") (pos := ⟨61, 0, 66, 25⟩))
def s_line_down : Stmt := (PySem.Stmt.FunctionDef (name := "line_down") (args := { posonlyargs := [], args := [ { arg := "classes", annotation := none, pos := ⟨67, 14, 67, 21⟩ : PySem.Arg }, { arg := "name", annotation := none, pos := ⟨67, 23, 67, 27⟩ : PySem.Arg }], vararg := none, kwonlyargs := [], kw_defaults := [], kwarg := none, defaults := [] : PySem.Arguments }) (body := [ (PySem.Stmt.Return (value := (some (PySem.Expr.Call (func := (PySem.Expr.Name "tuple" ⟨68, 11, 68, 16⟩)) (args := [ (PySem.Expr.ListComp (elt := (PySem.Expr.Name "below" ⟨68, 18, 68, 23⟩)) (generators := [ { target := (PySem.Expr.Name "below" ⟨68, 28, 68, 33⟩), iter := (PySem.Expr.Call (func := (PySem.Expr.Name "names_of" ⟨68, 37, 68, 45⟩)) (args := [(PySem.Expr.Name "classes" ⟨68, 46, 68, 53⟩)]) (keywords := []) (pos := ⟨68, 37, 68, 54⟩)), ifs := [ (PySem.Expr.Compare (left := (PySem.Expr.Name "name" ⟨68, 58, 68, 62⟩)) (ops := [PySem.CmpOp.In]) (comparators := [ (PySem.Expr.Call (func := (PySem.Expr.Name "line_up" ⟨68, 66, 68, 73⟩)) (args := [(PySem.Expr.Name "classes" ⟨68, 74, 68, 81⟩), (PySem.Expr.Name "below" ⟨68, 83, 68, 88⟩)]) (keywords := []) (pos := ⟨68, 66, 68, 89⟩))]) (pos := ⟨68, 58, 68, 89⟩))], is_async := 0 : PySem.Comprehension }]) (scope := { kind := PySem.ScopeKind.function, names := [ (PySem.Str.ofString ".0", PySem.NameKind.local), (PySem.Str.ofString "below", PySem.NameKind.local), (PySem.Str.ofString "line_up", PySem.NameKind.globalImplicit), (PySem.Str.ofString "classes", PySem.NameKind.free), (PySem.Str.ofString "name", PySem.NameKind.free)], isGenerator := false, isCoroutine := false, more := [] : PySem.Scope }) (pos := ⟨68, 17, 68, 90⟩))]) (keywords := []) (pos := ⟨68, 11, 68, 91⟩)))) (pos := ⟨68, 4, 68, 91⟩))]) (decorator_list := []) (returns := none) (type_params := []) (scope := { kind := PySem.ScopeKind.function, names := [ (PySem.Str.ofString "classes", PySem.NameKind.cell), (PySem.Str.ofString "name", PySem.NameKind.cell), (PySem.Str.ofString "tuple", PySem.NameKind.globalImplicit), (PySem.Str.ofString "names_of", PySem.NameKind.globalImplicit)], isGenerator := false, isCoroutine := false, more := [ (PySem.Str.ofString "fast", (PySem.Const.str "classes")), (PySem.Str.ofString "fast", (PySem.Const.str "name")), (PySem.Str.ofString "fast", (PySem.Const.str "below"))] : PySem.Scope }) (tscope := none) (bind := "line_down") (pos := ⟨67, 0, 68, 91⟩))
def s_fields_up : Stmt := (PySem.Stmt.FunctionDef (name := "fields_up") (args := { posonlyargs := [], args := [ { arg := "classes", annotation := none, pos := ⟨69, 14, 69, 21⟩ : PySem.Arg }, { arg := "name", annotation := none, pos := ⟨69, 23, 69, 27⟩ : PySem.Arg }], vararg := none, kwonlyargs := [], kw_defaults := [], kwarg := none, defaults := [] : PySem.Arguments }) (body := [ (PySem.Stmt.Assign (targets := [(PySem.Expr.Name "pairs" ⟨70, 4, 70, 9⟩)]) (value := (PySem.Expr.List [] ⟨70, 12, 70, 14⟩)) (pos := ⟨70, 4, 70, 14⟩)), (PySem.Stmt.For (target := (PySem.Expr.Name "upper" ⟨71, 8, 71, 13⟩)) (iter := (PySem.Expr.Subscript (value := (PySem.Expr.Call (func := (PySem.Expr.Name "line_up" ⟨71, 17, 71, 24⟩)) (args := [(PySem.Expr.Name "classes" ⟨71, 25, 71, 32⟩), (PySem.Expr.Name "name" ⟨71, 34, 71, 38⟩)]) (keywords := []) (pos := ⟨71, 17, 71, 39⟩))) (slice := (PySem.Expr.Slice (lower := none) (upper := none) (step := (some (PySem.Expr.UnaryOp (op := PySem.UnaryOp.USub) (operand := (PySem.Expr.Constant (PySem.Const.int 1) 0 ⟨71, 43, 71, 44⟩)) (pos := ⟨71, 42, 71, 44⟩)))) (pos := ⟨71, 40, 71, 44⟩))) (pos := ⟨71, 17, 71, 45⟩))) (body := [ (PySem.Stmt.Expr (value := (PySem.Expr.Call (func := (PySem.Expr.Attribute (PySem.Expr.Name "pairs" ⟨72, 8, 72, 13⟩) "extend" ⟨72, 8, 72, 20⟩)) (args := [ (PySem.Expr.Subscript (value := (PySem.Expr.Call (func := (PySem.Expr.Name "class_of" ⟨72, 21, 72, 29⟩)) (args := [(PySem.Expr.Name "classes" ⟨72, 30, 72, 37⟩), (PySem.Expr.Name "upper" ⟨72, 39, 72, 44⟩)]) (keywords := []) (pos := ⟨72, 21, 72, 45⟩))) (slice := (PySem.Expr.Constant (PySem.Const.int 2) 0 ⟨72, 46, 72, 47⟩)) (pos := ⟨72, 21, 72, 48⟩))]) (keywords := []) (pos := ⟨72, 8, 72, 49⟩))) (pos := ⟨72, 8, 72, 49⟩))]) (orelse := []) (pos := ⟨71, 4, 72, 49⟩)), (PySem.Stmt.Return (value := (some (PySem.Expr.Call (func := (PySem.Expr.Name "tuple" ⟨73, 11, 73, 16⟩)) (args := [(PySem.Expr.Name "pairs" ⟨73, 17, 73, 22⟩)]) (keywords := []) (pos := ⟨73, 11, 73, 23⟩)))) (pos := ⟨73, 4, 73, 23⟩))]) (decorator_list := []) (returns := none) (type_params := []) (scope := { kind := PySem.ScopeKind.function, names := [ (PySem.Str.ofString "classes", PySem.NameKind.local), (PySem.Str.ofString "name", PySem.NameKind.local), (PySem.Str.ofString "pairs", PySem.NameKind.local), (PySem.Str.ofString "upper", PySem.NameKind.local), (PySem.Str.ofString "line_up", PySem.NameKind.globalImplicit), (PySem.Str.ofString "class_of", PySem.NameKind.globalImplicit), (PySem.Str.ofString "tuple", PySem.NameKind.globalImplicit)], isGenerator := false, isCoroutine := false, more := [] : PySem.Scope }) (tscope := none) (bind := "fields_up") (pos := ⟨69, 0, 73, 23⟩))
def s_field_kind : Stmt := (PySem.Stmt.FunctionDef (name := "field_kind") (args := { posonlyargs := [], args := [ { arg := "classes", annotation := none, pos := ⟨74, 15, 74, 22⟩ : PySem.Arg }, { arg := "name", annotation := none, pos := ⟨74, 24, 74, 28⟩ : PySem.Arg }, { arg := "word", annotation := none, pos := ⟨74, 30, 74, 34⟩ : PySem.Arg }], vararg := none, kwonlyargs := [], kw_defaults := [], kwarg := none, defaults := [] : PySem.Arguments }) (body := [ (PySem.Stmt.For (target := (PySem.Expr.Tuple (elts := [(PySem.Expr.Name "own" ⟨75, 8, 75, 11⟩), (PySem.Expr.Name "kind" ⟨75, 13, 75, 17⟩)]) (k := 0) (pos := ⟨75, 8, 75, 17⟩))) (iter := (PySem.Expr.Call (func := (PySem.Expr.Name "fields_up" ⟨75, 21, 75, 30⟩)) (args := [(PySem.Expr.Name "classes" ⟨75, 31, 75, 38⟩), (PySem.Expr.Name "name" ⟨75, 40, 75, 44⟩)]) (keywords := []) (pos := ⟨75, 21, 75, 45⟩))) (body := [ (PySem.Stmt.If (test := (PySem.Expr.Compare (left := (PySem.Expr.Name "own" ⟨76, 11, 76, 14⟩)) (ops := [PySem.CmpOp.Eq]) (comparators := [(PySem.Expr.Name "word" ⟨76, 18, 76, 22⟩)]) (pos := ⟨76, 11, 76, 22⟩))) (body := [(PySem.Stmt.Return (some (PySem.Expr.Name "kind" ⟨77, 19, 77, 23⟩)) ⟨77, 12, 77, 23⟩)]) (orelse := []) (pos := ⟨76, 8, 77, 23⟩))]) (orelse := []) (pos := ⟨75, 4, 77, 23⟩)), (PySem.Stmt.Return (some (PySem.Expr.Constant PySem.Const.none 0 ⟨78, 11, 78, 15⟩)) ⟨78, 4, 78, 15⟩)]) (decorator_list := []) (returns := none) (type_params := []) (scope := { kind := PySem.ScopeKind.function, names := [ (PySem.Str.ofString "classes", PySem.NameKind.local), (PySem.Str.ofString "name", PySem.NameKind.local), (PySem.Str.ofString "word", PySem.NameKind.local), (PySem.Str.ofString "own", PySem.NameKind.local), (PySem.Str.ofString "kind", PySem.NameKind.local), (PySem.Str.ofString "fields_up", PySem.NameKind.globalImplicit)], isGenerator := false, isCoroutine := false, more := [] : PySem.Scope }) (tscope := none) (bind := "field_kind") (pos := ⟨74, 0, 78, 15⟩))
def s_nearest : Stmt := (PySem.Stmt.FunctionDef (name := "nearest") (args := { posonlyargs := [], args := [ { arg := "classes", annotation := none, pos := ⟨79, 12, 79, 19⟩ : PySem.Arg }, { arg := "name", annotation := none, pos := ⟨79, 21, 79, 25⟩ : PySem.Arg }, { arg := "word", annotation := none, pos := ⟨79, 27, 79, 31⟩ : PySem.Arg }], vararg := none, kwonlyargs := [], kw_defaults := [], kwarg := none, defaults := [] : PySem.Arguments }) (body := [ (PySem.Stmt.For (target := (PySem.Expr.Name "upper" ⟨80, 8, 80, 13⟩)) (iter := (PySem.Expr.Call (func := (PySem.Expr.Name "line_up" ⟨80, 17, 80, 24⟩)) (args := [(PySem.Expr.Name "classes" ⟨80, 25, 80, 32⟩), (PySem.Expr.Name "name" ⟨80, 34, 80, 38⟩)]) (keywords := []) (pos := ⟨80, 17, 80, 39⟩))) (body := [ (PySem.Stmt.For (target := (PySem.Expr.Tuple (elts := [(PySem.Expr.Name "place" ⟨81, 12, 81, 17⟩), (PySem.Expr.Name "method" ⟨81, 19, 81, 25⟩)]) (k := 0) (pos := ⟨81, 12, 81, 25⟩))) (iter := (PySem.Expr.Call (func := (PySem.Expr.Name "enumerate" ⟨81, 29, 81, 38⟩)) (args := [ (PySem.Expr.Subscript (value := (PySem.Expr.Call (func := (PySem.Expr.Name "class_of" ⟨81, 39, 81, 47⟩)) (args := [(PySem.Expr.Name "classes" ⟨81, 48, 81, 55⟩), (PySem.Expr.Name "upper" ⟨81, 57, 81, 62⟩)]) (keywords := []) (pos := ⟨81, 39, 81, 63⟩))) (slice := (PySem.Expr.Constant (PySem.Const.int 3) 0 ⟨81, 64, 81, 65⟩)) (pos := ⟨81, 39, 81, 66⟩))]) (keywords := []) (pos := ⟨81, 29, 81, 67⟩))) (body := [ (PySem.Stmt.If (test := (PySem.Expr.Compare (left := (PySem.Expr.Subscript (value := (PySem.Expr.Name "method" ⟨82, 15, 82, 21⟩)) (slice := (PySem.Expr.Constant (PySem.Const.int 0) 0 ⟨82, 22, 82, 23⟩)) (pos := ⟨82, 15, 82, 24⟩))) (ops := [PySem.CmpOp.Eq]) (comparators := [(PySem.Expr.Name "word" ⟨82, 28, 82, 32⟩)]) (pos := ⟨82, 15, 82, 32⟩))) (body := [ (PySem.Stmt.Return (value := (some (PySem.Expr.Tuple (elts := [(PySem.Expr.Name "upper" ⟨83, 24, 83, 29⟩), (PySem.Expr.Name "place" ⟨83, 31, 83, 36⟩)]) (k := 0) (pos := ⟨83, 23, 83, 37⟩)))) (pos := ⟨83, 16, 83, 37⟩))]) (orelse := []) (pos := ⟨82, 12, 83, 37⟩))]) (orelse := []) (pos := ⟨81, 8, 83, 37⟩))]) (orelse := []) (pos := ⟨80, 4, 83, 37⟩)), (PySem.Stmt.Return (some (PySem.Expr.Constant PySem.Const.none 0 ⟨84, 11, 84, 15⟩)) ⟨84, 4, 84, 15⟩)]) (decorator_list := []) (returns := none) (type_params := []) (scope := { kind := PySem.ScopeKind.function, names := [ (PySem.Str.ofString "classes", PySem.NameKind.local), (PySem.Str.ofString "name", PySem.NameKind.local), (PySem.Str.ofString "word", PySem.NameKind.local), (PySem.Str.ofString "upper", PySem.NameKind.local), (PySem.Str.ofString "place", PySem.NameKind.local), (PySem.Str.ofString "method", PySem.NameKind.local), (PySem.Str.ofString "line_up", PySem.NameKind.globalImplicit), (PySem.Str.ofString "enumerate", PySem.NameKind.globalImplicit), (PySem.Str.ofString "class_of", PySem.NameKind.globalImplicit)], isGenerator := false, isCoroutine := false, more := [] : PySem.Scope }) (tscope := none) (bind := "nearest") (pos := ⟨79, 0, 84, 15⟩))
def s_method_at : Stmt := (PySem.Stmt.FunctionDef (name := "method_at") (args := { posonlyargs := [], args := [ { arg := "classes", annotation := none, pos := ⟨85, 14, 85, 21⟩ : PySem.Arg }, { arg := "name", annotation := none, pos := ⟨85, 23, 85, 27⟩ : PySem.Arg }, { arg := "place", annotation := none, pos := ⟨85, 29, 85, 34⟩ : PySem.Arg }], vararg := none, kwonlyargs := [], kw_defaults := [], kwarg := none, defaults := [] : PySem.Arguments }) (body := [ (PySem.Stmt.Return (value := (some (PySem.Expr.Subscript (value := (PySem.Expr.Subscript (value := (PySem.Expr.Call (func := (PySem.Expr.Name "class_of" ⟨86, 11, 86, 19⟩)) (args := [(PySem.Expr.Name "classes" ⟨86, 20, 86, 27⟩), (PySem.Expr.Name "name" ⟨86, 29, 86, 33⟩)]) (keywords := []) (pos := ⟨86, 11, 86, 34⟩))) (slice := (PySem.Expr.Constant (PySem.Const.int 3) 0 ⟨86, 35, 86, 36⟩)) (pos := ⟨86, 11, 86, 37⟩))) (slice := (PySem.Expr.Name "place" ⟨86, 38, 86, 43⟩)) (pos := ⟨86, 11, 86, 44⟩)))) (pos := ⟨86, 4, 86, 44⟩))]) (decorator_list := []) (returns := none) (type_params := []) (scope := { kind := PySem.ScopeKind.function, names := [ (PySem.Str.ofString "classes", PySem.NameKind.local), (PySem.Str.ofString "name", PySem.NameKind.local), (PySem.Str.ofString "place", PySem.NameKind.local), (PySem.Str.ofString "class_of", PySem.NameKind.globalImplicit)], isGenerator := false, isCoroutine := false, more := [] : PySem.Scope }) (tscope := none) (bind := "method_at") (pos := ⟨85, 0, 86, 44⟩))
def s_nearest_method : Stmt := (PySem.Stmt.FunctionDef (name := "nearest_method") (args := { posonlyargs := [], args := [ { arg := "classes", annotation := none, pos := ⟨87, 19, 87, 26⟩ : PySem.Arg }, { arg := "name", annotation := none, pos := ⟨87, 28, 87, 32⟩ : PySem.Arg }, { arg := "word", annotation := none, pos := ⟨87, 34, 87, 38⟩ : PySem.Arg }], vararg := none, kwonlyargs := [], kw_defaults := [], kwarg := none, defaults := [] : PySem.Arguments }) (body := [ (PySem.Stmt.Assign (targets := [ (PySem.Expr.Tuple (elts := [(PySem.Expr.Name "upper" ⟨88, 4, 88, 9⟩), (PySem.Expr.Name "place" ⟨88, 11, 88, 16⟩)]) (k := 0) (pos := ⟨88, 4, 88, 16⟩))]) (value := (PySem.Expr.Call (func := (PySem.Expr.Name "nearest" ⟨88, 19, 88, 26⟩)) (args := [ (PySem.Expr.Name "classes" ⟨88, 27, 88, 34⟩), (PySem.Expr.Name "name" ⟨88, 36, 88, 40⟩), (PySem.Expr.Name "word" ⟨88, 42, 88, 46⟩)]) (keywords := []) (pos := ⟨88, 19, 88, 47⟩))) (pos := ⟨88, 4, 88, 47⟩)), (PySem.Stmt.Return (value := (some (PySem.Expr.Call (func := (PySem.Expr.Name "method_at" ⟨89, 11, 89, 20⟩)) (args := [ (PySem.Expr.Name "classes" ⟨89, 21, 89, 28⟩), (PySem.Expr.Name "upper" ⟨89, 30, 89, 35⟩), (PySem.Expr.Name "place" ⟨89, 37, 89, 42⟩)]) (keywords := []) (pos := ⟨89, 11, 89, 43⟩)))) (pos := ⟨89, 4, 89, 43⟩))]) (decorator_list := []) (returns := none) (type_params := []) (scope := { kind := PySem.ScopeKind.function, names := [ (PySem.Str.ofString "classes", PySem.NameKind.local), (PySem.Str.ofString "name", PySem.NameKind.local), (PySem.Str.ofString "word", PySem.NameKind.local), (PySem.Str.ofString "upper", PySem.NameKind.local), (PySem.Str.ofString "place", PySem.NameKind.local), (PySem.Str.ofString "nearest", PySem.NameKind.globalImplicit), (PySem.Str.ofString "method_at", PySem.NameKind.globalImplicit)], isGenerator := false, isCoroutine := false, more := [] : PySem.Scope }) (tscope := none) (bind := "nearest_method") (pos := ⟨87, 0, 89, 43⟩))
def s_is_word : Stmt := (PySem.Stmt.FunctionDef (name := "is_word") (args := { posonlyargs := [], args := [{ arg := "value", annotation := none, pos := ⟨92, 12, 92, 17⟩ : PySem.Arg }], vararg := none, kwonlyargs := [], kw_defaults := [], kwarg := none, defaults := [] : PySem.Arguments }) (body := [ (PySem.Stmt.If (test := (PySem.Expr.BoolOp (op := PySem.BoolOp.Or) (values := [ (PySem.Expr.UnaryOp (op := PySem.UnaryOp.Not) (operand := (PySem.Expr.Call (func := (PySem.Expr.Name "isinstance" ⟨93, 11, 93, 21⟩)) (args := [(PySem.Expr.Name "value" ⟨93, 22, 93, 27⟩), (PySem.Expr.Name "str" ⟨93, 29, 93, 32⟩)]) (keywords := []) (pos := ⟨93, 11, 93, 33⟩))) (pos := ⟨93, 7, 93, 33⟩)), (PySem.Expr.UnaryOp (op := PySem.UnaryOp.Not) (operand := (PySem.Expr.Compare (left := (PySem.Expr.Constant (PySem.Const.int 1) 0 ⟨93, 41, 93, 42⟩)) (ops := [PySem.CmpOp.LtE, PySem.CmpOp.LtE]) (comparators := [ (PySem.Expr.Call (func := (PySem.Expr.Name "len" ⟨93, 46, 93, 49⟩)) (args := [(PySem.Expr.Name "value" ⟨93, 50, 93, 55⟩)]) (keywords := []) (pos := ⟨93, 46, 93, 56⟩)), (PySem.Expr.Constant (PySem.Const.int 6) 0 ⟨93, 60, 93, 61⟩)]) (pos := ⟨93, 41, 93, 61⟩))) (pos := ⟨93, 37, 93, 61⟩))]) (pos := ⟨93, 7, 93, 61⟩))) (body := [(PySem.Stmt.Return (some (PySem.Expr.Constant (PySem.Const.bool false) 0 ⟨94, 15, 94, 20⟩)) ⟨94, 8, 94, 20⟩)]) (orelse := []) (pos := ⟨93, 4, 94, 20⟩)), (PySem.Stmt.Return (value := (some (PySem.Expr.Call (func := (PySem.Expr.Name "all" ⟨95, 11, 95, 14⟩)) (args := [ (PySem.Expr.ListComp (elt := (PySem.Expr.Compare (left := (PySem.Expr.Name "letter" ⟨95, 16, 95, 22⟩)) (ops := [PySem.CmpOp.In]) (comparators := [(PySem.Expr.Name "LETTERS" ⟨95, 26, 95, 33⟩)]) (pos := ⟨95, 16, 95, 33⟩))) (generators := [ { target := (PySem.Expr.Name "letter" ⟨95, 38, 95, 44⟩), iter := (PySem.Expr.Name "value" ⟨95, 48, 95, 53⟩), ifs := [], is_async := 0 : PySem.Comprehension }]) (scope := { kind := PySem.ScopeKind.function, names := [ (PySem.Str.ofString ".0", PySem.NameKind.local), (PySem.Str.ofString "letter", PySem.NameKind.local), (PySem.Str.ofString "LETTERS", PySem.NameKind.globalImplicit)], isGenerator := false, isCoroutine := false, more := [] : PySem.Scope }) (pos := ⟨95, 15, 95, 54⟩))]) (keywords := []) (pos := ⟨95, 11, 95, 55⟩)))) (pos := ⟨95, 4, 95, 55⟩))]) (decorator_list := []) (returns := none) (type_params := []) (scope := { kind := PySem.ScopeKind.function, names := [ (PySem.Str.ofString "value", PySem.NameKind.local), (PySem.Str.ofString "isinstance", PySem.NameKind.globalImplicit), (PySem.Str.ofString "str", PySem.NameKind.globalImplicit), (PySem.Str.ofString "len", PySem.NameKind.globalImplicit), (PySem.Str.ofString "all", PySem.NameKind.globalImplicit)], isGenerator := false, isCoroutine := false, more := [ (PySem.Str.ofString "fast", (PySem.Const.str "value")), (PySem.Str.ofString "fast", (PySem.Const.str "letter"))] : PySem.Scope }) (tscope := none) (bind := "is_word") (pos := ⟨92, 0, 95, 55⟩))
def s_is_number : Stmt := (PySem.Stmt.FunctionDef (name := "is_number") (args := { posonlyargs := [], args := [ { arg := "value", annotation := none, pos := ⟨96, 14, 96, 19⟩ : PySem.Arg }, { arg := "most", annotation := none, pos := ⟨96, 21, 96, 25⟩ : PySem.Arg }], vararg := none, kwonlyargs := [], kw_defaults := [], kwarg := none, defaults := [] : PySem.Arguments }) (body := [ (PySem.Stmt.Return (value := (some (PySem.Expr.BoolOp (op := PySem.BoolOp.And) (values := [ (PySem.Expr.Call (func := (PySem.Expr.Name "isinstance" ⟨97, 11, 97, 21⟩)) (args := [(PySem.Expr.Name "value" ⟨97, 22, 97, 27⟩), (PySem.Expr.Name "int" ⟨97, 29, 97, 32⟩)]) (keywords := []) (pos := ⟨97, 11, 97, 33⟩)), (PySem.Expr.UnaryOp (op := PySem.UnaryOp.Not) (operand := (PySem.Expr.Call (func := (PySem.Expr.Name "isinstance" ⟨97, 43, 97, 53⟩)) (args := [(PySem.Expr.Name "value" ⟨97, 54, 97, 59⟩), (PySem.Expr.Name "bool" ⟨97, 61, 97, 65⟩)]) (keywords := []) (pos := ⟨97, 43, 97, 66⟩))) (pos := ⟨97, 39, 97, 66⟩)), (PySem.Expr.Compare (left := (PySem.Expr.Constant (PySem.Const.int 0) 0 ⟨97, 73, 97, 74⟩)) (ops := [PySem.CmpOp.LtE, PySem.CmpOp.LtE]) (comparators := [(PySem.Expr.Name "value" ⟨97, 78, 97, 83⟩), (PySem.Expr.Name "most" ⟨97, 87, 97, 91⟩)]) (pos := ⟨97, 73, 97, 91⟩))]) (pos := ⟨97, 11, 97, 92⟩)))) (pos := ⟨97, 4, 97, 92⟩))]) (decorator_list := []) (returns := none) (type_params := []) (scope := { kind := PySem.ScopeKind.function, names := [ (PySem.Str.ofString "value", PySem.NameKind.local), (PySem.Str.ofString "most", PySem.NameKind.local), (PySem.Str.ofString "isinstance", PySem.NameKind.globalImplicit), (PySem.Str.ofString "int", PySem.NameKind.globalImplicit), (PySem.Str.ofString "bool", PySem.NameKind.globalImplicit)], isGenerator := false, isCoroutine := false, more := [] : PySem.Scope }) (tscope := none) (bind := "is_number") (pos := ⟨96, 0, 97, 92⟩))
def s_is_tuple : Stmt := (PySem.Stmt.FunctionDef (name := "is_tuple") (args := { posonlyargs := [], args := [ { arg := "value", annotation := none, pos := ⟨98, 13, 98, 18⟩ : PySem.Arg }, { arg := "least", annotation := none, pos := ⟨98, 20, 98, 25⟩ : PySem.Arg }, { arg := "most", annotation := none, pos := ⟨98, 27, 98, 31⟩ : PySem.Arg }], vararg := none, kwonlyargs := [], kw_defaults := [], kwarg := none, defaults := [] : PySem.Arguments }) (body := [ (PySem.Stmt.Return (value := (some (PySem.Expr.BoolOp (op := PySem.BoolOp.And) (values := [ (PySem.Expr.Call (func := (PySem.Expr.Name "isinstance" ⟨99, 11, 99, 21⟩)) (args := [(PySem.Expr.Name "value" ⟨99, 22, 99, 27⟩), (PySem.Expr.Name "tuple" ⟨99, 29, 99, 34⟩)]) (keywords := []) (pos := ⟨99, 11, 99, 35⟩)), (PySem.Expr.Compare (left := (PySem.Expr.Name "least" ⟨99, 40, 99, 45⟩)) (ops := [PySem.CmpOp.LtE, PySem.CmpOp.LtE]) (comparators := [ (PySem.Expr.Call (func := (PySem.Expr.Name "len" ⟨99, 49, 99, 52⟩)) (args := [(PySem.Expr.Name "value" ⟨99, 53, 99, 58⟩)]) (keywords := []) (pos := ⟨99, 49, 99, 59⟩)), (PySem.Expr.Name "most" ⟨99, 63, 99, 67⟩)]) (pos := ⟨99, 40, 99, 67⟩))]) (pos := ⟨99, 11, 99, 67⟩)))) (pos := ⟨99, 4, 99, 67⟩))]) (decorator_list := []) (returns := none) (type_params := []) (scope := { kind := PySem.ScopeKind.function, names := [ (PySem.Str.ofString "value", PySem.NameKind.local), (PySem.Str.ofString "least", PySem.NameKind.local), (PySem.Str.ofString "most", PySem.NameKind.local), (PySem.Str.ofString "isinstance", PySem.NameKind.globalImplicit), (PySem.Str.ofString "tuple", PySem.NameKind.globalImplicit), (PySem.Str.ofString "len", PySem.NameKind.globalImplicit)], isGenerator := false, isCoroutine := false, more := [] : PySem.Scope }) (tscope := none) (bind := "is_tuple") (pos := ⟨98, 0, 99, 67⟩))
def s_can_be_part : Stmt := (PySem.Stmt.FunctionDef (name := "can_be_part") (args := { posonlyargs := [], args := [ { arg := "classes", annotation := none, pos := ⟨103, 16, 103, 23⟩ : PySem.Arg }, { arg := "many", annotation := none, pos := ⟨103, 25, 103, 29⟩ : PySem.Arg }, { arg := "part", annotation := none, pos := ⟨103, 31, 103, 35⟩ : PySem.Arg }, { arg := "step", annotation := none, pos := ⟨103, 37, 103, 41⟩ : PySem.Arg }, { arg := "value", annotation := none, pos := ⟨103, 43, 103, 48⟩ : PySem.Arg }], vararg := none, kwonlyargs := [], kw_defaults := [], kwarg := none, defaults := [] : PySem.Arguments }) (body := [ (PySem.Stmt.If (test := (PySem.Expr.Compare (left := (PySem.Expr.Name "part" ⟨104, 7, 104, 11⟩)) (ops := [PySem.CmpOp.Eq]) (comparators := [(PySem.Expr.Constant (PySem.Const.str "number") 0 ⟨104, 15, 104, 23⟩)]) (pos := ⟨104, 7, 104, 23⟩))) (body := [ (PySem.Stmt.Return (value := (some (PySem.Expr.Call (func := (PySem.Expr.Name "is_number" ⟨105, 15, 105, 24⟩)) (args := [ (PySem.Expr.Name "value" ⟨105, 25, 105, 30⟩), (PySem.Expr.Constant (PySem.Const.int 15) 0 ⟨105, 32, 105, 34⟩)]) (keywords := []) (pos := ⟨105, 15, 105, 35⟩)))) (pos := ⟨105, 8, 105, 35⟩))]) (orelse := []) (pos := ⟨104, 4, 105, 35⟩)), (PySem.Stmt.If (test := (PySem.Expr.Compare (left := (PySem.Expr.Name "part" ⟨106, 7, 106, 11⟩)) (ops := [PySem.CmpOp.Eq]) (comparators := [(PySem.Expr.Constant (PySem.Const.str "local") 0 ⟨106, 15, 106, 22⟩)]) (pos := ⟨106, 7, 106, 22⟩))) (body := [ (PySem.Stmt.Return (value := (some (PySem.Expr.Call (func := (PySem.Expr.Name "is_number" ⟨107, 15, 107, 24⟩)) (args := [(PySem.Expr.Name "value" ⟨107, 25, 107, 30⟩), (PySem.Expr.Constant (PySem.Const.int 3) 0 ⟨107, 32, 107, 33⟩)]) (keywords := []) (pos := ⟨107, 15, 107, 34⟩)))) (pos := ⟨107, 8, 107, 34⟩))]) (orelse := []) (pos := ⟨106, 4, 107, 34⟩)), (PySem.Stmt.If (test := (PySem.Expr.Compare (left := (PySem.Expr.Name "part" ⟨108, 7, 108, 11⟩)) (ops := [PySem.CmpOp.Eq]) (comparators := [(PySem.Expr.Constant (PySem.Const.str "step") 0 ⟨108, 15, 108, 21⟩)]) (pos := ⟨108, 7, 108, 21⟩))) (body := [ (PySem.Stmt.Return (value := (some (PySem.Expr.Call (func := (PySem.Expr.Name "is_number" ⟨109, 15, 109, 24⟩)) (args := [ (PySem.Expr.Name "value" ⟨109, 25, 109, 30⟩), (PySem.Expr.BinOp (left := (PySem.Expr.Name "many" ⟨109, 32, 109, 36⟩)) (op := PySem.Operator.Sub) (right := (PySem.Expr.Constant (PySem.Const.int 1) 0 ⟨109, 39, 109, 40⟩)) (pos := ⟨109, 32, 109, 40⟩))]) (keywords := []) (pos := ⟨109, 15, 109, 41⟩)))) (pos := ⟨109, 8, 109, 41⟩))]) (orelse := []) (pos := ⟨108, 4, 109, 41⟩)), (PySem.Stmt.If (test := (PySem.Expr.Compare (left := (PySem.Expr.Name "part" ⟨110, 7, 110, 11⟩)) (ops := [PySem.CmpOp.Eq]) (comparators := [(PySem.Expr.Constant (PySem.Const.str "class") 0 ⟨110, 15, 110, 22⟩)]) (pos := ⟨110, 7, 110, 22⟩))) (body := [ (PySem.Stmt.Return (value := (some (PySem.Expr.Call (func := (PySem.Expr.Name "is_class" ⟨111, 15, 111, 23⟩)) (args := [(PySem.Expr.Name "classes" ⟨111, 24, 111, 31⟩), (PySem.Expr.Name "value" ⟨111, 33, 111, 38⟩)]) (keywords := []) (pos := ⟨111, 15, 111, 39⟩)))) (pos := ⟨111, 8, 111, 39⟩))]) (orelse := []) (pos := ⟨110, 4, 111, 39⟩)), (PySem.Stmt.If (test := (PySem.Expr.Compare (left := (PySem.Expr.Name "part" ⟨112, 7, 112, 11⟩)) (ops := [PySem.CmpOp.Eq]) (comparators := [(PySem.Expr.Constant (PySem.Const.str "field") 0 ⟨112, 15, 112, 22⟩)]) (pos := ⟨112, 7, 112, 22⟩))) (body := [ (PySem.Stmt.Return (value := (some (PySem.Expr.Compare (left := (PySem.Expr.Call (func := (PySem.Expr.Name "field_kind" ⟨113, 15, 113, 25⟩)) (args := [ (PySem.Expr.Name "classes" ⟨113, 26, 113, 33⟩), (PySem.Expr.Subscript (value := (PySem.Expr.Name "step" ⟨113, 35, 113, 39⟩)) (slice := (PySem.Expr.Constant (PySem.Const.int 1) 0 ⟨113, 40, 113, 41⟩)) (pos := ⟨113, 35, 113, 42⟩)), (PySem.Expr.Name "value" ⟨113, 44, 113, 49⟩)]) (keywords := []) (pos := ⟨113, 15, 113, 50⟩))) (ops := [PySem.CmpOp.IsNot]) (comparators := [(PySem.Expr.Constant PySem.Const.none 0 ⟨113, 58, 113, 62⟩)]) (pos := ⟨113, 15, 113, 62⟩)))) (pos := ⟨113, 8, 113, 62⟩))]) (orelse := []) (pos := ⟨112, 4, 113, 62⟩)), (PySem.Stmt.Return (value := (some (PySem.Expr.Compare (left := (PySem.Expr.Call (func := (PySem.Expr.Name "nearest" ⟨114, 11, 114, 18⟩)) (args := [ (PySem.Expr.Name "classes" ⟨114, 19, 114, 26⟩), (PySem.Expr.Subscript (value := (PySem.Expr.Name "step" ⟨114, 28, 114, 32⟩)) (slice := (PySem.Expr.Constant (PySem.Const.int 1) 0 ⟨114, 33, 114, 34⟩)) (pos := ⟨114, 28, 114, 35⟩)), (PySem.Expr.Name "value" ⟨114, 37, 114, 42⟩)]) (keywords := []) (pos := ⟨114, 11, 114, 43⟩))) (ops := [PySem.CmpOp.IsNot]) (comparators := [(PySem.Expr.Constant PySem.Const.none 0 ⟨114, 51, 114, 55⟩)]) (pos := ⟨114, 11, 114, 55⟩)))) (pos := ⟨114, 4, 114, 55⟩))]) (decorator_list := []) (returns := none) (type_params := []) (scope := { kind := PySem.ScopeKind.function, names := [ (PySem.Str.ofString "classes", PySem.NameKind.local), (PySem.Str.ofString "many", PySem.NameKind.local), (PySem.Str.ofString "part", PySem.NameKind.local), (PySem.Str.ofString "step", PySem.NameKind.local), (PySem.Str.ofString "value", PySem.NameKind.local), (PySem.Str.ofString "is_number", PySem.NameKind.globalImplicit), (PySem.Str.ofString "is_class", PySem.NameKind.globalImplicit), (PySem.Str.ofString "field_kind", PySem.NameKind.globalImplicit), (PySem.Str.ofString "nearest", PySem.NameKind.globalImplicit)], isGenerator := false, isCoroutine := false, more := [] : PySem.Scope }) (tscope := none) (bind := "can_be_part") (pos := ⟨103, 0, 114, 55⟩))
def s_is_step : Stmt := (PySem.Stmt.FunctionDef (name := "is_step") (args := { posonlyargs := [], args := [ { arg := "classes", annotation := none, pos := ⟨115, 12, 115, 19⟩ : PySem.Arg }, { arg := "many", annotation := none, pos := ⟨115, 21, 115, 25⟩ : PySem.Arg }, { arg := "step", annotation := none, pos := ⟨115, 27, 115, 31⟩ : PySem.Arg }], vararg := none, kwonlyargs := [], kw_defaults := [], kwarg := none, defaults := [] : PySem.Arguments }) (body := [ (PySem.Stmt.If (test := (PySem.Expr.BoolOp (op := PySem.BoolOp.Or) (values := [ (PySem.Expr.UnaryOp (op := PySem.UnaryOp.Not) (operand := (PySem.Expr.Call (func := (PySem.Expr.Name "is_tuple" ⟨116, 11, 116, 19⟩)) (args := [ (PySem.Expr.Name "step" ⟨116, 20, 116, 24⟩), (PySem.Expr.Constant (PySem.Const.int 1) 0 ⟨116, 26, 116, 27⟩), (PySem.Expr.Constant (PySem.Const.int 3) 0 ⟨116, 29, 116, 30⟩)]) (keywords := []) (pos := ⟨116, 11, 116, 31⟩))) (pos := ⟨116, 7, 116, 31⟩)), (PySem.Expr.UnaryOp (op := PySem.UnaryOp.Not) (operand := (PySem.Expr.Call (func := (PySem.Expr.Name "isinstance" ⟨116, 39, 116, 49⟩)) (args := [ (PySem.Expr.Subscript (value := (PySem.Expr.Name "step" ⟨116, 50, 116, 54⟩)) (slice := (PySem.Expr.Constant (PySem.Const.int 0) 0 ⟨116, 55, 116, 56⟩)) (pos := ⟨116, 50, 116, 57⟩)), (PySem.Expr.Name "str" ⟨116, 59, 116, 62⟩)]) (keywords := []) (pos := ⟨116, 39, 116, 63⟩))) (pos := ⟨116, 35, 116, 63⟩)), (PySem.Expr.Compare (left := (PySem.Expr.Subscript (value := (PySem.Expr.Name "step" ⟨116, 67, 116, 71⟩)) (slice := (PySem.Expr.Constant (PySem.Const.int 0) 0 ⟨116, 72, 116, 73⟩)) (pos := ⟨116, 67, 116, 74⟩))) (ops := [PySem.CmpOp.NotIn]) (comparators := [(PySem.Expr.Name "PARTS" ⟨116, 82, 116, 87⟩)]) (pos := ⟨116, 67, 116, 87⟩))]) (pos := ⟨116, 7, 116, 87⟩))) (body := [ (PySem.Stmt.Return (value := (some (PySem.Expr.Constant (PySem.Const.bool false) 0 ⟨117, 15, 117, 20⟩))) (pos := ⟨117, 8, 117, 20⟩))]) (orelse := []) (pos := ⟨116, 4, 117, 20⟩)), (PySem.Stmt.Assign (targets := [(PySem.Expr.Name "parts" ⟨118, 4, 118, 9⟩)]) (value := (PySem.Expr.Subscript (value := (PySem.Expr.Name "PARTS" ⟨118, 12, 118, 17⟩)) (slice := (PySem.Expr.Subscript (value := (PySem.Expr.Name "step" ⟨118, 18, 118, 22⟩)) (slice := (PySem.Expr.Constant (PySem.Const.int 0) 0 ⟨118, 23, 118, 24⟩)) (pos := ⟨118, 18, 118, 25⟩))) (pos := ⟨118, 12, 118, 26⟩))) (pos := ⟨118, 4, 118, 26⟩)), (PySem.Stmt.If (test := (PySem.Expr.Compare (left := (PySem.Expr.Call (func := (PySem.Expr.Name "len" ⟨119, 7, 119, 10⟩)) (args := [(PySem.Expr.Name "step" ⟨119, 11, 119, 15⟩)]) (keywords := []) (pos := ⟨119, 7, 119, 16⟩))) (ops := [PySem.CmpOp.NotEq]) (comparators := [ (PySem.Expr.BinOp (left := (PySem.Expr.Call (func := (PySem.Expr.Name "len" ⟨119, 20, 119, 23⟩)) (args := [(PySem.Expr.Name "parts" ⟨119, 24, 119, 29⟩)]) (keywords := []) (pos := ⟨119, 20, 119, 30⟩))) (op := PySem.Operator.Add) (right := (PySem.Expr.Constant (PySem.Const.int 1) 0 ⟨119, 33, 119, 34⟩)) (pos := ⟨119, 20, 119, 34⟩))]) (pos := ⟨119, 7, 119, 34⟩))) (body := [ (PySem.Stmt.Return (value := (some (PySem.Expr.Constant (PySem.Const.bool false) 0 ⟨120, 15, 120, 20⟩))) (pos := ⟨120, 8, 120, 20⟩))]) (orelse := []) (pos := ⟨119, 4, 120, 20⟩)), (PySem.Stmt.For (target := (PySem.Expr.Tuple (elts := [(PySem.Expr.Name "part" ⟨121, 8, 121, 12⟩), (PySem.Expr.Name "value" ⟨121, 14, 121, 19⟩)]) (k := 0) (pos := ⟨121, 8, 121, 19⟩))) (iter := (PySem.Expr.Call (func := (PySem.Expr.Name "zip" ⟨121, 23, 121, 26⟩)) (args := [ (PySem.Expr.Name "parts" ⟨121, 27, 121, 32⟩), (PySem.Expr.Subscript (value := (PySem.Expr.Name "step" ⟨121, 34, 121, 38⟩)) (slice := (PySem.Expr.Slice (lower := (some (PySem.Expr.Constant (PySem.Const.int 1) 0 ⟨121, 39, 121, 40⟩))) (upper := none) (step := none) (pos := ⟨121, 39, 121, 41⟩))) (pos := ⟨121, 34, 121, 42⟩))]) (keywords := []) (pos := ⟨121, 23, 121, 43⟩))) (body := [ (PySem.Stmt.If (test := (PySem.Expr.UnaryOp (op := PySem.UnaryOp.Not) (operand := (PySem.Expr.Call (func := (PySem.Expr.Name "can_be_part" ⟨122, 15, 122, 26⟩)) (args := [ (PySem.Expr.Name "classes" ⟨122, 27, 122, 34⟩), (PySem.Expr.Name "many" ⟨122, 36, 122, 40⟩), (PySem.Expr.Name "part" ⟨122, 42, 122, 46⟩), (PySem.Expr.Name "step" ⟨122, 48, 122, 52⟩), (PySem.Expr.Name "value" ⟨122, 54, 122, 59⟩)]) (keywords := []) (pos := ⟨122, 15, 122, 60⟩))) (pos := ⟨122, 11, 122, 60⟩))) (body := [ (PySem.Stmt.Return (value := (some (PySem.Expr.Constant (PySem.Const.bool false) 0 ⟨123, 19, 123, 24⟩))) (pos := ⟨123, 12, 123, 24⟩))]) (orelse := []) (pos := ⟨122, 8, 123, 24⟩))]) (orelse := []) (pos := ⟨121, 4, 123, 24⟩)), (PySem.Stmt.Return (value := (some (PySem.Expr.Constant (PySem.Const.bool true) 0 ⟨124, 11, 124, 15⟩))) (pos := ⟨124, 4, 124, 15⟩))]) (decorator_list := []) (returns := none) (type_params := []) (scope := { kind := PySem.ScopeKind.function, names := [ (PySem.Str.ofString "classes", PySem.NameKind.local), (PySem.Str.ofString "many", PySem.NameKind.local), (PySem.Str.ofString "step", PySem.NameKind.local), (PySem.Str.ofString "parts", PySem.NameKind.local), (PySem.Str.ofString "part", PySem.NameKind.local), (PySem.Str.ofString "value", PySem.NameKind.local), (PySem.Str.ofString "is_tuple", PySem.NameKind.globalImplicit), (PySem.Str.ofString "isinstance", PySem.NameKind.globalImplicit), (PySem.Str.ofString "str", PySem.NameKind.globalImplicit), (PySem.Str.ofString "PARTS", PySem.NameKind.globalImplicit), (PySem.Str.ofString "len", PySem.NameKind.globalImplicit), (PySem.Str.ofString "zip", PySem.NameKind.globalImplicit), (PySem.Str.ofString "can_be_part", PySem.NameKind.globalImplicit)], isGenerator := false, isCoroutine := false, more := [] : PySem.Scope }) (tscope := none) (bind := "is_step") (pos := ⟨115, 0, 124, 15⟩))
def s_bad_step : Stmt := (PySem.Stmt.FunctionDef (name := "bad_step") (args := { posonlyargs := [], args := [ { arg := "classes", annotation := none, pos := ⟨125, 13, 125, 20⟩ : PySem.Arg }, { arg := "code", annotation := none, pos := ⟨125, 22, 125, 26⟩ : PySem.Arg }], vararg := none, kwonlyargs := [], kw_defaults := [], kwarg := none, defaults := [] : PySem.Arguments }) (body := [ (PySem.Stmt.Assign (targets := [(PySem.Expr.Name "many" ⟨126, 4, 126, 8⟩)]) (value := (PySem.Expr.Call (func := (PySem.Expr.Name "len" ⟨126, 11, 126, 14⟩)) (args := [(PySem.Expr.Name "code" ⟨126, 15, 126, 19⟩)]) (keywords := []) (pos := ⟨126, 11, 126, 20⟩))) (pos := ⟨126, 4, 126, 20⟩)), (PySem.Stmt.For (target := (PySem.Expr.Tuple (elts := [(PySem.Expr.Name "index" ⟨127, 8, 127, 13⟩), (PySem.Expr.Name "step" ⟨127, 15, 127, 19⟩)]) (k := 0) (pos := ⟨127, 8, 127, 19⟩))) (iter := (PySem.Expr.Call (func := (PySem.Expr.Name "enumerate" ⟨127, 23, 127, 32⟩)) (args := [(PySem.Expr.Name "code" ⟨127, 33, 127, 37⟩)]) (keywords := []) (pos := ⟨127, 23, 127, 38⟩))) (body := [ (PySem.Stmt.If (test := (PySem.Expr.UnaryOp (op := PySem.UnaryOp.Not) (operand := (PySem.Expr.Call (func := (PySem.Expr.Name "is_step" ⟨128, 15, 128, 22⟩)) (args := [ (PySem.Expr.Name "classes" ⟨128, 23, 128, 30⟩), (PySem.Expr.Name "many" ⟨128, 32, 128, 36⟩), (PySem.Expr.Name "step" ⟨128, 38, 128, 42⟩)]) (keywords := []) (pos := ⟨128, 15, 128, 43⟩))) (pos := ⟨128, 11, 128, 43⟩))) (body := [(PySem.Stmt.Return (some (PySem.Expr.Name "index" ⟨129, 19, 129, 24⟩)) ⟨129, 12, 129, 24⟩)]) (orelse := []) (pos := ⟨128, 8, 129, 24⟩))]) (orelse := []) (pos := ⟨127, 4, 129, 24⟩)), (PySem.Stmt.If (test := (PySem.Expr.Compare (left := (PySem.Expr.Subscript (value := (PySem.Expr.Subscript (value := (PySem.Expr.Name "code" ⟨130, 7, 130, 11⟩)) (slice := (PySem.Expr.UnaryOp (op := PySem.UnaryOp.USub) (operand := (PySem.Expr.Constant (PySem.Const.int 1) 0 ⟨130, 13, 130, 14⟩)) (pos := ⟨130, 12, 130, 14⟩))) (pos := ⟨130, 7, 130, 15⟩))) (slice := (PySem.Expr.Constant (PySem.Const.int 0) 0 ⟨130, 16, 130, 17⟩)) (pos := ⟨130, 7, 130, 18⟩))) (ops := [PySem.CmpOp.NotIn]) (comparators := [(PySem.Expr.Name "LAST" ⟨130, 26, 130, 30⟩)]) (pos := ⟨130, 7, 130, 30⟩))) (body := [ (PySem.Stmt.Return (value := (some (PySem.Expr.BinOp (left := (PySem.Expr.Name "many" ⟨131, 15, 131, 19⟩)) (op := PySem.Operator.Sub) (right := (PySem.Expr.Constant (PySem.Const.int 1) 0 ⟨131, 22, 131, 23⟩)) (pos := ⟨131, 15, 131, 23⟩)))) (pos := ⟨131, 8, 131, 23⟩))]) (orelse := []) (pos := ⟨130, 4, 131, 23⟩)), (PySem.Stmt.Return (some (PySem.Expr.Constant PySem.Const.none 0 ⟨132, 11, 132, 15⟩)) ⟨132, 4, 132, 15⟩)]) (decorator_list := []) (returns := none) (type_params := []) (scope := { kind := PySem.ScopeKind.function, names := [ (PySem.Str.ofString "classes", PySem.NameKind.local), (PySem.Str.ofString "code", PySem.NameKind.local), (PySem.Str.ofString "many", PySem.NameKind.local), (PySem.Str.ofString "index", PySem.NameKind.local), (PySem.Str.ofString "step", PySem.NameKind.local), (PySem.Str.ofString "len", PySem.NameKind.globalImplicit), (PySem.Str.ofString "enumerate", PySem.NameKind.globalImplicit), (PySem.Str.ofString "is_step", PySem.NameKind.globalImplicit), (PySem.Str.ofString "LAST", PySem.NameKind.globalImplicit)], isGenerator := false, isCoroutine := false, more := [] : PySem.Scope }) (tscope := none) (bind := "bad_step") (pos := ⟨125, 0, 132, 15⟩))
def s_is_handler : Stmt := (PySem.Stmt.FunctionDef (name := "is_handler") (args := { posonlyargs := [], args := [ { arg := "classes", annotation := none, pos := ⟨133, 15, 133, 22⟩ : PySem.Arg }, { arg := "many", annotation := none, pos := ⟨133, 24, 133, 28⟩ : PySem.Arg }, { arg := "row", annotation := none, pos := ⟨133, 30, 133, 33⟩ : PySem.Arg }], vararg := none, kwonlyargs := [], kw_defaults := [], kwarg := none, defaults := [] : PySem.Arguments }) (body := [ (PySem.Stmt.If (test := (PySem.Expr.BoolOp (op := PySem.BoolOp.Or) (values := [ (PySem.Expr.UnaryOp (op := PySem.UnaryOp.Not) (operand := (PySem.Expr.Call (func := (PySem.Expr.Name "is_tuple" ⟨134, 11, 134, 19⟩)) (args := [ (PySem.Expr.Name "row" ⟨134, 20, 134, 23⟩), (PySem.Expr.Constant (PySem.Const.int 4) 0 ⟨134, 25, 134, 26⟩), (PySem.Expr.Constant (PySem.Const.int 4) 0 ⟨134, 28, 134, 29⟩)]) (keywords := []) (pos := ⟨134, 11, 134, 30⟩))) (pos := ⟨134, 7, 134, 30⟩)), (PySem.Expr.UnaryOp (op := PySem.UnaryOp.Not) (operand := (PySem.Expr.Call (func := (PySem.Expr.Name "is_number" ⟨134, 38, 134, 47⟩)) (args := [ (PySem.Expr.Subscript (value := (PySem.Expr.Name "row" ⟨134, 48, 134, 51⟩)) (slice := (PySem.Expr.Constant (PySem.Const.int 0) 0 ⟨134, 52, 134, 53⟩)) (pos := ⟨134, 48, 134, 54⟩)), (PySem.Expr.BinOp (left := (PySem.Expr.Name "many" ⟨134, 56, 134, 60⟩)) (op := PySem.Operator.Sub) (right := (PySem.Expr.Constant (PySem.Const.int 1) 0 ⟨134, 63, 134, 64⟩)) (pos := ⟨134, 56, 134, 64⟩))]) (keywords := []) (pos := ⟨134, 38, 134, 65⟩))) (pos := ⟨134, 34, 134, 65⟩)), (PySem.Expr.UnaryOp (op := PySem.UnaryOp.Not) (operand := (PySem.Expr.Call (func := (PySem.Expr.Name "is_number" ⟨134, 74, 134, 83⟩)) (args := [ (PySem.Expr.Subscript (value := (PySem.Expr.Name "row" ⟨134, 84, 134, 87⟩)) (slice := (PySem.Expr.Constant (PySem.Const.int 1) 0 ⟨134, 88, 134, 89⟩)) (pos := ⟨134, 84, 134, 90⟩)), (PySem.Expr.Name "many" ⟨134, 92, 134, 96⟩)]) (keywords := []) (pos := ⟨134, 74, 134, 97⟩))) (pos := ⟨134, 70, 134, 97⟩))]) (pos := ⟨134, 7, 134, 98⟩))) (body := [ (PySem.Stmt.Return (value := (some (PySem.Expr.Constant (PySem.Const.bool false) 0 ⟨135, 15, 135, 20⟩))) (pos := ⟨135, 8, 135, 20⟩))]) (orelse := []) (pos := ⟨134, 4, 135, 20⟩)), (PySem.Stmt.Return (value := (some (PySem.Expr.BoolOp (op := PySem.BoolOp.And) (values := [ (PySem.Expr.Compare (left := (PySem.Expr.Subscript (value := (PySem.Expr.Name "row" ⟨136, 11, 136, 14⟩)) (slice := (PySem.Expr.Constant (PySem.Const.int 0) 0 ⟨136, 15, 136, 16⟩)) (pos := ⟨136, 11, 136, 17⟩))) (ops := [PySem.CmpOp.Lt]) (comparators := [ (PySem.Expr.Subscript (value := (PySem.Expr.Name "row" ⟨136, 20, 136, 23⟩)) (slice := (PySem.Expr.Constant (PySem.Const.int 1) 0 ⟨136, 24, 136, 25⟩)) (pos := ⟨136, 20, 136, 26⟩))]) (pos := ⟨136, 11, 136, 26⟩)), (PySem.Expr.Call (func := (PySem.Expr.Name "is_class" ⟨136, 31, 136, 39⟩)) (args := [ (PySem.Expr.Name "classes" ⟨136, 40, 136, 47⟩), (PySem.Expr.Subscript (value := (PySem.Expr.Name "row" ⟨136, 49, 136, 52⟩)) (slice := (PySem.Expr.Constant (PySem.Const.int 2) 0 ⟨136, 53, 136, 54⟩)) (pos := ⟨136, 49, 136, 55⟩))]) (keywords := []) (pos := ⟨136, 31, 136, 56⟩)), (PySem.Expr.Call (func := (PySem.Expr.Name "is_number" ⟨136, 61, 136, 70⟩)) (args := [ (PySem.Expr.Subscript (value := (PySem.Expr.Name "row" ⟨136, 71, 136, 74⟩)) (slice := (PySem.Expr.Constant (PySem.Const.int 3) 0 ⟨136, 75, 136, 76⟩)) (pos := ⟨136, 71, 136, 77⟩)), (PySem.Expr.BinOp (left := (PySem.Expr.Name "many" ⟨136, 79, 136, 83⟩)) (op := PySem.Operator.Sub) (right := (PySem.Expr.Constant (PySem.Const.int 1) 0 ⟨136, 86, 136, 87⟩)) (pos := ⟨136, 79, 136, 87⟩))]) (keywords := []) (pos := ⟨136, 61, 136, 88⟩))]) (pos := ⟨136, 11, 136, 88⟩)))) (pos := ⟨136, 4, 136, 88⟩))]) (decorator_list := []) (returns := none) (type_params := []) (scope := { kind := PySem.ScopeKind.function, names := [ (PySem.Str.ofString "classes", PySem.NameKind.local), (PySem.Str.ofString "many", PySem.NameKind.local), (PySem.Str.ofString "row", PySem.NameKind.local), (PySem.Str.ofString "is_tuple", PySem.NameKind.globalImplicit), (PySem.Str.ofString "is_number", PySem.NameKind.globalImplicit), (PySem.Str.ofString "is_class", PySem.NameKind.globalImplicit)], isGenerator := false, isCoroutine := false, more := [] : PySem.Scope }) (tscope := none) (bind := "is_handler") (pos := ⟨133, 0, 136, 88⟩))
def s_bad_handler : Stmt := (PySem.Stmt.FunctionDef (name := "bad_handler") (args := { posonlyargs := [], args := [ { arg := "classes", annotation := none, pos := ⟨137, 16, 137, 23⟩ : PySem.Arg }, { arg := "many", annotation := none, pos := ⟨137, 25, 137, 29⟩ : PySem.Arg }, { arg := "handlers", annotation := none, pos := ⟨137, 31, 137, 39⟩ : PySem.Arg }], vararg := none, kwonlyargs := [], kw_defaults := [], kwarg := none, defaults := [] : PySem.Arguments }) (body := [ (PySem.Stmt.For (target := (PySem.Expr.Tuple (elts := [(PySem.Expr.Name "index" ⟨138, 8, 138, 13⟩), (PySem.Expr.Name "row" ⟨138, 15, 138, 18⟩)]) (k := 0) (pos := ⟨138, 8, 138, 18⟩))) (iter := (PySem.Expr.Call (func := (PySem.Expr.Name "enumerate" ⟨138, 22, 138, 31⟩)) (args := [(PySem.Expr.Name "handlers" ⟨138, 32, 138, 40⟩)]) (keywords := []) (pos := ⟨138, 22, 138, 41⟩))) (body := [ (PySem.Stmt.If (test := (PySem.Expr.UnaryOp (op := PySem.UnaryOp.Not) (operand := (PySem.Expr.Call (func := (PySem.Expr.Name "is_handler" ⟨139, 15, 139, 25⟩)) (args := [ (PySem.Expr.Name "classes" ⟨139, 26, 139, 33⟩), (PySem.Expr.Name "many" ⟨139, 35, 139, 39⟩), (PySem.Expr.Name "row" ⟨139, 41, 139, 44⟩)]) (keywords := []) (pos := ⟨139, 15, 139, 45⟩))) (pos := ⟨139, 11, 139, 45⟩))) (body := [(PySem.Stmt.Return (some (PySem.Expr.Name "index" ⟨140, 19, 140, 24⟩)) ⟨140, 12, 140, 24⟩)]) (orelse := []) (pos := ⟨139, 8, 140, 24⟩))]) (orelse := []) (pos := ⟨138, 4, 140, 24⟩)), (PySem.Stmt.Return (some (PySem.Expr.Constant PySem.Const.none 0 ⟨141, 11, 141, 15⟩)) ⟨141, 4, 141, 15⟩)]) (decorator_list := []) (returns := none) (type_params := []) (scope := { kind := PySem.ScopeKind.function, names := [ (PySem.Str.ofString "classes", PySem.NameKind.local), (PySem.Str.ofString "many", PySem.NameKind.local), (PySem.Str.ofString "handlers", PySem.NameKind.local), (PySem.Str.ofString "index", PySem.NameKind.local), (PySem.Str.ofString "row", PySem.NameKind.local), (PySem.Str.ofString "enumerate", PySem.NameKind.globalImplicit), (PySem.Str.ofString "is_handler", PySem.NameKind.globalImplicit)], isGenerator := false, isCoroutine := false, more := [] : PySem.Scope }) (tscope := none) (bind := "bad_handler") (pos := ⟨137, 0, 141, 15⟩))
def s_is_new_class : Stmt := (PySem.Stmt.FunctionDef (name := "is_new_class") (args := { posonlyargs := [], args := [ { arg := "earlier", annotation := none, pos := ⟨144, 17, 144, 24⟩ : PySem.Arg }, { arg := "row", annotation := none, pos := ⟨144, 26, 144, 29⟩ : PySem.Arg }], vararg := none, kwonlyargs := [], kw_defaults := [], kwarg := none, defaults := [] : PySem.Arguments }) (body := [ (PySem.Stmt.If (test := (PySem.Expr.BoolOp (op := PySem.BoolOp.Or) (values := [ (PySem.Expr.UnaryOp (op := PySem.UnaryOp.Not) (operand := (PySem.Expr.Call (func := (PySem.Expr.Name "is_tuple" ⟨145, 11, 145, 19⟩)) (args := [ (PySem.Expr.Name "row" ⟨145, 20, 145, 23⟩), (PySem.Expr.Constant (PySem.Const.int 4) 0 ⟨145, 25, 145, 26⟩), (PySem.Expr.Constant (PySem.Const.int 4) 0 ⟨145, 28, 145, 29⟩)]) (keywords := []) (pos := ⟨145, 11, 145, 30⟩))) (pos := ⟨145, 7, 145, 30⟩)), (PySem.Expr.UnaryOp (op := PySem.UnaryOp.Not) (operand := (PySem.Expr.Call (func := (PySem.Expr.Name "is_word" ⟨145, 38, 145, 45⟩)) (args := [ (PySem.Expr.Subscript (value := (PySem.Expr.Name "row" ⟨145, 46, 145, 49⟩)) (slice := (PySem.Expr.Constant (PySem.Const.int 0) 0 ⟨145, 50, 145, 51⟩)) (pos := ⟨145, 46, 145, 52⟩))]) (keywords := []) (pos := ⟨145, 38, 145, 53⟩))) (pos := ⟨145, 34, 145, 53⟩)), (PySem.Expr.Compare (left := (PySem.Expr.Subscript (value := (PySem.Expr.Name "row" ⟨145, 57, 145, 60⟩)) (slice := (PySem.Expr.Constant (PySem.Const.int 0) 0 ⟨145, 61, 145, 62⟩)) (pos := ⟨145, 57, 145, 63⟩))) (ops := [PySem.CmpOp.In]) (comparators := [(PySem.Expr.Name "TAKEN_NAMES" ⟨145, 67, 145, 78⟩)]) (pos := ⟨145, 57, 145, 78⟩)), (PySem.Expr.Compare (left := (PySem.Expr.Subscript (value := (PySem.Expr.Name "row" ⟨145, 83, 145, 86⟩)) (slice := (PySem.Expr.Constant (PySem.Const.int 0) 0 ⟨145, 87, 145, 88⟩)) (pos := ⟨145, 83, 145, 89⟩))) (ops := [PySem.CmpOp.In]) (comparators := [(PySem.Expr.Name "earlier" ⟨145, 93, 145, 100⟩)]) (pos := ⟨145, 83, 145, 100⟩))]) (pos := ⟨145, 7, 145, 101⟩))) (body := [ (PySem.Stmt.Return (value := (some (PySem.Expr.Constant (PySem.Const.bool false) 0 ⟨146, 15, 146, 20⟩))) (pos := ⟨146, 8, 146, 20⟩))]) (orelse := []) (pos := ⟨145, 4, 146, 20⟩)), (PySem.Stmt.Return (value := (some (PySem.Expr.BoolOp (op := PySem.BoolOp.Or) (values := [ (PySem.Expr.Compare (left := (PySem.Expr.Subscript (value := (PySem.Expr.Name "row" ⟨147, 11, 147, 14⟩)) (slice := (PySem.Expr.Constant (PySem.Const.int 1) 0 ⟨147, 15, 147, 16⟩)) (pos := ⟨147, 11, 147, 17⟩))) (ops := [PySem.CmpOp.Eq]) (comparators := [(PySem.Expr.Constant (PySem.Const.str "top") 0 ⟨147, 21, 147, 26⟩)]) (pos := ⟨147, 11, 147, 26⟩)), (PySem.Expr.Compare (left := (PySem.Expr.Subscript (value := (PySem.Expr.Name "row" ⟨147, 30, 147, 33⟩)) (slice := (PySem.Expr.Constant (PySem.Const.int 1) 0 ⟨147, 34, 147, 35⟩)) (pos := ⟨147, 30, 147, 36⟩))) (ops := [PySem.CmpOp.In]) (comparators := [(PySem.Expr.Name "earlier" ⟨147, 40, 147, 47⟩)]) (pos := ⟨147, 30, 147, 47⟩))]) (pos := ⟨147, 11, 147, 47⟩)))) (pos := ⟨147, 4, 147, 47⟩))]) (decorator_list := []) (returns := none) (type_params := []) (scope := { kind := PySem.ScopeKind.function, names := [ (PySem.Str.ofString "earlier", PySem.NameKind.local), (PySem.Str.ofString "row", PySem.NameKind.local), (PySem.Str.ofString "is_tuple", PySem.NameKind.globalImplicit), (PySem.Str.ofString "is_word", PySem.NameKind.globalImplicit), (PySem.Str.ofString "TAKEN_NAMES", PySem.NameKind.globalImplicit)], isGenerator := false, isCoroutine := false, more := [] : PySem.Scope }) (tscope := none) (bind := "is_new_class") (pos := ⟨144, 0, 147, 47⟩))
def s_check_names : Stmt := (PySem.Stmt.FunctionDef (name := "check_names") (args := { posonlyargs := [], args := [{ arg := "classes", annotation := none, pos := ⟨148, 16, 148, 23⟩ : PySem.Arg }], vararg := none, kwonlyargs := [], kw_defaults := [], kwarg := none, defaults := [] : PySem.Arguments }) (body := [ (PySem.Stmt.If (test := (PySem.Expr.UnaryOp (op := PySem.UnaryOp.Not) (operand := (PySem.Expr.Call (func := (PySem.Expr.Name "is_tuple" ⟨149, 11, 149, 19⟩)) (args := [ (PySem.Expr.Name "classes" ⟨149, 20, 149, 27⟩), (PySem.Expr.Constant (PySem.Const.int 1) 0 ⟨149, 29, 149, 30⟩), (PySem.Expr.Constant (PySem.Const.int 8) 0 ⟨149, 32, 149, 33⟩)]) (keywords := []) (pos := ⟨149, 11, 149, 34⟩))) (pos := ⟨149, 7, 149, 34⟩))) (body := [ (PySem.Stmt.Raise (exc := (some (PySem.Expr.Call (func := (PySem.Expr.Name "BadClasses" ⟨150, 14, 150, 24⟩)) (args := [(PySem.Expr.Constant PySem.Const.none 0 ⟨150, 25, 150, 29⟩)]) (keywords := []) (pos := ⟨150, 14, 150, 30⟩)))) (cause := none) (pos := ⟨150, 8, 150, 30⟩))]) (orelse := []) (pos := ⟨149, 4, 150, 30⟩)), (PySem.Stmt.Assign (targets := [(PySem.Expr.Name "earlier" ⟨151, 4, 151, 11⟩)]) (value := (PySem.Expr.List [] ⟨151, 14, 151, 16⟩)) (pos := ⟨151, 4, 151, 16⟩)), (PySem.Stmt.For (target := (PySem.Expr.Tuple (elts := [(PySem.Expr.Name "index" ⟨152, 8, 152, 13⟩), (PySem.Expr.Name "row" ⟨152, 15, 152, 18⟩)]) (k := 0) (pos := ⟨152, 8, 152, 18⟩))) (iter := (PySem.Expr.Call (func := (PySem.Expr.Name "enumerate" ⟨152, 22, 152, 31⟩)) (args := [(PySem.Expr.Name "classes" ⟨152, 32, 152, 39⟩)]) (keywords := []) (pos := ⟨152, 22, 152, 40⟩))) (body := [ (PySem.Stmt.If (test := (PySem.Expr.UnaryOp (op := PySem.UnaryOp.Not) (operand := (PySem.Expr.Call (func := (PySem.Expr.Name "is_new_class" ⟨153, 15, 153, 27⟩)) (args := [(PySem.Expr.Name "earlier" ⟨153, 28, 153, 35⟩), (PySem.Expr.Name "row" ⟨153, 37, 153, 40⟩)]) (keywords := []) (pos := ⟨153, 15, 153, 41⟩))) (pos := ⟨153, 11, 153, 41⟩))) (body := [ (PySem.Stmt.Raise (exc := (some (PySem.Expr.Call (func := (PySem.Expr.Name "BadClasses" ⟨154, 18, 154, 28⟩)) (args := [(PySem.Expr.Name "index" ⟨154, 29, 154, 34⟩)]) (keywords := []) (pos := ⟨154, 18, 154, 35⟩)))) (cause := none) (pos := ⟨154, 12, 154, 35⟩))]) (orelse := []) (pos := ⟨153, 8, 154, 35⟩)), (PySem.Stmt.Expr (value := (PySem.Expr.Call (func := (PySem.Expr.Attribute (PySem.Expr.Name "earlier" ⟨155, 8, 155, 15⟩) "append" ⟨155, 8, 155, 22⟩)) (args := [ (PySem.Expr.Subscript (value := (PySem.Expr.Name "row" ⟨155, 23, 155, 26⟩)) (slice := (PySem.Expr.Constant (PySem.Const.int 0) 0 ⟨155, 27, 155, 28⟩)) (pos := ⟨155, 23, 155, 29⟩))]) (keywords := []) (pos := ⟨155, 8, 155, 30⟩))) (pos := ⟨155, 8, 155, 30⟩))]) (orelse := []) (pos := ⟨152, 4, 155, 30⟩))]) (decorator_list := []) (returns := none) (type_params := []) (scope := { kind := PySem.ScopeKind.function, names := [ (PySem.Str.ofString "classes", PySem.NameKind.local), (PySem.Str.ofString "earlier", PySem.NameKind.local), (PySem.Str.ofString "index", PySem.NameKind.local), (PySem.Str.ofString "row", PySem.NameKind.local), (PySem.Str.ofString "is_tuple", PySem.NameKind.globalImplicit), (PySem.Str.ofString "BadClasses", PySem.NameKind.globalImplicit), (PySem.Str.ofString "enumerate", PySem.NameKind.globalImplicit), (PySem.Str.ofString "is_new_class", PySem.NameKind.globalImplicit)], isGenerator := false, isCoroutine := false, more := [] : PySem.Scope }) (tscope := none) (bind := "check_names") (pos := ⟨148, 0, 155, 30⟩))
def s_is_told_kind : Stmt := (PySem.Stmt.FunctionDef (name := "is_told_kind") (args := { posonlyargs := [], args := [ { arg := "classes", annotation := none, pos := ⟨156, 17, 156, 24⟩ : PySem.Arg }, { arg := "value", annotation := none, pos := ⟨156, 26, 156, 31⟩ : PySem.Arg }], vararg := none, kwonlyargs := [], kw_defaults := [], kwarg := none, defaults := [] : PySem.Arguments }) (body := [ (PySem.Stmt.Return (value := (some (PySem.Expr.BoolOp (op := PySem.BoolOp.Or) (values := [ (PySem.Expr.Compare (left := (PySem.Expr.Name "value" ⟨157, 11, 157, 16⟩)) (ops := [PySem.CmpOp.Eq]) (comparators := [(PySem.Expr.Constant (PySem.Const.str "num") 0 ⟨157, 20, 157, 25⟩)]) (pos := ⟨157, 11, 157, 25⟩)), (PySem.Expr.Call (func := (PySem.Expr.Name "is_class" ⟨157, 29, 157, 37⟩)) (args := [(PySem.Expr.Name "classes" ⟨157, 38, 157, 45⟩), (PySem.Expr.Name "value" ⟨157, 47, 157, 52⟩)]) (keywords := []) (pos := ⟨157, 29, 157, 53⟩))]) (pos := ⟨157, 11, 157, 53⟩)))) (pos := ⟨157, 4, 157, 53⟩))]) (decorator_list := []) (returns := none) (type_params := []) (scope := { kind := PySem.ScopeKind.function, names := [ (PySem.Str.ofString "classes", PySem.NameKind.local), (PySem.Str.ofString "value", PySem.NameKind.local), (PySem.Str.ofString "is_class", PySem.NameKind.globalImplicit)], isGenerator := false, isCoroutine := false, more := [] : PySem.Scope }) (tscope := none) (bind := "is_told_kind") (pos := ⟨156, 0, 157, 53⟩))
def s_are_fields : Stmt := (PySem.Stmt.FunctionDef (name := "are_fields") (args := { posonlyargs := [], args := [ { arg := "classes", annotation := none, pos := ⟨158, 15, 158, 22⟩ : PySem.Arg }, { arg := "upper", annotation := none, pos := ⟨158, 24, 158, 29⟩ : PySem.Arg }, { arg := "fields", annotation := none, pos := ⟨158, 31, 158, 37⟩ : PySem.Arg }], vararg := none, kwonlyargs := [], kw_defaults := [], kwarg := none, defaults := [] : PySem.Arguments }) (body := [ (PySem.Stmt.If (test := (PySem.Expr.UnaryOp (op := PySem.UnaryOp.Not) (operand := (PySem.Expr.Call (func := (PySem.Expr.Name "is_tuple" ⟨159, 11, 159, 19⟩)) (args := [ (PySem.Expr.Name "fields" ⟨159, 20, 159, 26⟩), (PySem.Expr.Constant (PySem.Const.int 0) 0 ⟨159, 28, 159, 29⟩), (PySem.Expr.Constant (PySem.Const.int 4) 0 ⟨159, 31, 159, 32⟩)]) (keywords := []) (pos := ⟨159, 11, 159, 33⟩))) (pos := ⟨159, 7, 159, 33⟩))) (body := [ (PySem.Stmt.Return (value := (some (PySem.Expr.Constant (PySem.Const.bool false) 0 ⟨160, 15, 160, 20⟩))) (pos := ⟨160, 8, 160, 20⟩))]) (orelse := []) (pos := ⟨159, 4, 160, 20⟩)), (PySem.Stmt.Assign (targets := [(PySem.Expr.Name "words" ⟨161, 4, 161, 9⟩)]) (value := (PySem.Expr.ListComp (elt := (PySem.Expr.Name "word" ⟨161, 13, 161, 17⟩)) (generators := [ { target := (PySem.Expr.Tuple (elts := [(PySem.Expr.Name "word" ⟨161, 22, 161, 26⟩), (PySem.Expr.Name "_" ⟨161, 28, 161, 29⟩)]) (k := 0) (pos := ⟨161, 22, 161, 29⟩)), iter := (PySem.Expr.Call (func := (PySem.Expr.Name "fields_up" ⟨161, 33, 161, 42⟩)) (args := [(PySem.Expr.Name "classes" ⟨161, 43, 161, 50⟩), (PySem.Expr.Name "upper" ⟨161, 52, 161, 57⟩)]) (keywords := []) (pos := ⟨161, 33, 161, 58⟩)), ifs := [], is_async := 0 : PySem.Comprehension }]) (scope := { kind := PySem.ScopeKind.function, names := [ (PySem.Str.ofString ".0", PySem.NameKind.local), (PySem.Str.ofString "word", PySem.NameKind.local), (PySem.Str.ofString "_", PySem.NameKind.local)], isGenerator := false, isCoroutine := false, more := [] : PySem.Scope }) (pos := ⟨161, 12, 161, 59⟩))) (pos := ⟨161, 4, 161, 59⟩)), (PySem.Stmt.For (target := (PySem.Expr.Name "pair" ⟨162, 8, 162, 12⟩)) (iter := (PySem.Expr.Name "fields" ⟨162, 16, 162, 22⟩)) (body := [ (PySem.Stmt.If (test := (PySem.Expr.BoolOp (op := PySem.BoolOp.Or) (values := [ (PySem.Expr.UnaryOp (op := PySem.UnaryOp.Not) (operand := (PySem.Expr.Call (func := (PySem.Expr.Name "is_tuple" ⟨163, 15, 163, 23⟩)) (args := [ (PySem.Expr.Name "pair" ⟨163, 24, 163, 28⟩), (PySem.Expr.Constant (PySem.Const.int 2) 0 ⟨163, 30, 163, 31⟩), (PySem.Expr.Constant (PySem.Const.int 2) 0 ⟨163, 33, 163, 34⟩)]) (keywords := []) (pos := ⟨163, 15, 163, 35⟩))) (pos := ⟨163, 11, 163, 35⟩)), (PySem.Expr.UnaryOp (op := PySem.UnaryOp.Not) (operand := (PySem.Expr.Call (func := (PySem.Expr.Name "is_word" ⟨163, 43, 163, 50⟩)) (args := [ (PySem.Expr.Subscript (value := (PySem.Expr.Name "pair" ⟨163, 51, 163, 55⟩)) (slice := (PySem.Expr.Constant (PySem.Const.int 0) 0 ⟨163, 56, 163, 57⟩)) (pos := ⟨163, 51, 163, 58⟩))]) (keywords := []) (pos := ⟨163, 43, 163, 59⟩))) (pos := ⟨163, 39, 163, 59⟩)), (PySem.Expr.Compare (left := (PySem.Expr.Subscript (value := (PySem.Expr.Name "pair" ⟨163, 63, 163, 67⟩)) (slice := (PySem.Expr.Constant (PySem.Const.int 0) 0 ⟨163, 68, 163, 69⟩)) (pos := ⟨163, 63, 163, 70⟩))) (ops := [PySem.CmpOp.In]) (comparators := [(PySem.Expr.Name "words" ⟨163, 74, 163, 79⟩)]) (pos := ⟨163, 63, 163, 79⟩))]) (pos := ⟨163, 11, 163, 79⟩))) (body := [ (PySem.Stmt.Return (value := (some (PySem.Expr.Constant (PySem.Const.bool false) 0 ⟨164, 19, 164, 24⟩))) (pos := ⟨164, 12, 164, 24⟩))]) (orelse := []) (pos := ⟨163, 8, 164, 24⟩)), (PySem.Stmt.If (test := (PySem.Expr.UnaryOp (op := PySem.UnaryOp.Not) (operand := (PySem.Expr.Call (func := (PySem.Expr.Name "is_told_kind" ⟨165, 15, 165, 27⟩)) (args := [ (PySem.Expr.Name "classes" ⟨165, 28, 165, 35⟩), (PySem.Expr.Subscript (value := (PySem.Expr.Name "pair" ⟨165, 37, 165, 41⟩)) (slice := (PySem.Expr.Constant (PySem.Const.int 1) 0 ⟨165, 42, 165, 43⟩)) (pos := ⟨165, 37, 165, 44⟩))]) (keywords := []) (pos := ⟨165, 15, 165, 45⟩))) (pos := ⟨165, 11, 165, 45⟩))) (body := [ (PySem.Stmt.Return (value := (some (PySem.Expr.Constant (PySem.Const.bool false) 0 ⟨166, 19, 166, 24⟩))) (pos := ⟨166, 12, 166, 24⟩))]) (orelse := []) (pos := ⟨165, 8, 166, 24⟩)), (PySem.Stmt.Expr (value := (PySem.Expr.Call (func := (PySem.Expr.Attribute (PySem.Expr.Name "words" ⟨167, 8, 167, 13⟩) "append" ⟨167, 8, 167, 20⟩)) (args := [ (PySem.Expr.Subscript (value := (PySem.Expr.Name "pair" ⟨167, 21, 167, 25⟩)) (slice := (PySem.Expr.Constant (PySem.Const.int 0) 0 ⟨167, 26, 167, 27⟩)) (pos := ⟨167, 21, 167, 28⟩))]) (keywords := []) (pos := ⟨167, 8, 167, 29⟩))) (pos := ⟨167, 8, 167, 29⟩))]) (orelse := []) (pos := ⟨162, 4, 167, 29⟩)), (PySem.Stmt.Return (value := (some (PySem.Expr.Constant (PySem.Const.bool true) 0 ⟨168, 11, 168, 15⟩))) (pos := ⟨168, 4, 168, 15⟩))]) (decorator_list := []) (returns := none) (type_params := []) (scope := { kind := PySem.ScopeKind.function, names := [ (PySem.Str.ofString "classes", PySem.NameKind.local), (PySem.Str.ofString "upper", PySem.NameKind.local), (PySem.Str.ofString "fields", PySem.NameKind.local), (PySem.Str.ofString "words", PySem.NameKind.local), (PySem.Str.ofString "pair", PySem.NameKind.local), (PySem.Str.ofString "is_tuple", PySem.NameKind.globalImplicit), (PySem.Str.ofString "fields_up", PySem.NameKind.globalImplicit), (PySem.Str.ofString "is_word", PySem.NameKind.globalImplicit), (PySem.Str.ofString "is_told_kind", PySem.NameKind.globalImplicit)], isGenerator := false, isCoroutine := false, more := [ (PySem.Str.ofString "fast", (PySem.Const.str "classes")), (PySem.Str.ofString "fast", (PySem.Const.str "upper")), (PySem.Str.ofString "fast", (PySem.Const.str "fields")), (PySem.Str.ofString "fast", (PySem.Const.str "word")), (PySem.Str.ofString "fast", (PySem.Const.str "_")), (PySem.Str.ofString "fast", (PySem.Const.str "words")), (PySem.Str.ofString "fast", (PySem.Const.str "pair"))] : PySem.Scope }) (tscope := none) (bind := "are_fields") (pos := ⟨158, 0, 168, 15⟩))
def s_is_method : Stmt := (PySem.Stmt.FunctionDef (name := "is_method") (args := { posonlyargs := [], args := [ { arg := "classes", annotation := none, pos := ⟨169, 14, 169, 21⟩ : PySem.Arg }, { arg := "upper", annotation := none, pos := ⟨169, 23, 169, 28⟩ : PySem.Arg }, { arg := "words", annotation := none, pos := ⟨169, 30, 169, 35⟩ : PySem.Arg }, { arg := "method", annotation := none, pos := ⟨169, 37, 169, 43⟩ : PySem.Arg }, { arg := "parts", annotation := none, pos := ⟨169, 45, 169, 50⟩ : PySem.Arg }], vararg := none, kwonlyargs := [], kw_defaults := [], kwarg := none, defaults := [] : PySem.Arguments }) (body := [ (PySem.Stmt.If (test := (PySem.Expr.BoolOp (op := PySem.BoolOp.Or) (values := [ (PySem.Expr.UnaryOp (op := PySem.UnaryOp.Not) (operand := (PySem.Expr.Call (func := (PySem.Expr.Name "is_tuple" ⟨170, 11, 170, 19⟩)) (args := [ (PySem.Expr.Name "method" ⟨170, 20, 170, 26⟩), (PySem.Expr.Name "parts" ⟨170, 28, 170, 33⟩), (PySem.Expr.Name "parts" ⟨170, 35, 170, 40⟩)]) (keywords := []) (pos := ⟨170, 11, 170, 41⟩))) (pos := ⟨170, 7, 170, 41⟩)), (PySem.Expr.UnaryOp (op := PySem.UnaryOp.Not) (operand := (PySem.Expr.Call (func := (PySem.Expr.Name "is_word" ⟨170, 49, 170, 56⟩)) (args := [ (PySem.Expr.Subscript (value := (PySem.Expr.Name "method" ⟨170, 57, 170, 63⟩)) (slice := (PySem.Expr.Constant (PySem.Const.int 0) 0 ⟨170, 64, 170, 65⟩)) (pos := ⟨170, 57, 170, 66⟩))]) (keywords := []) (pos := ⟨170, 49, 170, 67⟩))) (pos := ⟨170, 45, 170, 67⟩)), (PySem.Expr.Compare (left := (PySem.Expr.Subscript (value := (PySem.Expr.Name "method" ⟨170, 71, 170, 77⟩)) (slice := (PySem.Expr.Constant (PySem.Const.int 0) 0 ⟨170, 78, 170, 79⟩)) (pos := ⟨170, 71, 170, 80⟩))) (ops := [PySem.CmpOp.In]) (comparators := [(PySem.Expr.Name "words" ⟨170, 84, 170, 89⟩)]) (pos := ⟨170, 71, 170, 89⟩))]) (pos := ⟨170, 7, 170, 89⟩))) (body := [ (PySem.Stmt.Return (value := (some (PySem.Expr.Constant (PySem.Const.bool false) 0 ⟨171, 15, 171, 20⟩))) (pos := ⟨171, 8, 171, 20⟩))]) (orelse := []) (pos := ⟨170, 4, 171, 20⟩)), (PySem.Stmt.Assign (targets := [ (PySem.Expr.Tuple (elts := [ (PySem.Expr.Name "word" ⟨172, 4, 172, 8⟩), (PySem.Expr.Name "ins" ⟨172, 10, 172, 13⟩), (PySem.Expr.Name "out" ⟨172, 15, 172, 18⟩)]) (k := 0) (pos := ⟨172, 4, 172, 18⟩))]) (value := (PySem.Expr.Subscript (value := (PySem.Expr.Name "method" ⟨172, 21, 172, 27⟩)) (slice := (PySem.Expr.Slice (lower := none) (upper := (some (PySem.Expr.Constant (PySem.Const.int 3) 0 ⟨172, 29, 172, 30⟩))) (step := none) (pos := ⟨172, 28, 172, 30⟩))) (pos := ⟨172, 21, 172, 31⟩))) (pos := ⟨172, 4, 172, 31⟩)), (PySem.Stmt.If (test := (PySem.Expr.BoolOp (op := PySem.BoolOp.Or) (values := [ (PySem.Expr.UnaryOp (op := PySem.UnaryOp.Not) (operand := (PySem.Expr.Call (func := (PySem.Expr.Name "is_tuple" ⟨173, 11, 173, 19⟩)) (args := [ (PySem.Expr.Name "ins" ⟨173, 20, 173, 23⟩), (PySem.Expr.Constant (PySem.Const.int 0) 0 ⟨173, 25, 173, 26⟩), (PySem.Expr.Constant (PySem.Const.int 3) 0 ⟨173, 28, 173, 29⟩)]) (keywords := []) (pos := ⟨173, 11, 173, 30⟩))) (pos := ⟨173, 7, 173, 30⟩)), (PySem.Expr.UnaryOp (op := PySem.UnaryOp.Not) (operand := (PySem.Expr.Call (func := (PySem.Expr.Name "all" ⟨173, 38, 173, 41⟩)) (args := [ (PySem.Expr.ListComp (elt := (PySem.Expr.Call (func := (PySem.Expr.Name "is_told_kind" ⟨173, 43, 173, 55⟩)) (args := [(PySem.Expr.Name "classes" ⟨173, 56, 173, 63⟩), (PySem.Expr.Name "kind" ⟨173, 65, 173, 69⟩)]) (keywords := []) (pos := ⟨173, 43, 173, 70⟩))) (generators := [ { target := (PySem.Expr.Name "kind" ⟨173, 75, 173, 79⟩), iter := (PySem.Expr.Name "ins" ⟨173, 83, 173, 86⟩), ifs := [], is_async := 0 : PySem.Comprehension }]) (scope := { kind := PySem.ScopeKind.function, names := [ (PySem.Str.ofString ".0", PySem.NameKind.local), (PySem.Str.ofString "kind", PySem.NameKind.local), (PySem.Str.ofString "is_told_kind", PySem.NameKind.globalImplicit), (PySem.Str.ofString "classes", PySem.NameKind.free)], isGenerator := false, isCoroutine := false, more := [] : PySem.Scope }) (pos := ⟨173, 42, 173, 87⟩))]) (keywords := []) (pos := ⟨173, 38, 173, 88⟩))) (pos := ⟨173, 34, 173, 88⟩))]) (pos := ⟨173, 7, 173, 88⟩))) (body := [ (PySem.Stmt.Return (value := (some (PySem.Expr.Constant (PySem.Const.bool false) 0 ⟨174, 15, 174, 20⟩))) (pos := ⟨174, 8, 174, 20⟩))]) (orelse := []) (pos := ⟨173, 4, 174, 20⟩)), (PySem.Stmt.If (test := (PySem.Expr.UnaryOp (op := PySem.UnaryOp.Not) (operand := (PySem.Expr.Call (func := (PySem.Expr.Name "is_told_kind" ⟨175, 11, 175, 23⟩)) (args := [(PySem.Expr.Name "classes" ⟨175, 24, 175, 31⟩), (PySem.Expr.Name "out" ⟨175, 33, 175, 36⟩)]) (keywords := []) (pos := ⟨175, 11, 175, 37⟩))) (pos := ⟨175, 7, 175, 37⟩))) (body := [ (PySem.Stmt.Return (value := (some (PySem.Expr.Constant (PySem.Const.bool false) 0 ⟨176, 15, 176, 20⟩))) (pos := ⟨176, 8, 176, 20⟩))]) (orelse := []) (pos := ⟨175, 4, 176, 20⟩)), (PySem.Stmt.If (test := (PySem.Expr.Compare (left := (PySem.Expr.Call (func := (PySem.Expr.Name "nearest" ⟨177, 7, 177, 14⟩)) (args := [ (PySem.Expr.Name "classes" ⟨177, 15, 177, 22⟩), (PySem.Expr.Name "upper" ⟨177, 24, 177, 29⟩), (PySem.Expr.Name "word" ⟨177, 31, 177, 35⟩)]) (keywords := []) (pos := ⟨177, 7, 177, 36⟩))) (ops := [PySem.CmpOp.Is]) (comparators := [(PySem.Expr.Constant PySem.Const.none 0 ⟨177, 40, 177, 44⟩)]) (pos := ⟨177, 7, 177, 44⟩))) (body := [ (PySem.Stmt.Return (value := (some (PySem.Expr.Constant (PySem.Const.bool true) 0 ⟨178, 15, 178, 19⟩))) (pos := ⟨178, 8, 178, 19⟩))]) (orelse := []) (pos := ⟨177, 4, 178, 19⟩)), (PySem.Stmt.Return (value := (some (PySem.Expr.Compare (left := (PySem.Expr.Subscript (value := (PySem.Expr.Call (func := (PySem.Expr.Name "nearest_method" ⟨179, 11, 179, 25⟩)) (args := [ (PySem.Expr.Name "classes" ⟨179, 26, 179, 33⟩), (PySem.Expr.Name "upper" ⟨179, 35, 179, 40⟩), (PySem.Expr.Name "word" ⟨179, 42, 179, 46⟩)]) (keywords := []) (pos := ⟨179, 11, 179, 47⟩))) (slice := (PySem.Expr.Slice (lower := (some (PySem.Expr.Constant (PySem.Const.int 1) 0 ⟨179, 48, 179, 49⟩))) (upper := (some (PySem.Expr.Constant (PySem.Const.int 3) 0 ⟨179, 50, 179, 51⟩))) (step := none) (pos := ⟨179, 48, 179, 51⟩))) (pos := ⟨179, 11, 179, 52⟩))) (ops := [PySem.CmpOp.Eq]) (comparators := [ (PySem.Expr.Tuple (elts := [(PySem.Expr.Name "ins" ⟨179, 57, 179, 60⟩), (PySem.Expr.Name "out" ⟨179, 62, 179, 65⟩)]) (k := 0) (pos := ⟨179, 56, 179, 66⟩))]) (pos := ⟨179, 11, 179, 66⟩)))) (pos := ⟨179, 4, 179, 66⟩))]) (decorator_list := []) (returns := none) (type_params := []) (scope := { kind := PySem.ScopeKind.function, names := [ (PySem.Str.ofString "classes", PySem.NameKind.cell), (PySem.Str.ofString "upper", PySem.NameKind.local), (PySem.Str.ofString "words", PySem.NameKind.local), (PySem.Str.ofString "method", PySem.NameKind.local), (PySem.Str.ofString "parts", PySem.NameKind.local), (PySem.Str.ofString "word", PySem.NameKind.local), (PySem.Str.ofString "ins", PySem.NameKind.local), (PySem.Str.ofString "out", PySem.NameKind.local), (PySem.Str.ofString "is_tuple", PySem.NameKind.globalImplicit), (PySem.Str.ofString "is_word", PySem.NameKind.globalImplicit), (PySem.Str.ofString "all", PySem.NameKind.globalImplicit), (PySem.Str.ofString "is_told_kind", PySem.NameKind.globalImplicit), (PySem.Str.ofString "nearest", PySem.NameKind.globalImplicit), (PySem.Str.ofString "nearest_method", PySem.NameKind.globalImplicit)], isGenerator := false, isCoroutine := false, more := [ (PySem.Str.ofString "fast", (PySem.Const.str "classes")), (PySem.Str.ofString "fast", (PySem.Const.str "upper")), (PySem.Str.ofString "fast", (PySem.Const.str "words")), (PySem.Str.ofString "fast", (PySem.Const.str "method")), (PySem.Str.ofString "fast", (PySem.Const.str "parts")), (PySem.Str.ofString "fast", (PySem.Const.str "word")), (PySem.Str.ofString "fast", (PySem.Const.str "ins")), (PySem.Str.ofString "fast", (PySem.Const.str "out")), (PySem.Str.ofString "fast", (PySem.Const.str "kind"))] : PySem.Scope }) (tscope := none) (bind := "is_method") (pos := ⟨169, 0, 179, 66⟩))
def s_check_methods : Stmt := (PySem.Stmt.FunctionDef (name := "check_methods") (args := { posonlyargs := [], args := [ { arg := "classes", annotation := none, pos := ⟨180, 18, 180, 25⟩ : PySem.Arg }, { arg := "index", annotation := none, pos := ⟨180, 27, 180, 32⟩ : PySem.Arg }, { arg := "parts", annotation := none, pos := ⟨180, 34, 180, 39⟩ : PySem.Arg }], vararg := none, kwonlyargs := [], kw_defaults := [], kwarg := none, defaults := [] : PySem.Arguments }) (body := [ (PySem.Stmt.Assign (targets := [ (PySem.Expr.Tuple (elts := [ (PySem.Expr.Name "_" ⟨181, 4, 181, 5⟩), (PySem.Expr.Name "upper" ⟨181, 7, 181, 12⟩), (PySem.Expr.Name "_" ⟨181, 14, 181, 15⟩), (PySem.Expr.Name "methods" ⟨181, 17, 181, 24⟩)]) (k := 0) (pos := ⟨181, 4, 181, 24⟩))]) (value := (PySem.Expr.Subscript (value := (PySem.Expr.Name "classes" ⟨181, 27, 181, 34⟩)) (slice := (PySem.Expr.Name "index" ⟨181, 35, 181, 40⟩)) (pos := ⟨181, 27, 181, 41⟩))) (pos := ⟨181, 4, 181, 41⟩)), (PySem.Stmt.If (test := (PySem.Expr.UnaryOp (op := PySem.UnaryOp.Not) (operand := (PySem.Expr.Call (func := (PySem.Expr.Name "is_tuple" ⟨182, 11, 182, 19⟩)) (args := [ (PySem.Expr.Name "methods" ⟨182, 20, 182, 27⟩), (PySem.Expr.Constant (PySem.Const.int 0) 0 ⟨182, 29, 182, 30⟩), (PySem.Expr.Constant (PySem.Const.int 4) 0 ⟨182, 32, 182, 33⟩)]) (keywords := []) (pos := ⟨182, 11, 182, 34⟩))) (pos := ⟨182, 7, 182, 34⟩))) (body := [ (PySem.Stmt.Raise (exc := (some (PySem.Expr.Call (func := (PySem.Expr.Name "BadMethods" ⟨183, 14, 183, 24⟩)) (args := [(PySem.Expr.Name "index" ⟨183, 25, 183, 30⟩), (PySem.Expr.Constant PySem.Const.none 0 ⟨183, 32, 183, 36⟩)]) (keywords := []) (pos := ⟨183, 14, 183, 37⟩)))) (cause := none) (pos := ⟨183, 8, 183, 37⟩))]) (orelse := []) (pos := ⟨182, 4, 183, 37⟩)), (PySem.Stmt.Assign (targets := [(PySem.Expr.Name "words" ⟨184, 4, 184, 9⟩)]) (value := (PySem.Expr.List [] ⟨184, 12, 184, 14⟩)) (pos := ⟨184, 4, 184, 14⟩)), (PySem.Stmt.For (target := (PySem.Expr.Tuple (elts := [(PySem.Expr.Name "place" ⟨185, 8, 185, 13⟩), (PySem.Expr.Name "method" ⟨185, 15, 185, 21⟩)]) (k := 0) (pos := ⟨185, 8, 185, 21⟩))) (iter := (PySem.Expr.Call (func := (PySem.Expr.Name "enumerate" ⟨185, 25, 185, 34⟩)) (args := [(PySem.Expr.Name "methods" ⟨185, 35, 185, 42⟩)]) (keywords := []) (pos := ⟨185, 25, 185, 43⟩))) (body := [ (PySem.Stmt.If (test := (PySem.Expr.UnaryOp (op := PySem.UnaryOp.Not) (operand := (PySem.Expr.Call (func := (PySem.Expr.Name "is_method" ⟨186, 15, 186, 24⟩)) (args := [ (PySem.Expr.Name "classes" ⟨186, 25, 186, 32⟩), (PySem.Expr.Name "upper" ⟨186, 34, 186, 39⟩), (PySem.Expr.Name "words" ⟨186, 41, 186, 46⟩), (PySem.Expr.Name "method" ⟨186, 48, 186, 54⟩), (PySem.Expr.Name "parts" ⟨186, 56, 186, 61⟩)]) (keywords := []) (pos := ⟨186, 15, 186, 62⟩))) (pos := ⟨186, 11, 186, 62⟩))) (body := [ (PySem.Stmt.Raise (exc := (some (PySem.Expr.Call (func := (PySem.Expr.Name "BadMethods" ⟨187, 18, 187, 28⟩)) (args := [(PySem.Expr.Name "index" ⟨187, 29, 187, 34⟩), (PySem.Expr.Name "place" ⟨187, 36, 187, 41⟩)]) (keywords := []) (pos := ⟨187, 18, 187, 42⟩)))) (cause := none) (pos := ⟨187, 12, 187, 42⟩))]) (orelse := []) (pos := ⟨186, 8, 187, 42⟩)), (PySem.Stmt.Expr (value := (PySem.Expr.Call (func := (PySem.Expr.Attribute (PySem.Expr.Name "words" ⟨188, 8, 188, 13⟩) "append" ⟨188, 8, 188, 20⟩)) (args := [ (PySem.Expr.Subscript (value := (PySem.Expr.Name "method" ⟨188, 21, 188, 27⟩)) (slice := (PySem.Expr.Constant (PySem.Const.int 0) 0 ⟨188, 28, 188, 29⟩)) (pos := ⟨188, 21, 188, 30⟩))]) (keywords := []) (pos := ⟨188, 8, 188, 31⟩))) (pos := ⟨188, 8, 188, 31⟩))]) (orelse := []) (pos := ⟨185, 4, 188, 31⟩))]) (decorator_list := []) (returns := none) (type_params := []) (scope := { kind := PySem.ScopeKind.function, names := [ (PySem.Str.ofString "classes", PySem.NameKind.local), (PySem.Str.ofString "index", PySem.NameKind.local), (PySem.Str.ofString "parts", PySem.NameKind.local), (PySem.Str.ofString "_", PySem.NameKind.local), (PySem.Str.ofString "upper", PySem.NameKind.local), (PySem.Str.ofString "methods", PySem.NameKind.local), (PySem.Str.ofString "words", PySem.NameKind.local), (PySem.Str.ofString "place", PySem.NameKind.local), (PySem.Str.ofString "method", PySem.NameKind.local), (PySem.Str.ofString "is_tuple", PySem.NameKind.globalImplicit), (PySem.Str.ofString "BadMethods", PySem.NameKind.globalImplicit), (PySem.Str.ofString "enumerate", PySem.NameKind.globalImplicit), (PySem.Str.ofString "is_method", PySem.NameKind.globalImplicit)], isGenerator := false, isCoroutine := false, more := [] : PySem.Scope }) (tscope := none) (bind := "check_methods") (pos := ⟨180, 0, 188, 31⟩))
def s_check_code : Stmt := (PySem.Stmt.FunctionDef (name := "check_code") (args := { posonlyargs := [], args := [ { arg := "classes", annotation := none, pos := ⟨189, 15, 189, 22⟩ : PySem.Arg }, { arg := "index", annotation := none, pos := ⟨189, 24, 189, 29⟩ : PySem.Arg }, { arg := "place", annotation := none, pos := ⟨189, 31, 189, 36⟩ : PySem.Arg }], vararg := none, kwonlyargs := [], kw_defaults := [], kwarg := none, defaults := [] : PySem.Arguments }) (body := [ (PySem.Stmt.Assign (targets := [ (PySem.Expr.Tuple (elts := [(PySem.Expr.Name "code" ⟨190, 4, 190, 8⟩), (PySem.Expr.Name "handlers" ⟨190, 10, 190, 18⟩)]) (k := 0) (pos := ⟨190, 4, 190, 18⟩))]) (value := (PySem.Expr.Subscript (value := (PySem.Expr.Subscript (value := (PySem.Expr.Subscript (value := (PySem.Expr.Subscript (value := (PySem.Expr.Name "classes" ⟨190, 21, 190, 28⟩)) (slice := (PySem.Expr.Name "index" ⟨190, 29, 190, 34⟩)) (pos := ⟨190, 21, 190, 35⟩))) (slice := (PySem.Expr.Constant (PySem.Const.int 3) 0 ⟨190, 36, 190, 37⟩)) (pos := ⟨190, 21, 190, 38⟩))) (slice := (PySem.Expr.Name "place" ⟨190, 39, 190, 44⟩)) (pos := ⟨190, 21, 190, 45⟩))) (slice := (PySem.Expr.Slice (lower := (some (PySem.Expr.Constant (PySem.Const.int 3) 0 ⟨190, 46, 190, 47⟩))) (upper := none) (step := none) (pos := ⟨190, 46, 190, 48⟩))) (pos := ⟨190, 21, 190, 49⟩))) (pos := ⟨190, 4, 190, 49⟩)), (PySem.Stmt.If (test := (PySem.Expr.UnaryOp (op := PySem.UnaryOp.Not) (operand := (PySem.Expr.Call (func := (PySem.Expr.Name "is_tuple" ⟨191, 11, 191, 19⟩)) (args := [ (PySem.Expr.Name "code" ⟨191, 20, 191, 24⟩), (PySem.Expr.Constant (PySem.Const.int 1) 0 ⟨191, 26, 191, 27⟩), (PySem.Expr.Constant (PySem.Const.int 20) 0 ⟨191, 29, 191, 31⟩)]) (keywords := []) (pos := ⟨191, 11, 191, 32⟩))) (pos := ⟨191, 7, 191, 32⟩))) (body := [ (PySem.Stmt.Raise (exc := (some (PySem.Expr.Call (func := (PySem.Expr.Name "BadCode" ⟨192, 14, 192, 21⟩)) (args := [ (PySem.Expr.Name "index" ⟨192, 22, 192, 27⟩), (PySem.Expr.Name "place" ⟨192, 29, 192, 34⟩), (PySem.Expr.Constant PySem.Const.none 0 ⟨192, 36, 192, 40⟩)]) (keywords := []) (pos := ⟨192, 14, 192, 41⟩)))) (cause := none) (pos := ⟨192, 8, 192, 41⟩))]) (orelse := []) (pos := ⟨191, 4, 192, 41⟩)), (PySem.Stmt.Assign (targets := [(PySem.Expr.Name "step" ⟨193, 4, 193, 8⟩)]) (value := (PySem.Expr.Call (func := (PySem.Expr.Name "bad_step" ⟨193, 11, 193, 19⟩)) (args := [(PySem.Expr.Name "classes" ⟨193, 20, 193, 27⟩), (PySem.Expr.Name "code" ⟨193, 29, 193, 33⟩)]) (keywords := []) (pos := ⟨193, 11, 193, 34⟩))) (pos := ⟨193, 4, 193, 34⟩)), (PySem.Stmt.If (test := (PySem.Expr.Compare (left := (PySem.Expr.Name "step" ⟨194, 7, 194, 11⟩)) (ops := [PySem.CmpOp.IsNot]) (comparators := [(PySem.Expr.Constant PySem.Const.none 0 ⟨194, 19, 194, 23⟩)]) (pos := ⟨194, 7, 194, 23⟩))) (body := [ (PySem.Stmt.Raise (exc := (some (PySem.Expr.Call (func := (PySem.Expr.Name "BadCode" ⟨195, 14, 195, 21⟩)) (args := [ (PySem.Expr.Name "index" ⟨195, 22, 195, 27⟩), (PySem.Expr.Name "place" ⟨195, 29, 195, 34⟩), (PySem.Expr.Name "step" ⟨195, 36, 195, 40⟩)]) (keywords := []) (pos := ⟨195, 14, 195, 41⟩)))) (cause := none) (pos := ⟨195, 8, 195, 41⟩))]) (orelse := []) (pos := ⟨194, 4, 195, 41⟩)), (PySem.Stmt.If (test := (PySem.Expr.UnaryOp (op := PySem.UnaryOp.Not) (operand := (PySem.Expr.Call (func := (PySem.Expr.Name "is_tuple" ⟨196, 11, 196, 19⟩)) (args := [ (PySem.Expr.Name "handlers" ⟨196, 20, 196, 28⟩), (PySem.Expr.Constant (PySem.Const.int 0) 0 ⟨196, 30, 196, 31⟩), (PySem.Expr.Constant (PySem.Const.int 4) 0 ⟨196, 33, 196, 34⟩)]) (keywords := []) (pos := ⟨196, 11, 196, 35⟩))) (pos := ⟨196, 7, 196, 35⟩))) (body := [ (PySem.Stmt.Raise (exc := (some (PySem.Expr.Call (func := (PySem.Expr.Name "BadHandlers" ⟨197, 14, 197, 25⟩)) (args := [ (PySem.Expr.Name "index" ⟨197, 26, 197, 31⟩), (PySem.Expr.Name "place" ⟨197, 33, 197, 38⟩), (PySem.Expr.Constant PySem.Const.none 0 ⟨197, 40, 197, 44⟩)]) (keywords := []) (pos := ⟨197, 14, 197, 45⟩)))) (cause := none) (pos := ⟨197, 8, 197, 45⟩))]) (orelse := []) (pos := ⟨196, 4, 197, 45⟩)), (PySem.Stmt.Assign (targets := [(PySem.Expr.Name "row" ⟨198, 4, 198, 7⟩)]) (value := (PySem.Expr.Call (func := (PySem.Expr.Name "bad_handler" ⟨198, 10, 198, 21⟩)) (args := [ (PySem.Expr.Name "classes" ⟨198, 22, 198, 29⟩), (PySem.Expr.Call (func := (PySem.Expr.Name "len" ⟨198, 31, 198, 34⟩)) (args := [(PySem.Expr.Name "code" ⟨198, 35, 198, 39⟩)]) (keywords := []) (pos := ⟨198, 31, 198, 40⟩)), (PySem.Expr.Name "handlers" ⟨198, 42, 198, 50⟩)]) (keywords := []) (pos := ⟨198, 10, 198, 51⟩))) (pos := ⟨198, 4, 198, 51⟩)), (PySem.Stmt.If (test := (PySem.Expr.Compare (left := (PySem.Expr.Name "row" ⟨199, 7, 199, 10⟩)) (ops := [PySem.CmpOp.IsNot]) (comparators := [(PySem.Expr.Constant PySem.Const.none 0 ⟨199, 18, 199, 22⟩)]) (pos := ⟨199, 7, 199, 22⟩))) (body := [ (PySem.Stmt.Raise (exc := (some (PySem.Expr.Call (func := (PySem.Expr.Name "BadHandlers" ⟨200, 14, 200, 25⟩)) (args := [ (PySem.Expr.Name "index" ⟨200, 26, 200, 31⟩), (PySem.Expr.Name "place" ⟨200, 33, 200, 38⟩), (PySem.Expr.Name "row" ⟨200, 40, 200, 43⟩)]) (keywords := []) (pos := ⟨200, 14, 200, 44⟩)))) (cause := none) (pos := ⟨200, 8, 200, 44⟩))]) (orelse := []) (pos := ⟨199, 4, 200, 44⟩))]) (decorator_list := []) (returns := none) (type_params := []) (scope := { kind := PySem.ScopeKind.function, names := [ (PySem.Str.ofString "classes", PySem.NameKind.local), (PySem.Str.ofString "index", PySem.NameKind.local), (PySem.Str.ofString "place", PySem.NameKind.local), (PySem.Str.ofString "code", PySem.NameKind.local), (PySem.Str.ofString "handlers", PySem.NameKind.local), (PySem.Str.ofString "step", PySem.NameKind.local), (PySem.Str.ofString "row", PySem.NameKind.local), (PySem.Str.ofString "is_tuple", PySem.NameKind.globalImplicit), (PySem.Str.ofString "BadCode", PySem.NameKind.globalImplicit), (PySem.Str.ofString "bad_step", PySem.NameKind.globalImplicit), (PySem.Str.ofString "BadHandlers", PySem.NameKind.globalImplicit), (PySem.Str.ofString "bad_handler", PySem.NameKind.globalImplicit), (PySem.Str.ofString "len", PySem.NameKind.globalImplicit)], isGenerator := false, isCoroutine := false, more := [] : PySem.Scope }) (tscope := none) (bind := "check_code") (pos := ⟨189, 0, 200, 44⟩))
def s_check_shells : Stmt := (PySem.Stmt.FunctionDef (name := "check_shells") (args := { posonlyargs := [], args := [ { arg := "classes", annotation := none, pos := ⟨201, 17, 201, 24⟩ : PySem.Arg }, { arg := "parts", annotation := none, pos := ⟨201, 26, 201, 31⟩ : PySem.Arg }], vararg := none, kwonlyargs := [], kw_defaults := [], kwarg := none, defaults := [] : PySem.Arguments }) (body := [ (PySem.Stmt.Expr (value := (PySem.Expr.Call (func := (PySem.Expr.Name "check_names" ⟨202, 4, 202, 15⟩)) (args := [(PySem.Expr.Name "classes" ⟨202, 16, 202, 23⟩)]) (keywords := []) (pos := ⟨202, 4, 202, 24⟩))) (pos := ⟨202, 4, 202, 24⟩)), (PySem.Stmt.For (target := (PySem.Expr.Tuple (elts := [(PySem.Expr.Name "index" ⟨203, 8, 203, 13⟩), (PySem.Expr.Name "row" ⟨203, 15, 203, 18⟩)]) (k := 0) (pos := ⟨203, 8, 203, 18⟩))) (iter := (PySem.Expr.Call (func := (PySem.Expr.Name "enumerate" ⟨203, 22, 203, 31⟩)) (args := [(PySem.Expr.Name "classes" ⟨203, 32, 203, 39⟩)]) (keywords := []) (pos := ⟨203, 22, 203, 40⟩))) (body := [ (PySem.Stmt.If (test := (PySem.Expr.UnaryOp (op := PySem.UnaryOp.Not) (operand := (PySem.Expr.Call (func := (PySem.Expr.Name "are_fields" ⟨204, 15, 204, 25⟩)) (args := [ (PySem.Expr.Name "classes" ⟨204, 26, 204, 33⟩), (PySem.Expr.Subscript (value := (PySem.Expr.Name "row" ⟨204, 35, 204, 38⟩)) (slice := (PySem.Expr.Constant (PySem.Const.int 1) 0 ⟨204, 39, 204, 40⟩)) (pos := ⟨204, 35, 204, 41⟩)), (PySem.Expr.Subscript (value := (PySem.Expr.Name "row" ⟨204, 43, 204, 46⟩)) (slice := (PySem.Expr.Constant (PySem.Const.int 2) 0 ⟨204, 47, 204, 48⟩)) (pos := ⟨204, 43, 204, 49⟩))]) (keywords := []) (pos := ⟨204, 15, 204, 50⟩))) (pos := ⟨204, 11, 204, 50⟩))) (body := [ (PySem.Stmt.Raise (exc := (some (PySem.Expr.Call (func := (PySem.Expr.Name "BadFields" ⟨205, 18, 205, 27⟩)) (args := [(PySem.Expr.Name "index" ⟨205, 28, 205, 33⟩)]) (keywords := []) (pos := ⟨205, 18, 205, 34⟩)))) (cause := none) (pos := ⟨205, 12, 205, 34⟩))]) (orelse := []) (pos := ⟨204, 8, 205, 34⟩)), (PySem.Stmt.Expr (value := (PySem.Expr.Call (func := (PySem.Expr.Name "check_methods" ⟨206, 8, 206, 21⟩)) (args := [ (PySem.Expr.Name "classes" ⟨206, 22, 206, 29⟩), (PySem.Expr.Name "index" ⟨206, 31, 206, 36⟩), (PySem.Expr.Name "parts" ⟨206, 38, 206, 43⟩)]) (keywords := []) (pos := ⟨206, 8, 206, 44⟩))) (pos := ⟨206, 8, 206, 44⟩))]) (orelse := []) (pos := ⟨203, 4, 206, 44⟩))]) (decorator_list := []) (returns := none) (type_params := []) (scope := { kind := PySem.ScopeKind.function, names := [ (PySem.Str.ofString "classes", PySem.NameKind.local), (PySem.Str.ofString "parts", PySem.NameKind.local), (PySem.Str.ofString "index", PySem.NameKind.local), (PySem.Str.ofString "row", PySem.NameKind.local), (PySem.Str.ofString "check_names", PySem.NameKind.globalImplicit), (PySem.Str.ofString "enumerate", PySem.NameKind.globalImplicit), (PySem.Str.ofString "are_fields", PySem.NameKind.globalImplicit), (PySem.Str.ofString "BadFields", PySem.NameKind.globalImplicit), (PySem.Str.ofString "check_methods", PySem.NameKind.globalImplicit)], isGenerator := false, isCoroutine := false, more := [] : PySem.Scope }) (tscope := none) (bind := "check_shells") (pos := ⟨201, 0, 206, 44⟩))
def s_check_classes : Stmt := (PySem.Stmt.FunctionDef (name := "check_classes") (args := { posonlyargs := [], args := [{ arg := "classes", annotation := none, pos := ⟨207, 18, 207, 25⟩ : PySem.Arg }], vararg := none, kwonlyargs := [], kw_defaults := [], kwarg := none, defaults := [] : PySem.Arguments }) (body := [ (PySem.Stmt.Expr (value := (PySem.Expr.Call (func := (PySem.Expr.Name "check_shells" ⟨208, 4, 208, 16⟩)) (args := [ (PySem.Expr.Name "classes" ⟨208, 17, 208, 24⟩), (PySem.Expr.Constant (PySem.Const.int 5) 0 ⟨208, 26, 208, 27⟩)]) (keywords := []) (pos := ⟨208, 4, 208, 28⟩))) (pos := ⟨208, 4, 208, 28⟩)), (PySem.Stmt.For (target := (PySem.Expr.Tuple (elts := [(PySem.Expr.Name "index" ⟨209, 8, 209, 13⟩), (PySem.Expr.Name "row" ⟨209, 15, 209, 18⟩)]) (k := 0) (pos := ⟨209, 8, 209, 18⟩))) (iter := (PySem.Expr.Call (func := (PySem.Expr.Name "enumerate" ⟨209, 22, 209, 31⟩)) (args := [(PySem.Expr.Name "classes" ⟨209, 32, 209, 39⟩)]) (keywords := []) (pos := ⟨209, 22, 209, 40⟩))) (body := [ (PySem.Stmt.For (target := (PySem.Expr.Name "place" ⟨210, 12, 210, 17⟩)) (iter := (PySem.Expr.Call (func := (PySem.Expr.Name "range" ⟨210, 21, 210, 26⟩)) (args := [ (PySem.Expr.Call (func := (PySem.Expr.Name "len" ⟨210, 27, 210, 30⟩)) (args := [ (PySem.Expr.Subscript (value := (PySem.Expr.Name "row" ⟨210, 31, 210, 34⟩)) (slice := (PySem.Expr.Constant (PySem.Const.int 3) 0 ⟨210, 35, 210, 36⟩)) (pos := ⟨210, 31, 210, 37⟩))]) (keywords := []) (pos := ⟨210, 27, 210, 38⟩))]) (keywords := []) (pos := ⟨210, 21, 210, 39⟩))) (body := [ (PySem.Stmt.Expr (value := (PySem.Expr.Call (func := (PySem.Expr.Name "check_code" ⟨211, 12, 211, 22⟩)) (args := [ (PySem.Expr.Name "classes" ⟨211, 23, 211, 30⟩), (PySem.Expr.Name "index" ⟨211, 32, 211, 37⟩), (PySem.Expr.Name "place" ⟨211, 39, 211, 44⟩)]) (keywords := []) (pos := ⟨211, 12, 211, 45⟩))) (pos := ⟨211, 12, 211, 45⟩))]) (orelse := []) (pos := ⟨210, 8, 211, 45⟩))]) (orelse := []) (pos := ⟨209, 4, 211, 45⟩))]) (decorator_list := []) (returns := none) (type_params := []) (scope := { kind := PySem.ScopeKind.function, names := [ (PySem.Str.ofString "classes", PySem.NameKind.local), (PySem.Str.ofString "index", PySem.NameKind.local), (PySem.Str.ofString "row", PySem.NameKind.local), (PySem.Str.ofString "place", PySem.NameKind.local), (PySem.Str.ofString "check_shells", PySem.NameKind.globalImplicit), (PySem.Str.ofString "enumerate", PySem.NameKind.globalImplicit), (PySem.Str.ofString "range", PySem.NameKind.globalImplicit), (PySem.Str.ofString "len", PySem.NameKind.globalImplicit), (PySem.Str.ofString "check_code", PySem.NameKind.globalImplicit)], isGenerator := false, isCoroutine := false, more := [] : PySem.Scope }) (tscope := none) (bind := "check_classes") (pos := ⟨207, 0, 211, 45⟩))
abbrev s_House___init__ : Stmt := inClass s_House 0
abbrev s_House_classes : Stmt := inClass s_House 1
abbrev s_House___eq__ : Stmt := inClass s_House 2
def s_is_kind : Stmt := (PySem.Stmt.FunctionDef (name := "is_kind") (args := { posonlyargs := [], args := [ { arg := "classes", annotation := none, pos := ⟨226, 12, 226, 19⟩ : PySem.Arg }, { arg := "value", annotation := none, pos := ⟨226, 21, 226, 26⟩ : PySem.Arg }], vararg := none, kwonlyargs := [], kw_defaults := [], kwarg := none, defaults := [] : PySem.Arguments }) (body := [ (PySem.Stmt.Return (value := (some (PySem.Expr.BoolOp (op := PySem.BoolOp.Or) (values := [ (PySem.Expr.Compare (left := (PySem.Expr.Name "value" ⟨227, 11, 227, 16⟩)) (ops := [PySem.CmpOp.In]) (comparators := [(PySem.Expr.Name "LOOSE_KINDS" ⟨227, 20, 227, 31⟩)]) (pos := ⟨227, 11, 227, 31⟩)), (PySem.Expr.Call (func := (PySem.Expr.Name "is_class" ⟨227, 35, 227, 43⟩)) (args := [(PySem.Expr.Name "classes" ⟨227, 44, 227, 51⟩), (PySem.Expr.Name "value" ⟨227, 53, 227, 58⟩)]) (keywords := []) (pos := ⟨227, 35, 227, 59⟩))]) (pos := ⟨227, 11, 227, 59⟩)))) (pos := ⟨227, 4, 227, 59⟩))]) (decorator_list := []) (returns := none) (type_params := []) (scope := { kind := PySem.ScopeKind.function, names := [ (PySem.Str.ofString "classes", PySem.NameKind.local), (PySem.Str.ofString "value", PySem.NameKind.local), (PySem.Str.ofString "LOOSE_KINDS", PySem.NameKind.globalImplicit), (PySem.Str.ofString "is_class", PySem.NameKind.globalImplicit)], isGenerator := false, isCoroutine := false, more := [] : PySem.Scope }) (tscope := none) (bind := "is_kind") (pos := ⟨226, 0, 227, 59⟩))
def s_does_fit : Stmt := (PySem.Stmt.FunctionDef (name := "does_fit") (args := { posonlyargs := [], args := [ { arg := "classes", annotation := none, pos := ⟨228, 13, 228, 20⟩ : PySem.Arg }, { arg := "one", annotation := none, pos := ⟨228, 22, 228, 25⟩ : PySem.Arg }, { arg := "other", annotation := none, pos := ⟨228, 27, 228, 32⟩ : PySem.Arg }], vararg := none, kwonlyargs := [], kw_defaults := [], kwarg := none, defaults := [] : PySem.Arguments }) (body := [ (PySem.Stmt.If (test := (PySem.Expr.BoolOp (op := PySem.BoolOp.Or) (values := [ (PySem.Expr.Compare (left := (PySem.Expr.Name "one" ⟨229, 7, 229, 10⟩)) (ops := [PySem.CmpOp.Eq]) (comparators := [(PySem.Expr.Name "other" ⟨229, 14, 229, 19⟩)]) (pos := ⟨229, 7, 229, 19⟩)), (PySem.Expr.Compare (left := (PySem.Expr.Name "other" ⟨229, 23, 229, 28⟩)) (ops := [PySem.CmpOp.Eq]) (comparators := [(PySem.Expr.Constant (PySem.Const.str "unset") 0 ⟨229, 32, 229, 39⟩)]) (pos := ⟨229, 23, 229, 39⟩))]) (pos := ⟨229, 7, 229, 39⟩))) (body := [ (PySem.Stmt.Return (value := (some (PySem.Expr.Constant (PySem.Const.bool true) 0 ⟨230, 15, 230, 19⟩))) (pos := ⟨230, 8, 230, 19⟩))]) (orelse := []) (pos := ⟨229, 4, 230, 19⟩)), (PySem.Stmt.If (test := (PySem.Expr.Compare (left := (PySem.Expr.Name "one" ⟨231, 7, 231, 10⟩)) (ops := [PySem.CmpOp.Eq]) (comparators := [(PySem.Expr.Constant (PySem.Const.str "unset") 0 ⟨231, 14, 231, 21⟩)]) (pos := ⟨231, 7, 231, 21⟩))) (body := [ (PySem.Stmt.Return (value := (some (PySem.Expr.Constant (PySem.Const.bool false) 0 ⟨232, 15, 232, 20⟩))) (pos := ⟨232, 8, 232, 20⟩))]) (orelse := []) (pos := ⟨231, 4, 232, 20⟩)), (PySem.Stmt.If (test := (PySem.Expr.Compare (left := (PySem.Expr.Name "other" ⟨233, 7, 233, 12⟩)) (ops := [PySem.CmpOp.Eq]) (comparators := [(PySem.Expr.Constant (PySem.Const.str "odd") 0 ⟨233, 16, 233, 21⟩)]) (pos := ⟨233, 7, 233, 21⟩))) (body := [ (PySem.Stmt.Return (value := (some (PySem.Expr.Constant (PySem.Const.bool true) 0 ⟨234, 15, 234, 19⟩))) (pos := ⟨234, 8, 234, 19⟩))]) (orelse := []) (pos := ⟨233, 4, 234, 19⟩)), (PySem.Stmt.If (test := (PySem.Expr.Compare (left := (PySem.Expr.Name "one" ⟨235, 7, 235, 10⟩)) (ops := [PySem.CmpOp.Eq]) (comparators := [(PySem.Expr.Constant (PySem.Const.str "none") 0 ⟨235, 14, 235, 20⟩)]) (pos := ⟨235, 7, 235, 20⟩))) (body := [ (PySem.Stmt.Return (value := (some (PySem.Expr.Call (func := (PySem.Expr.Name "is_class" ⟨236, 15, 236, 23⟩)) (args := [(PySem.Expr.Name "classes" ⟨236, 24, 236, 31⟩), (PySem.Expr.Name "other" ⟨236, 33, 236, 38⟩)]) (keywords := []) (pos := ⟨236, 15, 236, 39⟩)))) (pos := ⟨236, 8, 236, 39⟩))]) (orelse := []) (pos := ⟨235, 4, 236, 39⟩)), (PySem.Stmt.Return (value := (some (PySem.Expr.BoolOp (op := PySem.BoolOp.And) (values := [ (PySem.Expr.Call (func := (PySem.Expr.Name "is_class" ⟨237, 11, 237, 19⟩)) (args := [(PySem.Expr.Name "classes" ⟨237, 20, 237, 27⟩), (PySem.Expr.Name "one" ⟨237, 29, 237, 32⟩)]) (keywords := []) (pos := ⟨237, 11, 237, 33⟩)), (PySem.Expr.Compare (left := (PySem.Expr.Name "other" ⟨237, 38, 237, 43⟩)) (ops := [PySem.CmpOp.In]) (comparators := [ (PySem.Expr.Call (func := (PySem.Expr.Name "line_up" ⟨237, 47, 237, 54⟩)) (args := [(PySem.Expr.Name "classes" ⟨237, 55, 237, 62⟩), (PySem.Expr.Name "one" ⟨237, 64, 237, 67⟩)]) (keywords := []) (pos := ⟨237, 47, 237, 68⟩))]) (pos := ⟨237, 38, 237, 68⟩))]) (pos := ⟨237, 11, 237, 68⟩)))) (pos := ⟨237, 4, 237, 68⟩))]) (decorator_list := []) (returns := none) (type_params := []) (scope := { kind := PySem.ScopeKind.function, names := [ (PySem.Str.ofString "classes", PySem.NameKind.local), (PySem.Str.ofString "one", PySem.NameKind.local), (PySem.Str.ofString "other", PySem.NameKind.local), (PySem.Str.ofString "is_class", PySem.NameKind.globalImplicit), (PySem.Str.ofString "line_up", PySem.NameKind.globalImplicit)], isGenerator := false, isCoroutine := false, more := [] : PySem.Scope }) (tscope := none) (bind := "does_fit") (pos := ⟨228, 0, 237, 68⟩))
def s_first_common : Stmt := (PySem.Stmt.FunctionDef (name := "first_common") (args := { posonlyargs := [], args := [ { arg := "classes", annotation := none, pos := ⟨238, 17, 238, 24⟩ : PySem.Arg }, { arg := "one", annotation := none, pos := ⟨238, 26, 238, 29⟩ : PySem.Arg }, { arg := "other", annotation := none, pos := ⟨238, 31, 238, 36⟩ : PySem.Arg }], vararg := none, kwonlyargs := [], kw_defaults := [], kwarg := none, defaults := [] : PySem.Arguments }) (body := [ (PySem.Stmt.Assign (targets := [(PySem.Expr.Name "line" ⟨239, 4, 239, 8⟩)]) (value := (PySem.Expr.Call (func := (PySem.Expr.Name "line_up" ⟨239, 11, 239, 18⟩)) (args := [(PySem.Expr.Name "classes" ⟨239, 19, 239, 26⟩), (PySem.Expr.Name "other" ⟨239, 28, 239, 33⟩)]) (keywords := []) (pos := ⟨239, 11, 239, 34⟩))) (pos := ⟨239, 4, 239, 34⟩)), (PySem.Stmt.Return (value := (some (PySem.Expr.Subscript (value := (PySem.Expr.ListComp (elt := (PySem.Expr.Name "name" ⟨240, 12, 240, 16⟩)) (generators := [ { target := (PySem.Expr.Name "name" ⟨240, 21, 240, 25⟩), iter := (PySem.Expr.Call (func := (PySem.Expr.Name "line_up" ⟨240, 29, 240, 36⟩)) (args := [(PySem.Expr.Name "classes" ⟨240, 37, 240, 44⟩), (PySem.Expr.Name "one" ⟨240, 46, 240, 49⟩)]) (keywords := []) (pos := ⟨240, 29, 240, 50⟩)), ifs := [ (PySem.Expr.Compare (left := (PySem.Expr.Name "name" ⟨240, 54, 240, 58⟩)) (ops := [PySem.CmpOp.In]) (comparators := [(PySem.Expr.Name "line" ⟨240, 62, 240, 66⟩)]) (pos := ⟨240, 54, 240, 66⟩))], is_async := 0 : PySem.Comprehension }]) (scope := { kind := PySem.ScopeKind.function, names := [ (PySem.Str.ofString ".0", PySem.NameKind.local), (PySem.Str.ofString "name", PySem.NameKind.local), (PySem.Str.ofString "line", PySem.NameKind.free)], isGenerator := false, isCoroutine := false, more := [] : PySem.Scope }) (pos := ⟨240, 11, 240, 67⟩))) (slice := (PySem.Expr.Constant (PySem.Const.int 0) 0 ⟨240, 68, 240, 69⟩)) (pos := ⟨240, 11, 240, 70⟩)))) (pos := ⟨240, 4, 240, 70⟩))]) (decorator_list := []) (returns := none) (type_params := []) (scope := { kind := PySem.ScopeKind.function, names := [ (PySem.Str.ofString "classes", PySem.NameKind.local), (PySem.Str.ofString "one", PySem.NameKind.local), (PySem.Str.ofString "other", PySem.NameKind.local), (PySem.Str.ofString "line", PySem.NameKind.cell), (PySem.Str.ofString "line_up", PySem.NameKind.globalImplicit)], isGenerator := false, isCoroutine := false, more := [ (PySem.Str.ofString "fast", (PySem.Const.str "classes")), (PySem.Str.ofString "fast", (PySem.Const.str "one")), (PySem.Str.ofString "fast", (PySem.Const.str "other")), (PySem.Str.ofString "fast", (PySem.Const.str "line")), (PySem.Str.ofString "fast", (PySem.Const.str "name"))] : PySem.Scope }) (tscope := none) (bind := "first_common") (pos := ⟨238, 0, 240, 70⟩))
def s_join_of : Stmt := (PySem.Stmt.FunctionDef (name := "join_of") (args := { posonlyargs := [], args := [ { arg := "classes", annotation := none, pos := ⟨241, 12, 241, 19⟩ : PySem.Arg }, { arg := "one", annotation := none, pos := ⟨241, 21, 241, 24⟩ : PySem.Arg }, { arg := "other", annotation := none, pos := ⟨241, 26, 241, 31⟩ : PySem.Arg }], vararg := none, kwonlyargs := [], kw_defaults := [], kwarg := none, defaults := [] : PySem.Arguments }) (body := [ (PySem.Stmt.If (test := (PySem.Expr.Call (func := (PySem.Expr.Name "does_fit" ⟨242, 7, 242, 15⟩)) (args := [ (PySem.Expr.Name "classes" ⟨242, 16, 242, 23⟩), (PySem.Expr.Name "one" ⟨242, 25, 242, 28⟩), (PySem.Expr.Name "other" ⟨242, 30, 242, 35⟩)]) (keywords := []) (pos := ⟨242, 7, 242, 36⟩))) (body := [(PySem.Stmt.Return (some (PySem.Expr.Name "other" ⟨243, 15, 243, 20⟩)) ⟨243, 8, 243, 20⟩)]) (orelse := []) (pos := ⟨242, 4, 243, 20⟩)), (PySem.Stmt.If (test := (PySem.Expr.Call (func := (PySem.Expr.Name "does_fit" ⟨244, 7, 244, 15⟩)) (args := [ (PySem.Expr.Name "classes" ⟨244, 16, 244, 23⟩), (PySem.Expr.Name "other" ⟨244, 25, 244, 30⟩), (PySem.Expr.Name "one" ⟨244, 32, 244, 35⟩)]) (keywords := []) (pos := ⟨244, 7, 244, 36⟩))) (body := [(PySem.Stmt.Return (some (PySem.Expr.Name "one" ⟨245, 15, 245, 18⟩)) ⟨245, 8, 245, 18⟩)]) (orelse := []) (pos := ⟨244, 4, 245, 18⟩)), (PySem.Stmt.If (test := (PySem.Expr.BoolOp (op := PySem.BoolOp.And) (values := [ (PySem.Expr.Call (func := (PySem.Expr.Name "is_class" ⟨246, 7, 246, 15⟩)) (args := [(PySem.Expr.Name "classes" ⟨246, 16, 246, 23⟩), (PySem.Expr.Name "one" ⟨246, 25, 246, 28⟩)]) (keywords := []) (pos := ⟨246, 7, 246, 29⟩)), (PySem.Expr.Call (func := (PySem.Expr.Name "is_class" ⟨246, 34, 246, 42⟩)) (args := [(PySem.Expr.Name "classes" ⟨246, 43, 246, 50⟩), (PySem.Expr.Name "other" ⟨246, 52, 246, 57⟩)]) (keywords := []) (pos := ⟨246, 34, 246, 58⟩))]) (pos := ⟨246, 7, 246, 58⟩))) (body := [ (PySem.Stmt.Return (value := (some (PySem.Expr.Call (func := (PySem.Expr.Name "first_common" ⟨247, 15, 247, 27⟩)) (args := [ (PySem.Expr.Name "classes" ⟨247, 28, 247, 35⟩), (PySem.Expr.Name "one" ⟨247, 37, 247, 40⟩), (PySem.Expr.Name "other" ⟨247, 42, 247, 47⟩)]) (keywords := []) (pos := ⟨247, 15, 247, 48⟩)))) (pos := ⟨247, 8, 247, 48⟩))]) (orelse := []) (pos := ⟨246, 4, 247, 48⟩)), (PySem.Stmt.Return (value := (some (PySem.Expr.Constant (PySem.Const.str "odd") 0 ⟨248, 11, 248, 16⟩))) (pos := ⟨248, 4, 248, 16⟩))]) (decorator_list := []) (returns := none) (type_params := []) (scope := { kind := PySem.ScopeKind.function, names := [ (PySem.Str.ofString "classes", PySem.NameKind.local), (PySem.Str.ofString "one", PySem.NameKind.local), (PySem.Str.ofString "other", PySem.NameKind.local), (PySem.Str.ofString "does_fit", PySem.NameKind.globalImplicit), (PySem.Str.ofString "is_class", PySem.NameKind.globalImplicit), (PySem.Str.ofString "first_common", PySem.NameKind.globalImplicit)], isGenerator := false, isCoroutine := false, more := [] : PySem.Scope }) (tscope := none) (bind := "join_of") (pos := ⟨241, 0, 248, 16⟩))
def s_check_house : Stmt := (PySem.Stmt.FunctionDef (name := "check_house") (args := { posonlyargs := [], args := [{ arg := "house", annotation := none, pos := ⟨250, 16, 250, 21⟩ : PySem.Arg }], vararg := none, kwonlyargs := [], kw_defaults := [], kwarg := none, defaults := [] : PySem.Arguments }) (body := [ (PySem.Stmt.If (test := (PySem.Expr.UnaryOp (op := PySem.UnaryOp.Not) (operand := (PySem.Expr.Call (func := (PySem.Expr.Name "isinstance" ⟨251, 11, 251, 21⟩)) (args := [(PySem.Expr.Name "house" ⟨251, 22, 251, 27⟩), (PySem.Expr.Name "House" ⟨251, 29, 251, 34⟩)]) (keywords := []) (pos := ⟨251, 11, 251, 35⟩))) (pos := ⟨251, 7, 251, 35⟩))) (body := [ (PySem.Stmt.Raise (exc := (some (PySem.Expr.Call (func := (PySem.Expr.Name "NoHouse" ⟨252, 14, 252, 21⟩)) (args := [(PySem.Expr.Constant (PySem.Const.str "no House") 0 ⟨252, 22, 252, 32⟩)]) (keywords := []) (pos := ⟨252, 14, 252, 33⟩)))) (cause := none) (pos := ⟨252, 8, 252, 33⟩))]) (orelse := []) (pos := ⟨251, 4, 252, 33⟩))]) (decorator_list := []) (returns := none) (type_params := []) (scope := { kind := PySem.ScopeKind.function, names := [ (PySem.Str.ofString "house", PySem.NameKind.local), (PySem.Str.ofString "isinstance", PySem.NameKind.globalImplicit), (PySem.Str.ofString "House", PySem.NameKind.globalImplicit), (PySem.Str.ofString "NoHouse", PySem.NameKind.globalImplicit)], isGenerator := false, isCoroutine := false, more := [] : PySem.Scope }) (tscope := none) (bind := "check_house") (pos := ⟨250, 0, 252, 33⟩))
def s_check_name : Stmt := (PySem.Stmt.FunctionDef (name := "check_name") (args := { posonlyargs := [], args := [ { arg := "house", annotation := none, pos := ⟨253, 15, 253, 20⟩ : PySem.Arg }, { arg := "name", annotation := none, pos := ⟨253, 22, 253, 26⟩ : PySem.Arg }], vararg := none, kwonlyargs := [], kw_defaults := [], kwarg := none, defaults := [] : PySem.Arguments }) (body := [ (PySem.Stmt.Expr (value := (PySem.Expr.Call (func := (PySem.Expr.Name "check_house" ⟨254, 4, 254, 15⟩)) (args := [(PySem.Expr.Name "house" ⟨254, 16, 254, 21⟩)]) (keywords := []) (pos := ⟨254, 4, 254, 22⟩))) (pos := ⟨254, 4, 254, 22⟩)), (PySem.Stmt.If (test := (PySem.Expr.UnaryOp (op := PySem.UnaryOp.Not) (operand := (PySem.Expr.Call (func := (PySem.Expr.Name "is_class" ⟨255, 11, 255, 19⟩)) (args := [ (PySem.Expr.Attribute (PySem.Expr.Name "house" ⟨255, 20, 255, 25⟩) "classes" ⟨255, 20, 255, 33⟩), (PySem.Expr.Name "name" ⟨255, 35, 255, 39⟩)]) (keywords := []) (pos := ⟨255, 11, 255, 40⟩))) (pos := ⟨255, 7, 255, 40⟩))) (body := [ (PySem.Stmt.Raise (exc := (some (PySem.Expr.Call (func := (PySem.Expr.Name "BadName" ⟨256, 14, 256, 21⟩)) (args := [(PySem.Expr.Constant (PySem.Const.str "no class of the house") 0 ⟨256, 22, 256, 45⟩)]) (keywords := []) (pos := ⟨256, 14, 256, 46⟩)))) (cause := none) (pos := ⟨256, 8, 256, 46⟩))]) (orelse := []) (pos := ⟨255, 4, 256, 46⟩))]) (decorator_list := []) (returns := none) (type_params := []) (scope := { kind := PySem.ScopeKind.function, names := [ (PySem.Str.ofString "house", PySem.NameKind.local), (PySem.Str.ofString "name", PySem.NameKind.local), (PySem.Str.ofString "check_house", PySem.NameKind.globalImplicit), (PySem.Str.ofString "is_class", PySem.NameKind.globalImplicit), (PySem.Str.ofString "BadName", PySem.NameKind.globalImplicit)], isGenerator := false, isCoroutine := false, more := [] : PySem.Scope }) (tscope := none) (bind := "check_name") (pos := ⟨253, 0, 256, 46⟩))
def s_check_kind : Stmt := (PySem.Stmt.FunctionDef (name := "check_kind") (args := { posonlyargs := [], args := [ { arg := "house", annotation := none, pos := ⟨257, 15, 257, 20⟩ : PySem.Arg }, { arg := "kind", annotation := none, pos := ⟨257, 22, 257, 26⟩ : PySem.Arg }], vararg := none, kwonlyargs := [], kw_defaults := [], kwarg := none, defaults := [] : PySem.Arguments }) (body := [ (PySem.Stmt.Expr (value := (PySem.Expr.Call (func := (PySem.Expr.Name "check_house" ⟨258, 4, 258, 15⟩)) (args := [(PySem.Expr.Name "house" ⟨258, 16, 258, 21⟩)]) (keywords := []) (pos := ⟨258, 4, 258, 22⟩))) (pos := ⟨258, 4, 258, 22⟩)), (PySem.Stmt.If (test := (PySem.Expr.UnaryOp (op := PySem.UnaryOp.Not) (operand := (PySem.Expr.Call (func := (PySem.Expr.Name "is_kind" ⟨259, 11, 259, 18⟩)) (args := [ (PySem.Expr.Attribute (PySem.Expr.Name "house" ⟨259, 19, 259, 24⟩) "classes" ⟨259, 19, 259, 32⟩), (PySem.Expr.Name "kind" ⟨259, 34, 259, 38⟩)]) (keywords := []) (pos := ⟨259, 11, 259, 39⟩))) (pos := ⟨259, 7, 259, 39⟩))) (body := [ (PySem.Stmt.Raise (exc := (some (PySem.Expr.Call (func := (PySem.Expr.Name "BadKind" ⟨260, 14, 260, 21⟩)) (args := [(PySem.Expr.Constant (PySem.Const.str "no kind of the house") 0 ⟨260, 22, 260, 44⟩)]) (keywords := []) (pos := ⟨260, 14, 260, 45⟩)))) (cause := none) (pos := ⟨260, 8, 260, 45⟩))]) (orelse := []) (pos := ⟨259, 4, 260, 45⟩))]) (decorator_list := []) (returns := none) (type_params := []) (scope := { kind := PySem.ScopeKind.function, names := [ (PySem.Str.ofString "house", PySem.NameKind.local), (PySem.Str.ofString "kind", PySem.NameKind.local), (PySem.Str.ofString "check_house", PySem.NameKind.globalImplicit), (PySem.Str.ofString "is_kind", PySem.NameKind.globalImplicit), (PySem.Str.ofString "BadKind", PySem.NameKind.globalImplicit)], isGenerator := false, isCoroutine := false, more := [] : PySem.Scope }) (tscope := none) (bind := "check_kind") (pos := ⟨257, 0, 260, 45⟩))
def s_check_word : Stmt := (PySem.Stmt.FunctionDef (name := "check_word") (args := { posonlyargs := [], args := [ { arg := "house", annotation := none, pos := ⟨261, 15, 261, 20⟩ : PySem.Arg }, { arg := "name", annotation := none, pos := ⟨261, 22, 261, 26⟩ : PySem.Arg }, { arg := "word", annotation := none, pos := ⟨261, 28, 261, 32⟩ : PySem.Arg }], vararg := none, kwonlyargs := [], kw_defaults := [], kwarg := none, defaults := [] : PySem.Arguments }) (body := [ (PySem.Stmt.Expr (value := (PySem.Expr.Call (func := (PySem.Expr.Name "check_name" ⟨262, 4, 262, 14⟩)) (args := [(PySem.Expr.Name "house" ⟨262, 15, 262, 20⟩), (PySem.Expr.Name "name" ⟨262, 22, 262, 26⟩)]) (keywords := []) (pos := ⟨262, 4, 262, 27⟩))) (pos := ⟨262, 4, 262, 27⟩)), (PySem.Stmt.If (test := (PySem.Expr.UnaryOp (op := PySem.UnaryOp.Not) (operand := (PySem.Expr.Call (func := (PySem.Expr.Name "is_word" ⟨263, 11, 263, 18⟩)) (args := [(PySem.Expr.Name "word" ⟨263, 19, 263, 23⟩)]) (keywords := []) (pos := ⟨263, 11, 263, 24⟩))) (pos := ⟨263, 7, 263, 24⟩))) (body := [ (PySem.Stmt.Raise (exc := (some (PySem.Expr.Call (func := (PySem.Expr.Name "BadWord" ⟨264, 14, 264, 21⟩)) (args := [(PySem.Expr.Constant (PySem.Const.str "no word") 0 ⟨264, 22, 264, 31⟩)]) (keywords := []) (pos := ⟨264, 14, 264, 32⟩)))) (cause := none) (pos := ⟨264, 8, 264, 32⟩))]) (orelse := []) (pos := ⟨263, 4, 264, 32⟩))]) (decorator_list := []) (returns := none) (type_params := []) (scope := { kind := PySem.ScopeKind.function, names := [ (PySem.Str.ofString "house", PySem.NameKind.local), (PySem.Str.ofString "name", PySem.NameKind.local), (PySem.Str.ofString "word", PySem.NameKind.local), (PySem.Str.ofString "check_name", PySem.NameKind.globalImplicit), (PySem.Str.ofString "is_word", PySem.NameKind.globalImplicit), (PySem.Str.ofString "BadWord", PySem.NameKind.globalImplicit)], isGenerator := false, isCoroutine := false, more := [] : PySem.Scope }) (tscope := none) (bind := "check_word") (pos := ⟨261, 0, 264, 32⟩))
def s_upward : Stmt := (PySem.Stmt.FunctionDef (name := "upward") (args := { posonlyargs := [], args := [ { arg := "house", annotation := none, pos := ⟨266, 11, 266, 16⟩ : PySem.Arg }, { arg := "name", annotation := none, pos := ⟨266, 18, 266, 22⟩ : PySem.Arg }], vararg := none, kwonlyargs := [], kw_defaults := [], kwarg := none, defaults := [] : PySem.Arguments }) (body := [ (PySem.Stmt.Expr (value := (PySem.Expr.Call (func := (PySem.Expr.Name "check_name" ⟨267, 4, 267, 14⟩)) (args := [(PySem.Expr.Name "house" ⟨267, 15, 267, 20⟩), (PySem.Expr.Name "name" ⟨267, 22, 267, 26⟩)]) (keywords := []) (pos := ⟨267, 4, 267, 27⟩))) (pos := ⟨267, 4, 267, 27⟩)), (PySem.Stmt.Return (value := (some (PySem.Expr.Call (func := (PySem.Expr.Name "line_up" ⟨268, 11, 268, 18⟩)) (args := [ (PySem.Expr.Attribute (PySem.Expr.Name "house" ⟨268, 19, 268, 24⟩) "classes" ⟨268, 19, 268, 32⟩), (PySem.Expr.Name "name" ⟨268, 34, 268, 38⟩)]) (keywords := []) (pos := ⟨268, 11, 268, 39⟩)))) (pos := ⟨268, 4, 268, 39⟩))]) (decorator_list := []) (returns := none) (type_params := []) (scope := { kind := PySem.ScopeKind.function, names := [ (PySem.Str.ofString "house", PySem.NameKind.local), (PySem.Str.ofString "name", PySem.NameKind.local), (PySem.Str.ofString "check_name", PySem.NameKind.globalImplicit), (PySem.Str.ofString "line_up", PySem.NameKind.globalImplicit)], isGenerator := false, isCoroutine := false, more := [] : PySem.Scope }) (tscope := none) (bind := "upward") (pos := ⟨266, 0, 268, 39⟩))
def s_downward : Stmt := (PySem.Stmt.FunctionDef (name := "downward") (args := { posonlyargs := [], args := [ { arg := "house", annotation := none, pos := ⟨269, 13, 269, 18⟩ : PySem.Arg }, { arg := "name", annotation := none, pos := ⟨269, 20, 269, 24⟩ : PySem.Arg }], vararg := none, kwonlyargs := [], kw_defaults := [], kwarg := none, defaults := [] : PySem.Arguments }) (body := [ (PySem.Stmt.Expr (value := (PySem.Expr.Call (func := (PySem.Expr.Name "check_name" ⟨270, 4, 270, 14⟩)) (args := [(PySem.Expr.Name "house" ⟨270, 15, 270, 20⟩), (PySem.Expr.Name "name" ⟨270, 22, 270, 26⟩)]) (keywords := []) (pos := ⟨270, 4, 270, 27⟩))) (pos := ⟨270, 4, 270, 27⟩)), (PySem.Stmt.Return (value := (some (PySem.Expr.Call (func := (PySem.Expr.Name "line_down" ⟨271, 11, 271, 20⟩)) (args := [ (PySem.Expr.Attribute (PySem.Expr.Name "house" ⟨271, 21, 271, 26⟩) "classes" ⟨271, 21, 271, 34⟩), (PySem.Expr.Name "name" ⟨271, 36, 271, 40⟩)]) (keywords := []) (pos := ⟨271, 11, 271, 41⟩)))) (pos := ⟨271, 4, 271, 41⟩))]) (decorator_list := []) (returns := none) (type_params := []) (scope := { kind := PySem.ScopeKind.function, names := [ (PySem.Str.ofString "house", PySem.NameKind.local), (PySem.Str.ofString "name", PySem.NameKind.local), (PySem.Str.ofString "check_name", PySem.NameKind.globalImplicit), (PySem.Str.ofString "line_down", PySem.NameKind.globalImplicit)], isGenerator := false, isCoroutine := false, more := [] : PySem.Scope }) (tscope := none) (bind := "downward") (pos := ⟨269, 0, 271, 41⟩))
def s_common : Stmt := (PySem.Stmt.FunctionDef (name := "common") (args := { posonlyargs := [], args := [ { arg := "house", annotation := none, pos := ⟨272, 11, 272, 16⟩ : PySem.Arg }, { arg := "one", annotation := none, pos := ⟨272, 18, 272, 21⟩ : PySem.Arg }, { arg := "other", annotation := none, pos := ⟨272, 23, 272, 28⟩ : PySem.Arg }], vararg := none, kwonlyargs := [], kw_defaults := [], kwarg := none, defaults := [] : PySem.Arguments }) (body := [ (PySem.Stmt.Expr (value := (PySem.Expr.Call (func := (PySem.Expr.Name "check_name" ⟨273, 4, 273, 14⟩)) (args := [(PySem.Expr.Name "house" ⟨273, 15, 273, 20⟩), (PySem.Expr.Name "one" ⟨273, 22, 273, 25⟩)]) (keywords := []) (pos := ⟨273, 4, 273, 26⟩))) (pos := ⟨273, 4, 273, 26⟩)), (PySem.Stmt.Expr (value := (PySem.Expr.Call (func := (PySem.Expr.Name "check_name" ⟨274, 4, 274, 14⟩)) (args := [(PySem.Expr.Name "house" ⟨274, 15, 274, 20⟩), (PySem.Expr.Name "other" ⟨274, 22, 274, 27⟩)]) (keywords := []) (pos := ⟨274, 4, 274, 28⟩))) (pos := ⟨274, 4, 274, 28⟩)), (PySem.Stmt.Return (value := (some (PySem.Expr.Call (func := (PySem.Expr.Name "first_common" ⟨275, 11, 275, 23⟩)) (args := [ (PySem.Expr.Attribute (PySem.Expr.Name "house" ⟨275, 24, 275, 29⟩) "classes" ⟨275, 24, 275, 37⟩), (PySem.Expr.Name "one" ⟨275, 39, 275, 42⟩), (PySem.Expr.Name "other" ⟨275, 44, 275, 49⟩)]) (keywords := []) (pos := ⟨275, 11, 275, 50⟩)))) (pos := ⟨275, 4, 275, 50⟩))]) (decorator_list := []) (returns := none) (type_params := []) (scope := { kind := PySem.ScopeKind.function, names := [ (PySem.Str.ofString "house", PySem.NameKind.local), (PySem.Str.ofString "one", PySem.NameKind.local), (PySem.Str.ofString "other", PySem.NameKind.local), (PySem.Str.ofString "check_name", PySem.NameKind.globalImplicit), (PySem.Str.ofString "first_common", PySem.NameKind.globalImplicit)], isGenerator := false, isCoroutine := false, more := [] : PySem.Scope }) (tscope := none) (bind := "common") (pos := ⟨272, 0, 275, 50⟩))
def s_fits : Stmt := (PySem.Stmt.FunctionDef (name := "fits") (args := { posonlyargs := [], args := [ { arg := "house", annotation := none, pos := ⟨276, 9, 276, 14⟩ : PySem.Arg }, { arg := "one", annotation := none, pos := ⟨276, 16, 276, 19⟩ : PySem.Arg }, { arg := "other", annotation := none, pos := ⟨276, 21, 276, 26⟩ : PySem.Arg }], vararg := none, kwonlyargs := [], kw_defaults := [], kwarg := none, defaults := [] : PySem.Arguments }) (body := [ (PySem.Stmt.Expr (value := (PySem.Expr.Call (func := (PySem.Expr.Name "check_kind" ⟨277, 4, 277, 14⟩)) (args := [(PySem.Expr.Name "house" ⟨277, 15, 277, 20⟩), (PySem.Expr.Name "one" ⟨277, 22, 277, 25⟩)]) (keywords := []) (pos := ⟨277, 4, 277, 26⟩))) (pos := ⟨277, 4, 277, 26⟩)), (PySem.Stmt.Expr (value := (PySem.Expr.Call (func := (PySem.Expr.Name "check_kind" ⟨278, 4, 278, 14⟩)) (args := [(PySem.Expr.Name "house" ⟨278, 15, 278, 20⟩), (PySem.Expr.Name "other" ⟨278, 22, 278, 27⟩)]) (keywords := []) (pos := ⟨278, 4, 278, 28⟩))) (pos := ⟨278, 4, 278, 28⟩)), (PySem.Stmt.Return (value := (some (PySem.Expr.Call (func := (PySem.Expr.Name "does_fit" ⟨279, 11, 279, 19⟩)) (args := [ (PySem.Expr.Attribute (PySem.Expr.Name "house" ⟨279, 20, 279, 25⟩) "classes" ⟨279, 20, 279, 33⟩), (PySem.Expr.Name "one" ⟨279, 35, 279, 38⟩), (PySem.Expr.Name "other" ⟨279, 40, 279, 45⟩)]) (keywords := []) (pos := ⟨279, 11, 279, 46⟩)))) (pos := ⟨279, 4, 279, 46⟩))]) (decorator_list := []) (returns := none) (type_params := []) (scope := { kind := PySem.ScopeKind.function, names := [ (PySem.Str.ofString "house", PySem.NameKind.local), (PySem.Str.ofString "one", PySem.NameKind.local), (PySem.Str.ofString "other", PySem.NameKind.local), (PySem.Str.ofString "check_kind", PySem.NameKind.globalImplicit), (PySem.Str.ofString "does_fit", PySem.NameKind.globalImplicit)], isGenerator := false, isCoroutine := false, more := [] : PySem.Scope }) (tscope := none) (bind := "fits") (pos := ⟨276, 0, 279, 46⟩))
def s_joined : Stmt := (PySem.Stmt.FunctionDef (name := "joined") (args := { posonlyargs := [], args := [ { arg := "house", annotation := none, pos := ⟨280, 11, 280, 16⟩ : PySem.Arg }, { arg := "one", annotation := none, pos := ⟨280, 18, 280, 21⟩ : PySem.Arg }, { arg := "other", annotation := none, pos := ⟨280, 23, 280, 28⟩ : PySem.Arg }], vararg := none, kwonlyargs := [], kw_defaults := [], kwarg := none, defaults := [] : PySem.Arguments }) (body := [ (PySem.Stmt.Expr (value := (PySem.Expr.Call (func := (PySem.Expr.Name "check_kind" ⟨281, 4, 281, 14⟩)) (args := [(PySem.Expr.Name "house" ⟨281, 15, 281, 20⟩), (PySem.Expr.Name "one" ⟨281, 22, 281, 25⟩)]) (keywords := []) (pos := ⟨281, 4, 281, 26⟩))) (pos := ⟨281, 4, 281, 26⟩)), (PySem.Stmt.Expr (value := (PySem.Expr.Call (func := (PySem.Expr.Name "check_kind" ⟨282, 4, 282, 14⟩)) (args := [(PySem.Expr.Name "house" ⟨282, 15, 282, 20⟩), (PySem.Expr.Name "other" ⟨282, 22, 282, 27⟩)]) (keywords := []) (pos := ⟨282, 4, 282, 28⟩))) (pos := ⟨282, 4, 282, 28⟩)), (PySem.Stmt.Return (value := (some (PySem.Expr.Call (func := (PySem.Expr.Name "join_of" ⟨283, 11, 283, 18⟩)) (args := [ (PySem.Expr.Attribute (PySem.Expr.Name "house" ⟨283, 19, 283, 24⟩) "classes" ⟨283, 19, 283, 32⟩), (PySem.Expr.Name "one" ⟨283, 34, 283, 37⟩), (PySem.Expr.Name "other" ⟨283, 39, 283, 44⟩)]) (keywords := []) (pos := ⟨283, 11, 283, 45⟩)))) (pos := ⟨283, 4, 283, 45⟩))]) (decorator_list := []) (returns := none) (type_params := []) (scope := { kind := PySem.ScopeKind.function, names := [ (PySem.Str.ofString "house", PySem.NameKind.local), (PySem.Str.ofString "one", PySem.NameKind.local), (PySem.Str.ofString "other", PySem.NameKind.local), (PySem.Str.ofString "check_kind", PySem.NameKind.globalImplicit), (PySem.Str.ofString "join_of", PySem.NameKind.globalImplicit)], isGenerator := false, isCoroutine := false, more := [] : PySem.Scope }) (tscope := none) (bind := "joined") (pos := ⟨280, 0, 283, 45⟩))
def s_fields_of : Stmt := (PySem.Stmt.FunctionDef (name := "fields_of") (args := { posonlyargs := [], args := [ { arg := "house", annotation := none, pos := ⟨285, 14, 285, 19⟩ : PySem.Arg }, { arg := "name", annotation := none, pos := ⟨285, 21, 285, 25⟩ : PySem.Arg }], vararg := none, kwonlyargs := [], kw_defaults := [], kwarg := none, defaults := [] : PySem.Arguments }) (body := [ (PySem.Stmt.Expr (value := (PySem.Expr.Call (func := (PySem.Expr.Name "check_name" ⟨286, 4, 286, 14⟩)) (args := [(PySem.Expr.Name "house" ⟨286, 15, 286, 20⟩), (PySem.Expr.Name "name" ⟨286, 22, 286, 26⟩)]) (keywords := []) (pos := ⟨286, 4, 286, 27⟩))) (pos := ⟨286, 4, 286, 27⟩)), (PySem.Stmt.Return (value := (some (PySem.Expr.Call (func := (PySem.Expr.Name "fields_up" ⟨287, 11, 287, 20⟩)) (args := [ (PySem.Expr.Attribute (PySem.Expr.Name "house" ⟨287, 21, 287, 26⟩) "classes" ⟨287, 21, 287, 34⟩), (PySem.Expr.Name "name" ⟨287, 36, 287, 40⟩)]) (keywords := []) (pos := ⟨287, 11, 287, 41⟩)))) (pos := ⟨287, 4, 287, 41⟩))]) (decorator_list := []) (returns := none) (type_params := []) (scope := { kind := PySem.ScopeKind.function, names := [ (PySem.Str.ofString "house", PySem.NameKind.local), (PySem.Str.ofString "name", PySem.NameKind.local), (PySem.Str.ofString "check_name", PySem.NameKind.globalImplicit), (PySem.Str.ofString "fields_up", PySem.NameKind.globalImplicit)], isGenerator := false, isCoroutine := false, more := [] : PySem.Scope }) (tscope := none) (bind := "fields_of") (pos := ⟨285, 0, 287, 41⟩))
def s_method_of : Stmt := (PySem.Stmt.FunctionDef (name := "method_of") (args := { posonlyargs := [], args := [ { arg := "house", annotation := none, pos := ⟨288, 14, 288, 19⟩ : PySem.Arg }, { arg := "name", annotation := none, pos := ⟨288, 21, 288, 25⟩ : PySem.Arg }, { arg := "word", annotation := none, pos := ⟨288, 27, 288, 31⟩ : PySem.Arg }], vararg := none, kwonlyargs := [], kw_defaults := [], kwarg := none, defaults := [] : PySem.Arguments }) (body := [ (PySem.Stmt.Expr (value := (PySem.Expr.Call (func := (PySem.Expr.Name "check_word" ⟨289, 4, 289, 14⟩)) (args := [ (PySem.Expr.Name "house" ⟨289, 15, 289, 20⟩), (PySem.Expr.Name "name" ⟨289, 22, 289, 26⟩), (PySem.Expr.Name "word" ⟨289, 28, 289, 32⟩)]) (keywords := []) (pos := ⟨289, 4, 289, 33⟩))) (pos := ⟨289, 4, 289, 33⟩)), (PySem.Stmt.Return (value := (some (PySem.Expr.Call (func := (PySem.Expr.Name "nearest" ⟨290, 11, 290, 18⟩)) (args := [ (PySem.Expr.Attribute (PySem.Expr.Name "house" ⟨290, 19, 290, 24⟩) "classes" ⟨290, 19, 290, 32⟩), (PySem.Expr.Name "name" ⟨290, 34, 290, 38⟩), (PySem.Expr.Name "word" ⟨290, 40, 290, 44⟩)]) (keywords := []) (pos := ⟨290, 11, 290, 45⟩)))) (pos := ⟨290, 4, 290, 45⟩))]) (decorator_list := []) (returns := none) (type_params := []) (scope := { kind := PySem.ScopeKind.function, names := [ (PySem.Str.ofString "house", PySem.NameKind.local), (PySem.Str.ofString "name", PySem.NameKind.local), (PySem.Str.ofString "word", PySem.NameKind.local), (PySem.Str.ofString "check_word", PySem.NameKind.globalImplicit), (PySem.Str.ofString "nearest", PySem.NameKind.globalImplicit)], isGenerator := false, isCoroutine := false, more := [] : PySem.Scope }) (tscope := none) (bind := "method_of") (pos := ⟨288, 0, 290, 45⟩))
def s_methods_of : Stmt := (PySem.Stmt.FunctionDef (name := "methods_of") (args := { posonlyargs := [], args := [ { arg := "house", annotation := none, pos := ⟨291, 15, 291, 20⟩ : PySem.Arg }, { arg := "name", annotation := none, pos := ⟨291, 22, 291, 26⟩ : PySem.Arg }], vararg := none, kwonlyargs := [], kw_defaults := [], kwarg := none, defaults := [] : PySem.Arguments }) (body := [ (PySem.Stmt.Expr (value := (PySem.Expr.Call (func := (PySem.Expr.Name "check_name" ⟨292, 4, 292, 14⟩)) (args := [(PySem.Expr.Name "house" ⟨292, 15, 292, 20⟩), (PySem.Expr.Name "name" ⟨292, 22, 292, 26⟩)]) (keywords := []) (pos := ⟨292, 4, 292, 27⟩))) (pos := ⟨292, 4, 292, 27⟩)), (PySem.Stmt.Assign (targets := [(PySem.Expr.Name "nearest_classes" ⟨293, 4, 293, 19⟩)]) (value := (PySem.Expr.Dict [] [] ⟨293, 22, 293, 24⟩)) (pos := ⟨293, 4, 293, 24⟩)), (PySem.Stmt.For (target := (PySem.Expr.Name "upper" ⟨294, 8, 294, 13⟩)) (iter := (PySem.Expr.Call (func := (PySem.Expr.Name "line_up" ⟨294, 17, 294, 24⟩)) (args := [ (PySem.Expr.Attribute (PySem.Expr.Name "house" ⟨294, 25, 294, 30⟩) "classes" ⟨294, 25, 294, 38⟩), (PySem.Expr.Name "name" ⟨294, 40, 294, 44⟩)]) (keywords := []) (pos := ⟨294, 17, 294, 45⟩))) (body := [ (PySem.Stmt.For (target := (PySem.Expr.Name "method" ⟨295, 12, 295, 18⟩)) (iter := (PySem.Expr.Subscript (value := (PySem.Expr.Call (func := (PySem.Expr.Name "class_of" ⟨295, 22, 295, 30⟩)) (args := [ (PySem.Expr.Attribute (PySem.Expr.Name "house" ⟨295, 31, 295, 36⟩) "classes" ⟨295, 31, 295, 44⟩), (PySem.Expr.Name "upper" ⟨295, 46, 295, 51⟩)]) (keywords := []) (pos := ⟨295, 22, 295, 52⟩))) (slice := (PySem.Expr.Constant (PySem.Const.int 3) 0 ⟨295, 53, 295, 54⟩)) (pos := ⟨295, 22, 295, 55⟩))) (body := [ (PySem.Stmt.Expr (value := (PySem.Expr.Call (func := (PySem.Expr.Attribute (PySem.Expr.Name "nearest_classes" ⟨296, 12, 296, 27⟩) "setdefault" ⟨296, 12, 296, 38⟩)) (args := [ (PySem.Expr.Subscript (value := (PySem.Expr.Name "method" ⟨296, 39, 296, 45⟩)) (slice := (PySem.Expr.Constant (PySem.Const.int 0) 0 ⟨296, 46, 296, 47⟩)) (pos := ⟨296, 39, 296, 48⟩)), (PySem.Expr.Name "upper" ⟨296, 50, 296, 55⟩)]) (keywords := []) (pos := ⟨296, 12, 296, 56⟩))) (pos := ⟨296, 12, 296, 56⟩))]) (orelse := []) (pos := ⟨295, 8, 296, 56⟩))]) (orelse := []) (pos := ⟨294, 4, 296, 56⟩)), (PySem.Stmt.Return (value := (some (PySem.Expr.Call (func := (PySem.Expr.Name "tuple" ⟨297, 11, 297, 16⟩)) (args := [ (PySem.Expr.Call (func := (PySem.Expr.Name "sorted" ⟨297, 17, 297, 23⟩)) (args := [ (PySem.Expr.Call (func := (PySem.Expr.Attribute (PySem.Expr.Name "nearest_classes" ⟨297, 24, 297, 39⟩) "items" ⟨297, 24, 297, 45⟩)) (args := []) (keywords := []) (pos := ⟨297, 24, 297, 47⟩))]) (keywords := []) (pos := ⟨297, 17, 297, 48⟩))]) (keywords := []) (pos := ⟨297, 11, 297, 49⟩)))) (pos := ⟨297, 4, 297, 49⟩))]) (decorator_list := []) (returns := none) (type_params := []) (scope := { kind := PySem.ScopeKind.function, names := [ (PySem.Str.ofString "house", PySem.NameKind.local), (PySem.Str.ofString "name", PySem.NameKind.local), (PySem.Str.ofString "nearest_classes", PySem.NameKind.local), (PySem.Str.ofString "upper", PySem.NameKind.local), (PySem.Str.ofString "method", PySem.NameKind.local), (PySem.Str.ofString "check_name", PySem.NameKind.globalImplicit), (PySem.Str.ofString "line_up", PySem.NameKind.globalImplicit), (PySem.Str.ofString "class_of", PySem.NameKind.globalImplicit), (PySem.Str.ofString "tuple", PySem.NameKind.globalImplicit), (PySem.Str.ofString "sorted", PySem.NameKind.globalImplicit)], isGenerator := false, isCoroutine := false, more := [] : PySem.Scope }) (tscope := none) (bind := "methods_of") (pos := ⟨291, 0, 297, 49⟩))
def s_overrides : Stmt := (PySem.Stmt.FunctionDef (name := "overrides") (args := { posonlyargs := [], args := [{ arg := "house", annotation := none, pos := ⟨298, 14, 298, 19⟩ : PySem.Arg }], vararg := none, kwonlyargs := [], kw_defaults := [], kwarg := none, defaults := [] : PySem.Arguments }) (body := [ (PySem.Stmt.Expr (value := (PySem.Expr.Call (func := (PySem.Expr.Name "check_house" ⟨299, 4, 299, 15⟩)) (args := [(PySem.Expr.Name "house" ⟨299, 16, 299, 21⟩)]) (keywords := []) (pos := ⟨299, 4, 299, 22⟩))) (pos := ⟨299, 4, 299, 22⟩)), (PySem.Stmt.Assign (targets := [(PySem.Expr.Name "found" ⟨300, 4, 300, 9⟩)]) (value := (PySem.Expr.List [] ⟨300, 12, 300, 14⟩)) (pos := ⟨300, 4, 300, 14⟩)), (PySem.Stmt.For (target := (PySem.Expr.Tuple (elts := [ (PySem.Expr.Name "name" ⟨301, 8, 301, 12⟩), (PySem.Expr.Name "upper" ⟨301, 14, 301, 19⟩), (PySem.Expr.Name "_" ⟨301, 21, 301, 22⟩), (PySem.Expr.Name "methods" ⟨301, 24, 301, 31⟩)]) (k := 0) (pos := ⟨301, 8, 301, 31⟩))) (iter := (PySem.Expr.Attribute (PySem.Expr.Name "house" ⟨301, 35, 301, 40⟩) "classes" ⟨301, 35, 301, 48⟩)) (body := [ (PySem.Stmt.For (target := (PySem.Expr.Name "method" ⟨302, 12, 302, 18⟩)) (iter := (PySem.Expr.Name "methods" ⟨302, 22, 302, 29⟩)) (body := [ (PySem.Stmt.Assign (targets := [(PySem.Expr.Name "seen" ⟨303, 12, 303, 16⟩)]) (value := (PySem.Expr.Call (func := (PySem.Expr.Name "nearest" ⟨303, 19, 303, 26⟩)) (args := [ (PySem.Expr.Attribute (PySem.Expr.Name "house" ⟨303, 27, 303, 32⟩) "classes" ⟨303, 27, 303, 40⟩), (PySem.Expr.Name "upper" ⟨303, 42, 303, 47⟩), (PySem.Expr.Subscript (value := (PySem.Expr.Name "method" ⟨303, 49, 303, 55⟩)) (slice := (PySem.Expr.Constant (PySem.Const.int 0) 0 ⟨303, 56, 303, 57⟩)) (pos := ⟨303, 49, 303, 58⟩))]) (keywords := []) (pos := ⟨303, 19, 303, 59⟩))) (pos := ⟨303, 12, 303, 59⟩)), (PySem.Stmt.If (test := (PySem.Expr.Compare (left := (PySem.Expr.Name "seen" ⟨304, 15, 304, 19⟩)) (ops := [PySem.CmpOp.IsNot]) (comparators := [(PySem.Expr.Constant PySem.Const.none 0 ⟨304, 27, 304, 31⟩)]) (pos := ⟨304, 15, 304, 31⟩))) (body := [ (PySem.Stmt.Expr (value := (PySem.Expr.Call (func := (PySem.Expr.Attribute (PySem.Expr.Name "found" ⟨305, 16, 305, 21⟩) "append" ⟨305, 16, 305, 28⟩)) (args := [ (PySem.Expr.Tuple (elts := [ (PySem.Expr.Name "name" ⟨305, 30, 305, 34⟩), (PySem.Expr.Subscript (value := (PySem.Expr.Name "method" ⟨305, 36, 305, 42⟩)) (slice := (PySem.Expr.Constant (PySem.Const.int 0) 0 ⟨305, 43, 305, 44⟩)) (pos := ⟨305, 36, 305, 45⟩)), (PySem.Expr.Subscript (value := (PySem.Expr.Name "seen" ⟨305, 47, 305, 51⟩)) (slice := (PySem.Expr.Constant (PySem.Const.int 0) 0 ⟨305, 52, 305, 53⟩)) (pos := ⟨305, 47, 305, 54⟩))]) (k := 0) (pos := ⟨305, 29, 305, 55⟩))]) (keywords := []) (pos := ⟨305, 16, 305, 56⟩))) (pos := ⟨305, 16, 305, 56⟩))]) (orelse := []) (pos := ⟨304, 12, 305, 56⟩))]) (orelse := []) (pos := ⟨302, 8, 305, 56⟩))]) (orelse := []) (pos := ⟨301, 4, 305, 56⟩)), (PySem.Stmt.Return (some (PySem.Expr.Name "found" ⟨306, 11, 306, 16⟩)) ⟨306, 4, 306, 16⟩)]) (decorator_list := []) (returns := none) (type_params := []) (scope := { kind := PySem.ScopeKind.function, names := [ (PySem.Str.ofString "house", PySem.NameKind.local), (PySem.Str.ofString "found", PySem.NameKind.local), (PySem.Str.ofString "name", PySem.NameKind.local), (PySem.Str.ofString "upper", PySem.NameKind.local), (PySem.Str.ofString "_", PySem.NameKind.local), (PySem.Str.ofString "methods", PySem.NameKind.local), (PySem.Str.ofString "method", PySem.NameKind.local), (PySem.Str.ofString "seen", PySem.NameKind.local), (PySem.Str.ofString "check_house", PySem.NameKind.globalImplicit), (PySem.Str.ofString "nearest", PySem.NameKind.globalImplicit)], isGenerator := false, isCoroutine := false, more := [] : PySem.Scope }) (tscope := none) (bind := "overrides") (pos := ⟨298, 0, 306, 16⟩))
def s_told : Stmt := (PySem.Stmt.FunctionDef (name := "told") (args := { posonlyargs := [], args := [], vararg := (some { arg := "parts", annotation := none, pos := ⟨310, 10, 310, 15⟩ : PySem.Arg }), kwonlyargs := [], kw_defaults := [], kwarg := none, defaults := [] : PySem.Arguments }) (body := [ (PySem.Stmt.Return (value := (some (PySem.Expr.Call (func := (PySem.Expr.Attribute (value := (PySem.Expr.Constant (PySem.Const.str " ") 0 ⟨311, 11, 311, 14⟩)) (attr := "join") (pos := ⟨311, 11, 311, 19⟩))) (args := [ (PySem.Expr.ListComp (elt := (PySem.Expr.Call (func := (PySem.Expr.Name "str" ⟨311, 21, 311, 24⟩)) (args := [(PySem.Expr.Name "part" ⟨311, 25, 311, 29⟩)]) (keywords := []) (pos := ⟨311, 21, 311, 30⟩))) (generators := [ { target := (PySem.Expr.Name "part" ⟨311, 35, 311, 39⟩), iter := (PySem.Expr.Name "parts" ⟨311, 43, 311, 48⟩), ifs := [], is_async := 0 : PySem.Comprehension }]) (scope := { kind := PySem.ScopeKind.function, names := [ (PySem.Str.ofString ".0", PySem.NameKind.local), (PySem.Str.ofString "part", PySem.NameKind.local), (PySem.Str.ofString "str", PySem.NameKind.globalImplicit)], isGenerator := false, isCoroutine := false, more := [] : PySem.Scope }) (pos := ⟨311, 20, 311, 49⟩))]) (keywords := []) (pos := ⟨311, 11, 311, 50⟩)))) (pos := ⟨311, 4, 311, 50⟩))]) (decorator_list := []) (returns := none) (type_params := []) (scope := { kind := PySem.ScopeKind.function, names := [(PySem.Str.ofString "parts", PySem.NameKind.local)], isGenerator := false, isCoroutine := false, more := [ (PySem.Str.ofString "fast", (PySem.Const.str "parts")), (PySem.Str.ofString "fast", (PySem.Const.str "part"))] : PySem.Scope }) (tscope := none) (bind := "told") (pos := ⟨310, 0, 311, 50⟩))
def s_shell_lines : Stmt := (PySem.Stmt.FunctionDef (name := "shell_lines") (args := { posonlyargs := [], args := [{ arg := "row", annotation := none, pos := ⟨312, 16, 312, 19⟩ : PySem.Arg }], vararg := none, kwonlyargs := [], kw_defaults := [], kwarg := none, defaults := [] : PySem.Arguments }) (body := [ (PySem.Stmt.Assign (targets := [ (PySem.Expr.Tuple (elts := [ (PySem.Expr.Name "name" ⟨313, 4, 313, 8⟩), (PySem.Expr.Name "upper" ⟨313, 10, 313, 15⟩), (PySem.Expr.Name "fields" ⟨313, 17, 313, 23⟩), (PySem.Expr.Name "_" ⟨313, 25, 313, 26⟩)]) (k := 0) (pos := ⟨313, 4, 313, 26⟩))]) (value := (PySem.Expr.Name "row" ⟨313, 29, 313, 32⟩)) (pos := ⟨313, 4, 313, 32⟩)), (PySem.Stmt.Return (value := (some (PySem.Expr.BinOp (left := (PySem.Expr.List (elts := [ (PySem.Expr.Call (func := (PySem.Expr.Name "told" ⟨314, 12, 314, 16⟩)) (args := [ (PySem.Expr.Constant (PySem.Const.str "class") 0 ⟨314, 17, 314, 24⟩), (PySem.Expr.Name "name" ⟨314, 26, 314, 30⟩), (PySem.Expr.Constant (PySem.Const.str "under") 0 ⟨314, 32, 314, 39⟩), (PySem.Expr.Name "upper" ⟨314, 41, 314, 46⟩)]) (keywords := []) (pos := ⟨314, 12, 314, 47⟩))]) (pos := ⟨314, 11, 314, 48⟩))) (op := PySem.Operator.Add) (right := (PySem.Expr.ListComp (elt := (PySem.Expr.Call (func := (PySem.Expr.Name "told" ⟨314, 52, 314, 56⟩)) (args := [ (PySem.Expr.Constant (PySem.Const.str "field") 0 ⟨314, 57, 314, 64⟩), (PySem.Expr.Starred (PySem.Expr.Name "pair" ⟨314, 67, 314, 71⟩) ⟨314, 66, 314, 71⟩)]) (keywords := []) (pos := ⟨314, 52, 314, 72⟩))) (generators := [ { target := (PySem.Expr.Name "pair" ⟨314, 77, 314, 81⟩), iter := (PySem.Expr.Name "fields" ⟨314, 85, 314, 91⟩), ifs := [], is_async := 0 : PySem.Comprehension }]) (scope := { kind := PySem.ScopeKind.function, names := [ (PySem.Str.ofString ".0", PySem.NameKind.local), (PySem.Str.ofString "pair", PySem.NameKind.local), (PySem.Str.ofString "told", PySem.NameKind.globalImplicit)], isGenerator := false, isCoroutine := false, more := [] : PySem.Scope }) (pos := ⟨314, 51, 314, 92⟩))) (pos := ⟨314, 11, 314, 92⟩)))) (pos := ⟨314, 4, 314, 92⟩))]) (decorator_list := []) (returns := none) (type_params := []) (scope := { kind := PySem.ScopeKind.function, names := [ (PySem.Str.ofString "row", PySem.NameKind.local), (PySem.Str.ofString "name", PySem.NameKind.local), (PySem.Str.ofString "upper", PySem.NameKind.local), (PySem.Str.ofString "fields", PySem.NameKind.local), (PySem.Str.ofString "_", PySem.NameKind.local), (PySem.Str.ofString "told", PySem.NameKind.globalImplicit)], isGenerator := false, isCoroutine := false, more := [ (PySem.Str.ofString "fast", (PySem.Const.str "row")), (PySem.Str.ofString "fast", (PySem.Const.str "name")), (PySem.Str.ofString "fast", (PySem.Const.str "upper")), (PySem.Str.ofString "fast", (PySem.Const.str "fields")), (PySem.Str.ofString "fast", (PySem.Const.str "_")), (PySem.Str.ofString "fast", (PySem.Const.str "pair"))] : PySem.Scope }) (tscope := none) (bind := "shell_lines") (pos := ⟨312, 0, 314, 92⟩))
def s_head_line : Stmt := (PySem.Stmt.FunctionDef (name := "head_line") (args := { posonlyargs := [], args := [{ arg := "method", annotation := none, pos := ⟨315, 14, 315, 20⟩ : PySem.Arg }], vararg := none, kwonlyargs := [], kw_defaults := [], kwarg := none, defaults := [] : PySem.Arguments }) (body := [ (PySem.Stmt.Assign (targets := [ (PySem.Expr.Tuple (elts := [ (PySem.Expr.Name "word" ⟨316, 4, 316, 8⟩), (PySem.Expr.Name "ins" ⟨316, 10, 316, 13⟩), (PySem.Expr.Name "out" ⟨316, 15, 316, 18⟩)]) (k := 0) (pos := ⟨316, 4, 316, 18⟩))]) (value := (PySem.Expr.Subscript (value := (PySem.Expr.Name "method" ⟨316, 21, 316, 27⟩)) (slice := (PySem.Expr.Slice (lower := none) (upper := (some (PySem.Expr.Constant (PySem.Const.int 3) 0 ⟨316, 29, 316, 30⟩))) (step := none) (pos := ⟨316, 28, 316, 30⟩))) (pos := ⟨316, 21, 316, 31⟩))) (pos := ⟨316, 4, 316, 31⟩)), (PySem.Stmt.Return (value := (some (PySem.Expr.Call (func := (PySem.Expr.Name "told" ⟨317, 11, 317, 15⟩)) (args := [ (PySem.Expr.Constant (PySem.Const.str "method") 0 ⟨317, 16, 317, 24⟩), (PySem.Expr.Name "word" ⟨317, 26, 317, 30⟩), (PySem.Expr.Name "out" ⟨317, 32, 317, 35⟩), (PySem.Expr.Starred (PySem.Expr.Name "ins" ⟨317, 38, 317, 41⟩) ⟨317, 37, 317, 41⟩)]) (keywords := []) (pos := ⟨317, 11, 317, 42⟩)))) (pos := ⟨317, 4, 317, 42⟩))]) (decorator_list := []) (returns := none) (type_params := []) (scope := { kind := PySem.ScopeKind.function, names := [ (PySem.Str.ofString "method", PySem.NameKind.local), (PySem.Str.ofString "word", PySem.NameKind.local), (PySem.Str.ofString "ins", PySem.NameKind.local), (PySem.Str.ofString "out", PySem.NameKind.local), (PySem.Str.ofString "told", PySem.NameKind.globalImplicit)], isGenerator := false, isCoroutine := false, more := [] : PySem.Scope }) (tscope := none) (bind := "head_line") (pos := ⟨315, 0, 317, 42⟩))
def s_method_lines : Stmt := (PySem.Stmt.FunctionDef (name := "method_lines") (args := { posonlyargs := [], args := [{ arg := "method", annotation := none, pos := ⟨318, 17, 318, 23⟩ : PySem.Arg }], vararg := none, kwonlyargs := [], kw_defaults := [], kwarg := none, defaults := [] : PySem.Arguments }) (body := [ (PySem.Stmt.Assign (targets := [(PySem.Expr.Name "lines" ⟨319, 4, 319, 9⟩)]) (value := (PySem.Expr.List (elts := [ (PySem.Expr.Call (func := (PySem.Expr.Name "head_line" ⟨319, 13, 319, 22⟩)) (args := [(PySem.Expr.Name "method" ⟨319, 23, 319, 29⟩)]) (keywords := []) (pos := ⟨319, 13, 319, 30⟩))]) (pos := ⟨319, 12, 319, 31⟩))) (pos := ⟨319, 4, 319, 31⟩)), (PySem.Stmt.Expr (value := (PySem.Expr.Call (func := (PySem.Expr.Attribute (PySem.Expr.Name "lines" ⟨320, 4, 320, 9⟩) "extend" ⟨320, 4, 320, 16⟩)) (args := [ (PySem.Expr.ListComp (elt := (PySem.Expr.Call (func := (PySem.Expr.Name "told" ⟨320, 18, 320, 22⟩)) (args := [(PySem.Expr.Starred (PySem.Expr.Name "step" ⟨320, 24, 320, 28⟩) ⟨320, 23, 320, 28⟩)]) (keywords := []) (pos := ⟨320, 18, 320, 29⟩))) (generators := [ { target := (PySem.Expr.Name "step" ⟨320, 34, 320, 38⟩), iter := (PySem.Expr.Subscript (value := (PySem.Expr.Name "method" ⟨320, 42, 320, 48⟩)) (slice := (PySem.Expr.Constant (PySem.Const.int 3) 0 ⟨320, 49, 320, 50⟩)) (pos := ⟨320, 42, 320, 51⟩)), ifs := [], is_async := 0 : PySem.Comprehension }]) (scope := { kind := PySem.ScopeKind.function, names := [ (PySem.Str.ofString ".0", PySem.NameKind.local), (PySem.Str.ofString "step", PySem.NameKind.local), (PySem.Str.ofString "told", PySem.NameKind.globalImplicit)], isGenerator := false, isCoroutine := false, more := [] : PySem.Scope }) (pos := ⟨320, 17, 320, 52⟩))]) (keywords := []) (pos := ⟨320, 4, 320, 53⟩))) (pos := ⟨320, 4, 320, 53⟩)), (PySem.Stmt.Expr (value := (PySem.Expr.Call (func := (PySem.Expr.Attribute (PySem.Expr.Name "lines" ⟨321, 4, 321, 9⟩) "extend" ⟨321, 4, 321, 16⟩)) (args := [ (PySem.Expr.ListComp (elt := (PySem.Expr.Call (func := (PySem.Expr.Name "told" ⟨321, 18, 321, 22⟩)) (args := [ (PySem.Expr.Constant (PySem.Const.str "catch") 0 ⟨321, 23, 321, 30⟩), (PySem.Expr.Starred (PySem.Expr.Name "row" ⟨321, 33, 321, 36⟩) ⟨321, 32, 321, 36⟩)]) (keywords := []) (pos := ⟨321, 18, 321, 37⟩))) (generators := [ { target := (PySem.Expr.Name "row" ⟨321, 42, 321, 45⟩), iter := (PySem.Expr.Subscript (value := (PySem.Expr.Name "method" ⟨321, 49, 321, 55⟩)) (slice := (PySem.Expr.Constant (PySem.Const.int 4) 0 ⟨321, 56, 321, 57⟩)) (pos := ⟨321, 49, 321, 58⟩)), ifs := [], is_async := 0 : PySem.Comprehension }]) (scope := { kind := PySem.ScopeKind.function, names := [ (PySem.Str.ofString ".0", PySem.NameKind.local), (PySem.Str.ofString "row", PySem.NameKind.local), (PySem.Str.ofString "told", PySem.NameKind.globalImplicit)], isGenerator := false, isCoroutine := false, more := [] : PySem.Scope }) (pos := ⟨321, 17, 321, 59⟩))]) (keywords := []) (pos := ⟨321, 4, 321, 60⟩))) (pos := ⟨321, 4, 321, 60⟩)), (PySem.Stmt.Return (some (PySem.Expr.Name "lines" ⟨322, 11, 322, 16⟩)) ⟨322, 4, 322, 16⟩)]) (decorator_list := []) (returns := none) (type_params := []) (scope := { kind := PySem.ScopeKind.function, names := [ (PySem.Str.ofString "method", PySem.NameKind.local), (PySem.Str.ofString "lines", PySem.NameKind.local), (PySem.Str.ofString "head_line", PySem.NameKind.globalImplicit)], isGenerator := false, isCoroutine := false, more := [ (PySem.Str.ofString "fast", (PySem.Const.str "method")), (PySem.Str.ofString "fast", (PySem.Const.str "lines")), (PySem.Str.ofString "fast", (PySem.Const.str "step")), (PySem.Str.ofString "fast", (PySem.Const.str "row"))] : PySem.Scope }) (tscope := none) (bind := "method_lines") (pos := ⟨318, 0, 322, 16⟩))
def s_write : Stmt := (PySem.Stmt.FunctionDef (name := "write") (args := { posonlyargs := [], args := [{ arg := "house", annotation := none, pos := ⟨323, 10, 323, 15⟩ : PySem.Arg }], vararg := none, kwonlyargs := [], kw_defaults := [], kwarg := none, defaults := [] : PySem.Arguments }) (body := [ (PySem.Stmt.Expr (value := (PySem.Expr.Call (func := (PySem.Expr.Name "check_house" ⟨324, 4, 324, 15⟩)) (args := [(PySem.Expr.Name "house" ⟨324, 16, 324, 21⟩)]) (keywords := []) (pos := ⟨324, 4, 324, 22⟩))) (pos := ⟨324, 4, 324, 22⟩)), (PySem.Stmt.Assign (targets := [(PySem.Expr.Name "lines" ⟨325, 4, 325, 9⟩)]) (value := (PySem.Expr.List [] ⟨325, 12, 325, 14⟩)) (pos := ⟨325, 4, 325, 14⟩)), (PySem.Stmt.For (target := (PySem.Expr.Name "row" ⟨326, 8, 326, 11⟩)) (iter := (PySem.Expr.Attribute (PySem.Expr.Name "house" ⟨326, 15, 326, 20⟩) "classes" ⟨326, 15, 326, 28⟩)) (body := [ (PySem.Stmt.Expr (value := (PySem.Expr.Call (func := (PySem.Expr.Attribute (PySem.Expr.Name "lines" ⟨327, 8, 327, 13⟩) "extend" ⟨327, 8, 327, 20⟩)) (args := [ (PySem.Expr.Call (func := (PySem.Expr.Name "shell_lines" ⟨327, 21, 327, 32⟩)) (args := [(PySem.Expr.Name "row" ⟨327, 33, 327, 36⟩)]) (keywords := []) (pos := ⟨327, 21, 327, 37⟩))]) (keywords := []) (pos := ⟨327, 8, 327, 38⟩))) (pos := ⟨327, 8, 327, 38⟩)), (PySem.Stmt.For (target := (PySem.Expr.Name "method" ⟨328, 12, 328, 18⟩)) (iter := (PySem.Expr.Subscript (value := (PySem.Expr.Name "row" ⟨328, 22, 328, 25⟩)) (slice := (PySem.Expr.Constant (PySem.Const.int 3) 0 ⟨328, 26, 328, 27⟩)) (pos := ⟨328, 22, 328, 28⟩))) (body := [ (PySem.Stmt.Expr (value := (PySem.Expr.Call (func := (PySem.Expr.Attribute (PySem.Expr.Name "lines" ⟨329, 12, 329, 17⟩) "extend" ⟨329, 12, 329, 24⟩)) (args := [ (PySem.Expr.Call (func := (PySem.Expr.Name "method_lines" ⟨329, 25, 329, 37⟩)) (args := [(PySem.Expr.Name "method" ⟨329, 38, 329, 44⟩)]) (keywords := []) (pos := ⟨329, 25, 329, 45⟩))]) (keywords := []) (pos := ⟨329, 12, 329, 46⟩))) (pos := ⟨329, 12, 329, 46⟩))]) (orelse := []) (pos := ⟨328, 8, 329, 46⟩))]) (orelse := []) (pos := ⟨326, 4, 329, 46⟩)), (PySem.Stmt.Return (value := (some (PySem.Expr.Call (func := (PySem.Expr.Attribute (value := (PySem.Expr.Constant (PySem.Const.str "\n") 0 ⟨330, 11, 330, 15⟩)) (attr := "join") (pos := ⟨330, 11, 330, 20⟩))) (args := [(PySem.Expr.Name "lines" ⟨330, 21, 330, 26⟩)]) (keywords := []) (pos := ⟨330, 11, 330, 27⟩)))) (pos := ⟨330, 4, 330, 27⟩))]) (decorator_list := []) (returns := none) (type_params := []) (scope := { kind := PySem.ScopeKind.function, names := [ (PySem.Str.ofString "house", PySem.NameKind.local), (PySem.Str.ofString "lines", PySem.NameKind.local), (PySem.Str.ofString "row", PySem.NameKind.local), (PySem.Str.ofString "method", PySem.NameKind.local), (PySem.Str.ofString "check_house", PySem.NameKind.globalImplicit), (PySem.Str.ofString "shell_lines", PySem.NameKind.globalImplicit), (PySem.Str.ofString "method_lines", PySem.NameKind.globalImplicit)], isGenerator := false, isCoroutine := false, more := [] : PySem.Scope }) (tscope := none) (bind := "write") (pos := ⟨323, 0, 330, 27⟩))
def s_is_whole : Stmt := (PySem.Stmt.FunctionDef (name := "is_whole") (args := { posonlyargs := [], args := [{ arg := "methods", annotation := none, pos := ⟨331, 13, 331, 20⟩ : PySem.Arg }], vararg := none, kwonlyargs := [], kw_defaults := [], kwarg := none, defaults := [] : PySem.Arguments }) (body := [ (PySem.Stmt.Return (value := (some (PySem.Expr.BoolOp (op := PySem.BoolOp.Or) (values := [ (PySem.Expr.UnaryOp PySem.UnaryOp.Not (PySem.Expr.Name "methods" ⟨332, 15, 332, 22⟩) ⟨332, 11, 332, 22⟩), (PySem.Expr.BoolOp (op := PySem.BoolOp.And) (values := [ (PySem.Expr.Call (func := (PySem.Expr.Name "bool" ⟨332, 27, 332, 31⟩)) (args := [ (PySem.Expr.Subscript (value := (PySem.Expr.Subscript (value := (PySem.Expr.Name "methods" ⟨332, 32, 332, 39⟩)) (slice := (PySem.Expr.UnaryOp (op := PySem.UnaryOp.USub) (operand := (PySem.Expr.Constant (PySem.Const.int 1) 0 ⟨332, 41, 332, 42⟩)) (pos := ⟨332, 40, 332, 42⟩))) (pos := ⟨332, 32, 332, 43⟩))) (slice := (PySem.Expr.Constant (PySem.Const.int 3) 0 ⟨332, 44, 332, 45⟩)) (pos := ⟨332, 32, 332, 46⟩))]) (keywords := []) (pos := ⟨332, 27, 332, 47⟩)), (PySem.Expr.Compare (left := (PySem.Expr.Subscript (value := (PySem.Expr.Subscript (value := (PySem.Expr.Subscript (value := (PySem.Expr.Subscript (value := (PySem.Expr.Name "methods" ⟨332, 52, 332, 59⟩)) (slice := (PySem.Expr.UnaryOp (op := PySem.UnaryOp.USub) (operand := (PySem.Expr.Constant (PySem.Const.int 1) 0 ⟨332, 61, 332, 62⟩)) (pos := ⟨332, 60, 332, 62⟩))) (pos := ⟨332, 52, 332, 63⟩))) (slice := (PySem.Expr.Constant (PySem.Const.int 3) 0 ⟨332, 64, 332, 65⟩)) (pos := ⟨332, 52, 332, 66⟩))) (slice := (PySem.Expr.UnaryOp (op := PySem.UnaryOp.USub) (operand := (PySem.Expr.Constant (PySem.Const.int 1) 0 ⟨332, 68, 332, 69⟩)) (pos := ⟨332, 67, 332, 69⟩))) (pos := ⟨332, 52, 332, 70⟩))) (slice := (PySem.Expr.Constant (PySem.Const.int 0) 0 ⟨332, 71, 332, 72⟩)) (pos := ⟨332, 52, 332, 73⟩))) (ops := [PySem.CmpOp.In]) (comparators := [(PySem.Expr.Name "LAST" ⟨332, 77, 332, 81⟩)]) (pos := ⟨332, 52, 332, 81⟩))]) (pos := ⟨332, 27, 332, 81⟩))]) (pos := ⟨332, 11, 332, 82⟩)))) (pos := ⟨332, 4, 332, 82⟩))]) (decorator_list := []) (returns := none) (type_params := []) (scope := { kind := PySem.ScopeKind.function, names := [ (PySem.Str.ofString "methods", PySem.NameKind.local), (PySem.Str.ofString "bool", PySem.NameKind.globalImplicit), (PySem.Str.ofString "LAST", PySem.NameKind.globalImplicit)], isGenerator := false, isCoroutine := false, more := [] : PySem.Scope }) (tscope := none) (bind := "is_whole") (pos := ⟨331, 0, 332, 82⟩))
def s_may_stand : Stmt := (PySem.Stmt.FunctionDef (name := "may_stand") (args := { posonlyargs := [], args := [ { arg := "rows", annotation := none, pos := ⟨333, 14, 333, 18⟩ : PySem.Arg }, { arg := "first", annotation := none, pos := ⟨333, 20, 333, 25⟩ : PySem.Arg }], vararg := none, kwonlyargs := [], kw_defaults := [], kwarg := none, defaults := [] : PySem.Arguments }) (body := [ (PySem.Stmt.If (test := (PySem.Expr.Compare (left := (PySem.Expr.Name "first" ⟨334, 7, 334, 12⟩)) (ops := [PySem.CmpOp.Eq]) (comparators := [(PySem.Expr.Constant (PySem.Const.str "class") 0 ⟨334, 16, 334, 23⟩)]) (pos := ⟨334, 7, 334, 23⟩))) (body := [ (PySem.Stmt.Return (value := (some (PySem.Expr.BoolOp (op := PySem.BoolOp.Or) (values := [ (PySem.Expr.UnaryOp PySem.UnaryOp.Not (PySem.Expr.Name "rows" ⟨335, 19, 335, 23⟩) ⟨335, 15, 335, 23⟩), (PySem.Expr.BoolOp (op := PySem.BoolOp.And) (values := [ (PySem.Expr.Compare (left := (PySem.Expr.Call (func := (PySem.Expr.Name "len" ⟨335, 28, 335, 31⟩)) (args := [(PySem.Expr.Name "rows" ⟨335, 32, 335, 36⟩)]) (keywords := []) (pos := ⟨335, 28, 335, 37⟩))) (ops := [PySem.CmpOp.Lt]) (comparators := [(PySem.Expr.Constant (PySem.Const.int 8) 0 ⟨335, 40, 335, 41⟩)]) (pos := ⟨335, 28, 335, 41⟩)), (PySem.Expr.Call (func := (PySem.Expr.Name "is_whole" ⟨335, 46, 335, 54⟩)) (args := [ (PySem.Expr.Subscript (value := (PySem.Expr.Subscript (value := (PySem.Expr.Name "rows" ⟨335, 55, 335, 59⟩)) (slice := (PySem.Expr.UnaryOp (op := PySem.UnaryOp.USub) (operand := (PySem.Expr.Constant (PySem.Const.int 1) 0 ⟨335, 61, 335, 62⟩)) (pos := ⟨335, 60, 335, 62⟩))) (pos := ⟨335, 55, 335, 63⟩))) (slice := (PySem.Expr.Constant (PySem.Const.int 3) 0 ⟨335, 64, 335, 65⟩)) (pos := ⟨335, 55, 335, 66⟩))]) (keywords := []) (pos := ⟨335, 46, 335, 67⟩))]) (pos := ⟨335, 28, 335, 67⟩))]) (pos := ⟨335, 15, 335, 68⟩)))) (pos := ⟨335, 8, 335, 68⟩))]) (orelse := []) (pos := ⟨334, 4, 335, 68⟩)), (PySem.Stmt.If (test := (PySem.Expr.UnaryOp PySem.UnaryOp.Not (PySem.Expr.Name "rows" ⟨336, 11, 336, 15⟩) ⟨336, 7, 336, 15⟩)) (body := [ (PySem.Stmt.Return (value := (some (PySem.Expr.Constant (PySem.Const.bool false) 0 ⟨337, 15, 337, 20⟩))) (pos := ⟨337, 8, 337, 20⟩))]) (orelse := []) (pos := ⟨336, 4, 337, 20⟩)), (PySem.Stmt.Assign (targets := [ (PySem.Expr.Tuple (elts := [(PySem.Expr.Name "fields" ⟨338, 4, 338, 10⟩), (PySem.Expr.Name "methods" ⟨338, 12, 338, 19⟩)]) (k := 0) (pos := ⟨338, 4, 338, 19⟩))]) (value := (PySem.Expr.Subscript (value := (PySem.Expr.Subscript (value := (PySem.Expr.Name "rows" ⟨338, 22, 338, 26⟩)) (slice := (PySem.Expr.UnaryOp (op := PySem.UnaryOp.USub) (operand := (PySem.Expr.Constant (PySem.Const.int 1) 0 ⟨338, 28, 338, 29⟩)) (pos := ⟨338, 27, 338, 29⟩))) (pos := ⟨338, 22, 338, 30⟩))) (slice := (PySem.Expr.Slice (lower := (some (PySem.Expr.Constant (PySem.Const.int 2) 0 ⟨338, 31, 338, 32⟩))) (upper := none) (step := none) (pos := ⟨338, 31, 338, 33⟩))) (pos := ⟨338, 22, 338, 34⟩))) (pos := ⟨338, 4, 338, 34⟩)), (PySem.Stmt.If (test := (PySem.Expr.Compare (left := (PySem.Expr.Name "first" ⟨339, 7, 339, 12⟩)) (ops := [PySem.CmpOp.Eq]) (comparators := [(PySem.Expr.Constant (PySem.Const.str "field") 0 ⟨339, 16, 339, 23⟩)]) (pos := ⟨339, 7, 339, 23⟩))) (body := [ (PySem.Stmt.Return (value := (some (PySem.Expr.BoolOp (op := PySem.BoolOp.And) (values := [ (PySem.Expr.UnaryOp PySem.UnaryOp.Not (PySem.Expr.Name "methods" ⟨340, 19, 340, 26⟩) ⟨340, 15, 340, 26⟩), (PySem.Expr.Compare (left := (PySem.Expr.Call (func := (PySem.Expr.Name "len" ⟨340, 31, 340, 34⟩)) (args := [(PySem.Expr.Name "fields" ⟨340, 35, 340, 41⟩)]) (keywords := []) (pos := ⟨340, 31, 340, 42⟩))) (ops := [PySem.CmpOp.Lt]) (comparators := [(PySem.Expr.Constant (PySem.Const.int 4) 0 ⟨340, 45, 340, 46⟩)]) (pos := ⟨340, 31, 340, 46⟩))]) (pos := ⟨340, 15, 340, 46⟩)))) (pos := ⟨340, 8, 340, 46⟩))]) (orelse := []) (pos := ⟨339, 4, 340, 46⟩)), (PySem.Stmt.If (test := (PySem.Expr.Compare (left := (PySem.Expr.Name "first" ⟨341, 7, 341, 12⟩)) (ops := [PySem.CmpOp.Eq]) (comparators := [(PySem.Expr.Constant (PySem.Const.str "method") 0 ⟨341, 16, 341, 24⟩)]) (pos := ⟨341, 7, 341, 24⟩))) (body := [ (PySem.Stmt.Return (value := (some (PySem.Expr.BoolOp (op := PySem.BoolOp.And) (values := [ (PySem.Expr.Call (func := (PySem.Expr.Name "is_whole" ⟨342, 15, 342, 23⟩)) (args := [(PySem.Expr.Name "methods" ⟨342, 24, 342, 31⟩)]) (keywords := []) (pos := ⟨342, 15, 342, 32⟩)), (PySem.Expr.Compare (left := (PySem.Expr.Call (func := (PySem.Expr.Name "len" ⟨342, 37, 342, 40⟩)) (args := [(PySem.Expr.Name "methods" ⟨342, 41, 342, 48⟩)]) (keywords := []) (pos := ⟨342, 37, 342, 49⟩))) (ops := [PySem.CmpOp.Lt]) (comparators := [(PySem.Expr.Constant (PySem.Const.int 4) 0 ⟨342, 52, 342, 53⟩)]) (pos := ⟨342, 37, 342, 53⟩))]) (pos := ⟨342, 15, 342, 53⟩)))) (pos := ⟨342, 8, 342, 53⟩))]) (orelse := []) (pos := ⟨341, 4, 342, 53⟩)), (PySem.Stmt.If (test := (PySem.Expr.UnaryOp PySem.UnaryOp.Not (PySem.Expr.Name "methods" ⟨343, 11, 343, 18⟩) ⟨343, 7, 343, 18⟩)) (body := [ (PySem.Stmt.Return (value := (some (PySem.Expr.Constant (PySem.Const.bool false) 0 ⟨344, 15, 344, 20⟩))) (pos := ⟨344, 8, 344, 20⟩))]) (orelse := []) (pos := ⟨343, 4, 344, 20⟩)), (PySem.Stmt.Assign (targets := [ (PySem.Expr.Tuple (elts := [(PySem.Expr.Name "steps" ⟨345, 4, 345, 9⟩), (PySem.Expr.Name "handlers" ⟨345, 11, 345, 19⟩)]) (k := 0) (pos := ⟨345, 4, 345, 19⟩))]) (value := (PySem.Expr.Subscript (value := (PySem.Expr.Subscript (value := (PySem.Expr.Name "methods" ⟨345, 22, 345, 29⟩)) (slice := (PySem.Expr.UnaryOp (op := PySem.UnaryOp.USub) (operand := (PySem.Expr.Constant (PySem.Const.int 1) 0 ⟨345, 31, 345, 32⟩)) (pos := ⟨345, 30, 345, 32⟩))) (pos := ⟨345, 22, 345, 33⟩))) (slice := (PySem.Expr.Slice (lower := (some (PySem.Expr.Constant (PySem.Const.int 3) 0 ⟨345, 34, 345, 35⟩))) (upper := none) (step := none) (pos := ⟨345, 34, 345, 36⟩))) (pos := ⟨345, 22, 345, 37⟩))) (pos := ⟨345, 4, 345, 37⟩)), (PySem.Stmt.If (test := (PySem.Expr.Compare (left := (PySem.Expr.Name "first" ⟨346, 7, 346, 12⟩)) (ops := [PySem.CmpOp.Eq]) (comparators := [(PySem.Expr.Constant (PySem.Const.str "catch") 0 ⟨346, 16, 346, 23⟩)]) (pos := ⟨346, 7, 346, 23⟩))) (body := [ (PySem.Stmt.Return (value := (some (PySem.Expr.BoolOp (op := PySem.BoolOp.And) (values := [ (PySem.Expr.Call (func := (PySem.Expr.Name "is_whole" ⟨347, 15, 347, 23⟩)) (args := [(PySem.Expr.Name "methods" ⟨347, 24, 347, 31⟩)]) (keywords := []) (pos := ⟨347, 15, 347, 32⟩)), (PySem.Expr.Compare (left := (PySem.Expr.Call (func := (PySem.Expr.Name "len" ⟨347, 37, 347, 40⟩)) (args := [(PySem.Expr.Name "handlers" ⟨347, 41, 347, 49⟩)]) (keywords := []) (pos := ⟨347, 37, 347, 50⟩))) (ops := [PySem.CmpOp.Lt]) (comparators := [(PySem.Expr.Constant (PySem.Const.int 4) 0 ⟨347, 53, 347, 54⟩)]) (pos := ⟨347, 37, 347, 54⟩))]) (pos := ⟨347, 15, 347, 54⟩)))) (pos := ⟨347, 8, 347, 54⟩))]) (orelse := []) (pos := ⟨346, 4, 347, 54⟩)), (PySem.Stmt.Return (value := (some (PySem.Expr.BoolOp (op := PySem.BoolOp.And) (values := [ (PySem.Expr.Compare (left := (PySem.Expr.Name "first" ⟨348, 11, 348, 16⟩)) (ops := [PySem.CmpOp.In]) (comparators := [(PySem.Expr.Name "PARTS" ⟨348, 20, 348, 25⟩)]) (pos := ⟨348, 11, 348, 25⟩)), (PySem.Expr.UnaryOp PySem.UnaryOp.Not (PySem.Expr.Name "handlers" ⟨348, 35, 348, 43⟩) ⟨348, 31, 348, 43⟩), (PySem.Expr.Compare (left := (PySem.Expr.Call (func := (PySem.Expr.Name "len" ⟨348, 50, 348, 53⟩)) (args := [(PySem.Expr.Name "steps" ⟨348, 54, 348, 59⟩)]) (keywords := []) (pos := ⟨348, 50, 348, 60⟩))) (ops := [PySem.CmpOp.Lt]) (comparators := [(PySem.Expr.Constant (PySem.Const.int 20) 0 ⟨348, 63, 348, 65⟩)]) (pos := ⟨348, 50, 348, 65⟩))]) (pos := ⟨348, 11, 348, 66⟩)))) (pos := ⟨348, 4, 348, 66⟩))]) (decorator_list := []) (returns := none) (type_params := []) (scope := { kind := PySem.ScopeKind.function, names := [ (PySem.Str.ofString "rows", PySem.NameKind.local), (PySem.Str.ofString "first", PySem.NameKind.local), (PySem.Str.ofString "fields", PySem.NameKind.local), (PySem.Str.ofString "methods", PySem.NameKind.local), (PySem.Str.ofString "steps", PySem.NameKind.local), (PySem.Str.ofString "handlers", PySem.NameKind.local), (PySem.Str.ofString "len", PySem.NameKind.globalImplicit), (PySem.Str.ofString "is_whole", PySem.NameKind.globalImplicit), (PySem.Str.ofString "PARTS", PySem.NameKind.globalImplicit)], isGenerator := false, isCoroutine := false, more := [] : PySem.Scope }) (tscope := none) (bind := "may_stand") (pos := ⟨333, 0, 348, 66⟩))
def s_form_of : Stmt := (PySem.Stmt.FunctionDef (name := "form_of") (args := { posonlyargs := [], args := [{ arg := "words", annotation := none, pos := ⟨349, 12, 349, 17⟩ : PySem.Arg }], vararg := none, kwonlyargs := [], kw_defaults := [], kwarg := none, defaults := [] : PySem.Arguments }) (body := [ (PySem.Stmt.Assign (targets := [(PySem.Expr.Name "first" ⟨350, 4, 350, 9⟩)]) (value := (PySem.Expr.Subscript (value := (PySem.Expr.Name "words" ⟨350, 12, 350, 17⟩)) (slice := (PySem.Expr.Constant (PySem.Const.int 0) 0 ⟨350, 18, 350, 19⟩)) (pos := ⟨350, 12, 350, 20⟩))) (pos := ⟨350, 4, 350, 20⟩)), (PySem.Stmt.If (test := (PySem.Expr.Compare (left := (PySem.Expr.Name "first" ⟨351, 7, 351, 12⟩)) (ops := [PySem.CmpOp.Eq]) (comparators := [(PySem.Expr.Constant (PySem.Const.str "method") 0 ⟨351, 16, 351, 24⟩)]) (pos := ⟨351, 7, 351, 24⟩))) (body := [ (PySem.Stmt.Assign (targets := [(PySem.Expr.Name "ins" ⟨352, 8, 352, 11⟩)]) (value := (PySem.Expr.Call (func := (PySem.Expr.Name "min" ⟨352, 14, 352, 17⟩)) (args := [ (PySem.Expr.Call (func := (PySem.Expr.Name "max" ⟨352, 18, 352, 21⟩)) (args := [ (PySem.Expr.Constant (PySem.Const.int 0) 0 ⟨352, 22, 352, 23⟩), (PySem.Expr.BinOp (left := (PySem.Expr.Call (func := (PySem.Expr.Name "len" ⟨352, 25, 352, 28⟩)) (args := [(PySem.Expr.Name "words" ⟨352, 29, 352, 34⟩)]) (keywords := []) (pos := ⟨352, 25, 352, 35⟩))) (op := PySem.Operator.Sub) (right := (PySem.Expr.Constant (PySem.Const.int 3) 0 ⟨352, 38, 352, 39⟩)) (pos := ⟨352, 25, 352, 39⟩))]) (keywords := []) (pos := ⟨352, 18, 352, 40⟩)), (PySem.Expr.Constant (PySem.Const.int 3) 0 ⟨352, 42, 352, 43⟩)]) (keywords := []) (pos := ⟨352, 14, 352, 44⟩))) (pos := ⟨352, 8, 352, 44⟩)), (PySem.Stmt.Return (value := (some (PySem.Expr.BinOp (left := (PySem.Expr.Subscript (value := (PySem.Expr.Name "FORMS" ⟨353, 15, 353, 20⟩)) (slice := (PySem.Expr.Name "first" ⟨353, 21, 353, 26⟩)) (pos := ⟨353, 15, 353, 27⟩))) (op := PySem.Operator.Add) (right := (PySem.Expr.BinOp (left := (PySem.Expr.Tuple [(PySem.Expr.Constant (PySem.Const.str "word") 0 ⟨353, 31, 353, 37⟩)] 0 ⟨353, 30, 353, 39⟩)) (op := PySem.Operator.Mult) (right := (PySem.Expr.Name "ins" ⟨353, 42, 353, 45⟩)) (pos := ⟨353, 30, 353, 45⟩))) (pos := ⟨353, 15, 353, 45⟩)))) (pos := ⟨353, 8, 353, 45⟩))]) (orelse := []) (pos := ⟨351, 4, 353, 45⟩)), (PySem.Stmt.Return (value := (some (PySem.Expr.IfExp (test := (PySem.Expr.Compare (left := (PySem.Expr.Name "first" ⟨354, 27, 354, 32⟩)) (ops := [PySem.CmpOp.In]) (comparators := [(PySem.Expr.Name "FORMS" ⟨354, 36, 354, 41⟩)]) (pos := ⟨354, 27, 354, 41⟩))) (body := (PySem.Expr.Subscript (value := (PySem.Expr.Name "FORMS" ⟨354, 11, 354, 16⟩)) (slice := (PySem.Expr.Name "first" ⟨354, 17, 354, 22⟩)) (pos := ⟨354, 11, 354, 23⟩))) (orelse := (PySem.Expr.Subscript (value := (PySem.Expr.Name "PARTS" ⟨354, 47, 354, 52⟩)) (slice := (PySem.Expr.Name "first" ⟨354, 53, 354, 58⟩)) (pos := ⟨354, 47, 354, 59⟩))) (pos := ⟨354, 11, 354, 59⟩)))) (pos := ⟨354, 4, 354, 59⟩))]) (decorator_list := []) (returns := none) (type_params := []) (scope := { kind := PySem.ScopeKind.function, names := [ (PySem.Str.ofString "words", PySem.NameKind.local), (PySem.Str.ofString "first", PySem.NameKind.local), (PySem.Str.ofString "ins", PySem.NameKind.local), (PySem.Str.ofString "min", PySem.NameKind.globalImplicit), (PySem.Str.ofString "max", PySem.NameKind.globalImplicit), (PySem.Str.ofString "len", PySem.NameKind.globalImplicit), (PySem.Str.ofString "FORMS", PySem.NameKind.globalImplicit), (PySem.Str.ofString "PARTS", PySem.NameKind.globalImplicit)], isGenerator := false, isCoroutine := false, more := [] : PySem.Scope }) (tscope := none) (bind := "form_of") (pos := ⟨349, 0, 354, 59⟩))
def s_can_be : Stmt := (PySem.Stmt.FunctionDef (name := "can_be") (args := { posonlyargs := [], args := [ { arg := "word", annotation := none, pos := ⟨355, 11, 355, 15⟩ : PySem.Arg }, { arg := "part", annotation := none, pos := ⟨355, 17, 355, 21⟩ : PySem.Arg }], vararg := none, kwonlyargs := [], kw_defaults := [], kwarg := none, defaults := [] : PySem.Arguments }) (body := [ (PySem.Stmt.If (test := (PySem.Expr.Compare (left := (PySem.Expr.Name "part" ⟨356, 7, 356, 11⟩)) (ops := [PySem.CmpOp.Eq]) (comparators := [(PySem.Expr.Constant (PySem.Const.str "under") 0 ⟨356, 15, 356, 22⟩)]) (pos := ⟨356, 7, 356, 22⟩))) (body := [ (PySem.Stmt.Return (value := (some (PySem.Expr.Compare (left := (PySem.Expr.Name "word" ⟨357, 15, 357, 19⟩)) (ops := [PySem.CmpOp.Eq]) (comparators := [(PySem.Expr.Constant (PySem.Const.str "under") 0 ⟨357, 23, 357, 30⟩)]) (pos := ⟨357, 15, 357, 30⟩)))) (pos := ⟨357, 8, 357, 30⟩))]) (orelse := []) (pos := ⟨356, 4, 357, 30⟩)), (PySem.Stmt.If (test := (PySem.Expr.Compare (left := (PySem.Expr.Name "part" ⟨358, 7, 358, 11⟩)) (ops := [PySem.CmpOp.In]) (comparators := [(PySem.Expr.Name "GREATEST" ⟨358, 15, 358, 23⟩)]) (pos := ⟨358, 7, 358, 23⟩))) (body := [ (PySem.Stmt.Return (value := (some (PySem.Expr.Compare (left := (PySem.Expr.Name "word" ⟨359, 15, 359, 19⟩)) (ops := [PySem.CmpOp.In]) (comparators := [ (PySem.Expr.ListComp (elt := (PySem.Expr.Call (func := (PySem.Expr.Name "str" ⟨359, 24, 359, 27⟩)) (args := [(PySem.Expr.Name "number" ⟨359, 28, 359, 34⟩)]) (keywords := []) (pos := ⟨359, 24, 359, 35⟩))) (generators := [ { target := (PySem.Expr.Name "number" ⟨359, 40, 359, 46⟩), iter := (PySem.Expr.Call (func := (PySem.Expr.Name "range" ⟨359, 50, 359, 55⟩)) (args := [ (PySem.Expr.BinOp (left := (PySem.Expr.Subscript (value := (PySem.Expr.Name "GREATEST" ⟨359, 56, 359, 64⟩)) (slice := (PySem.Expr.Name "part" ⟨359, 65, 359, 69⟩)) (pos := ⟨359, 56, 359, 70⟩))) (op := PySem.Operator.Add) (right := (PySem.Expr.Constant (PySem.Const.int 1) 0 ⟨359, 73, 359, 74⟩)) (pos := ⟨359, 56, 359, 74⟩))]) (keywords := []) (pos := ⟨359, 50, 359, 75⟩)), ifs := [], is_async := 0 : PySem.Comprehension }]) (scope := { kind := PySem.ScopeKind.function, names := [ (PySem.Str.ofString ".0", PySem.NameKind.local), (PySem.Str.ofString "number", PySem.NameKind.local), (PySem.Str.ofString "str", PySem.NameKind.globalImplicit)], isGenerator := false, isCoroutine := false, more := [] : PySem.Scope }) (pos := ⟨359, 23, 359, 76⟩))]) (pos := ⟨359, 15, 359, 76⟩)))) (pos := ⟨359, 8, 359, 76⟩))]) (orelse := []) (pos := ⟨358, 4, 359, 76⟩)), (PySem.Stmt.Return (value := (some (PySem.Expr.Call (func := (PySem.Expr.Name "is_word" ⟨360, 11, 360, 18⟩)) (args := [(PySem.Expr.Name "word" ⟨360, 19, 360, 23⟩)]) (keywords := []) (pos := ⟨360, 11, 360, 24⟩)))) (pos := ⟨360, 4, 360, 24⟩))]) (decorator_list := []) (returns := none) (type_params := []) (scope := { kind := PySem.ScopeKind.function, names := [ (PySem.Str.ofString "word", PySem.NameKind.local), (PySem.Str.ofString "part", PySem.NameKind.local), (PySem.Str.ofString "GREATEST", PySem.NameKind.globalImplicit), (PySem.Str.ofString "range", PySem.NameKind.globalImplicit), (PySem.Str.ofString "is_word", PySem.NameKind.globalImplicit)], isGenerator := false, isCoroutine := false, more := [ (PySem.Str.ofString "fast", (PySem.Const.str "word")), (PySem.Str.ofString "fast", (PySem.Const.str "part")), (PySem.Str.ofString "fast", (PySem.Const.str "number"))] : PySem.Scope }) (tscope := none) (bind := "can_be") (pos := ⟨355, 0, 360, 24⟩))
def s_bad_word : Stmt := (PySem.Stmt.FunctionDef (name := "bad_word") (args := { posonlyargs := [], args := [ { arg := "rows", annotation := none, pos := ⟨361, 13, 361, 17⟩ : PySem.Arg }, { arg := "words", annotation := none, pos := ⟨361, 19, 361, 24⟩ : PySem.Arg }], vararg := none, kwonlyargs := [], kw_defaults := [], kwarg := none, defaults := [] : PySem.Arguments }) (body := [ (PySem.Stmt.If (test := (PySem.Expr.BoolOp (op := PySem.BoolOp.Or) (values := [ (PySem.Expr.UnaryOp PySem.UnaryOp.Not (PySem.Expr.Name "words" ⟨362, 11, 362, 16⟩) ⟨362, 7, 362, 16⟩), (PySem.Expr.UnaryOp (op := PySem.UnaryOp.Not) (operand := (PySem.Expr.Call (func := (PySem.Expr.Name "may_stand" ⟨362, 24, 362, 33⟩)) (args := [ (PySem.Expr.Name "rows" ⟨362, 34, 362, 38⟩), (PySem.Expr.Subscript (value := (PySem.Expr.Name "words" ⟨362, 40, 362, 45⟩)) (slice := (PySem.Expr.Constant (PySem.Const.int 0) 0 ⟨362, 46, 362, 47⟩)) (pos := ⟨362, 40, 362, 48⟩))]) (keywords := []) (pos := ⟨362, 24, 362, 49⟩))) (pos := ⟨362, 20, 362, 49⟩))]) (pos := ⟨362, 7, 362, 49⟩))) (body := [(PySem.Stmt.Return (some (PySem.Expr.Constant (PySem.Const.int 1) 0 ⟨363, 15, 363, 16⟩)) ⟨363, 8, 363, 16⟩)]) (orelse := []) (pos := ⟨362, 4, 363, 16⟩)), (PySem.Stmt.Assign (targets := [(PySem.Expr.Name "form" ⟨364, 4, 364, 8⟩)]) (value := (PySem.Expr.Call (func := (PySem.Expr.Name "form_of" ⟨364, 11, 364, 18⟩)) (args := [(PySem.Expr.Name "words" ⟨364, 19, 364, 24⟩)]) (keywords := []) (pos := ⟨364, 11, 364, 25⟩))) (pos := ⟨364, 4, 364, 25⟩)), (PySem.Stmt.For (target := (PySem.Expr.Tuple (elts := [(PySem.Expr.Name "place" ⟨365, 8, 365, 13⟩), (PySem.Expr.Name "part" ⟨365, 15, 365, 19⟩)]) (k := 0) (pos := ⟨365, 8, 365, 19⟩))) (iter := (PySem.Expr.Call (func := (PySem.Expr.Name "enumerate" ⟨365, 23, 365, 32⟩)) (args := [(PySem.Expr.Name "form" ⟨365, 33, 365, 37⟩)]) (keywords := [ { arg := (some "start"), value := (PySem.Expr.Constant (PySem.Const.int 1) 0 ⟨365, 45, 365, 46⟩), pos := ⟨365, 39, 365, 46⟩ : PySem.Keyword }]) (pos := ⟨365, 23, 365, 47⟩))) (body := [ (PySem.Stmt.If (test := (PySem.Expr.BoolOp (op := PySem.BoolOp.Or) (values := [ (PySem.Expr.Compare (left := (PySem.Expr.Name "place" ⟨366, 11, 366, 16⟩)) (ops := [PySem.CmpOp.Eq]) (comparators := [ (PySem.Expr.Call (func := (PySem.Expr.Name "len" ⟨366, 20, 366, 23⟩)) (args := [(PySem.Expr.Name "words" ⟨366, 24, 366, 29⟩)]) (keywords := []) (pos := ⟨366, 20, 366, 30⟩))]) (pos := ⟨366, 11, 366, 30⟩)), (PySem.Expr.UnaryOp (op := PySem.UnaryOp.Not) (operand := (PySem.Expr.Call (func := (PySem.Expr.Name "can_be" ⟨366, 38, 366, 44⟩)) (args := [ (PySem.Expr.Subscript (value := (PySem.Expr.Name "words" ⟨366, 45, 366, 50⟩)) (slice := (PySem.Expr.Name "place" ⟨366, 51, 366, 56⟩)) (pos := ⟨366, 45, 366, 57⟩)), (PySem.Expr.Name "part" ⟨366, 59, 366, 63⟩)]) (keywords := []) (pos := ⟨366, 38, 366, 64⟩))) (pos := ⟨366, 34, 366, 64⟩))]) (pos := ⟨366, 11, 366, 64⟩))) (body := [ (PySem.Stmt.Return (value := (some (PySem.Expr.BinOp (left := (PySem.Expr.Name "place" ⟨367, 19, 367, 24⟩)) (op := PySem.Operator.Add) (right := (PySem.Expr.Constant (PySem.Const.int 1) 0 ⟨367, 27, 367, 28⟩)) (pos := ⟨367, 19, 367, 28⟩)))) (pos := ⟨367, 12, 367, 28⟩))]) (orelse := []) (pos := ⟨366, 8, 367, 28⟩))]) (orelse := []) (pos := ⟨365, 4, 367, 28⟩)), (PySem.Stmt.Return (value := (some (PySem.Expr.IfExp (test := (PySem.Expr.Compare (left := (PySem.Expr.Call (func := (PySem.Expr.Name "len" ⟨368, 28, 368, 31⟩)) (args := [(PySem.Expr.Name "words" ⟨368, 32, 368, 37⟩)]) (keywords := []) (pos := ⟨368, 28, 368, 38⟩))) (ops := [PySem.CmpOp.Gt]) (comparators := [ (PySem.Expr.BinOp (left := (PySem.Expr.Call (func := (PySem.Expr.Name "len" ⟨368, 41, 368, 44⟩)) (args := [(PySem.Expr.Name "form" ⟨368, 45, 368, 49⟩)]) (keywords := []) (pos := ⟨368, 41, 368, 50⟩))) (op := PySem.Operator.Add) (right := (PySem.Expr.Constant (PySem.Const.int 1) 0 ⟨368, 53, 368, 54⟩)) (pos := ⟨368, 41, 368, 54⟩))]) (pos := ⟨368, 28, 368, 54⟩))) (body := (PySem.Expr.BinOp (left := (PySem.Expr.Call (func := (PySem.Expr.Name "len" ⟨368, 11, 368, 14⟩)) (args := [(PySem.Expr.Name "form" ⟨368, 15, 368, 19⟩)]) (keywords := []) (pos := ⟨368, 11, 368, 20⟩))) (op := PySem.Operator.Add) (right := (PySem.Expr.Constant (PySem.Const.int 2) 0 ⟨368, 23, 368, 24⟩)) (pos := ⟨368, 11, 368, 24⟩))) (orelse := (PySem.Expr.Constant PySem.Const.none 0 ⟨368, 60, 368, 64⟩)) (pos := ⟨368, 11, 368, 64⟩)))) (pos := ⟨368, 4, 368, 64⟩))]) (decorator_list := []) (returns := none) (type_params := []) (scope := { kind := PySem.ScopeKind.function, names := [ (PySem.Str.ofString "rows", PySem.NameKind.local), (PySem.Str.ofString "words", PySem.NameKind.local), (PySem.Str.ofString "form", PySem.NameKind.local), (PySem.Str.ofString "place", PySem.NameKind.local), (PySem.Str.ofString "part", PySem.NameKind.local), (PySem.Str.ofString "may_stand", PySem.NameKind.globalImplicit), (PySem.Str.ofString "form_of", PySem.NameKind.globalImplicit), (PySem.Str.ofString "enumerate", PySem.NameKind.globalImplicit), (PySem.Str.ofString "len", PySem.NameKind.globalImplicit), (PySem.Str.ofString "can_be", PySem.NameKind.globalImplicit)], isGenerator := false, isCoroutine := false, more := [] : PySem.Scope }) (tscope := none) (bind := "bad_word") (pos := ⟨361, 0, 368, 64⟩))
def s_part_of : Stmt := (PySem.Stmt.FunctionDef (name := "part_of") (args := { posonlyargs := [], args := [ { arg := "word", annotation := none, pos := ⟨369, 12, 369, 16⟩ : PySem.Arg }, { arg := "part", annotation := none, pos := ⟨369, 18, 369, 22⟩ : PySem.Arg }], vararg := none, kwonlyargs := [], kw_defaults := [], kwarg := none, defaults := [] : PySem.Arguments }) (body := [ (PySem.Stmt.Return (value := (some (PySem.Expr.IfExp (test := (PySem.Expr.Compare (left := (PySem.Expr.Name "part" ⟨370, 24, 370, 28⟩)) (ops := [PySem.CmpOp.In]) (comparators := [(PySem.Expr.Name "GREATEST" ⟨370, 32, 370, 40⟩)]) (pos := ⟨370, 24, 370, 40⟩))) (body := (PySem.Expr.Call (func := (PySem.Expr.Name "int" ⟨370, 11, 370, 14⟩)) (args := [(PySem.Expr.Name "word" ⟨370, 15, 370, 19⟩)]) (keywords := []) (pos := ⟨370, 11, 370, 20⟩))) (orelse := (PySem.Expr.Name "word" ⟨370, 46, 370, 50⟩)) (pos := ⟨370, 11, 370, 50⟩)))) (pos := ⟨370, 4, 370, 50⟩))]) (decorator_list := []) (returns := none) (type_params := []) (scope := { kind := PySem.ScopeKind.function, names := [ (PySem.Str.ofString "word", PySem.NameKind.local), (PySem.Str.ofString "part", PySem.NameKind.local), (PySem.Str.ofString "GREATEST", PySem.NameKind.globalImplicit), (PySem.Str.ofString "int", PySem.NameKind.globalImplicit)], isGenerator := false, isCoroutine := false, more := [] : PySem.Scope }) (tscope := none) (bind := "part_of") (pos := ⟨369, 0, 370, 50⟩))
def s_add_line : Stmt := (PySem.Stmt.FunctionDef (name := "add_line") (args := { posonlyargs := [], args := [ { arg := "rows", annotation := none, pos := ⟨371, 13, 371, 17⟩ : PySem.Arg }, { arg := "words", annotation := none, pos := ⟨371, 19, 371, 24⟩ : PySem.Arg }], vararg := none, kwonlyargs := [], kw_defaults := [], kwarg := none, defaults := [] : PySem.Arguments }) (body := [ (PySem.Stmt.Assign (targets := [(PySem.Expr.Name "first" ⟨372, 4, 372, 9⟩)]) (value := (PySem.Expr.Subscript (value := (PySem.Expr.Name "words" ⟨372, 12, 372, 17⟩)) (slice := (PySem.Expr.Constant (PySem.Const.int 0) 0 ⟨372, 18, 372, 19⟩)) (pos := ⟨372, 12, 372, 20⟩))) (pos := ⟨372, 4, 372, 20⟩)), (PySem.Stmt.Assign (targets := [(PySem.Expr.Name "parts" ⟨373, 4, 373, 9⟩)]) (value := (PySem.Expr.ListComp (elt := (PySem.Expr.Call (func := (PySem.Expr.Name "part_of" ⟨373, 13, 373, 20⟩)) (args := [(PySem.Expr.Name "word" ⟨373, 21, 373, 25⟩), (PySem.Expr.Name "part" ⟨373, 27, 373, 31⟩)]) (keywords := []) (pos := ⟨373, 13, 373, 32⟩))) (generators := [ { target := (PySem.Expr.Tuple (elts := [(PySem.Expr.Name "word" ⟨373, 37, 373, 41⟩), (PySem.Expr.Name "part" ⟨373, 43, 373, 47⟩)]) (k := 0) (pos := ⟨373, 37, 373, 47⟩)), iter := (PySem.Expr.Call (func := (PySem.Expr.Name "zip" ⟨373, 51, 373, 54⟩)) (args := [ (PySem.Expr.Subscript (value := (PySem.Expr.Name "words" ⟨373, 55, 373, 60⟩)) (slice := (PySem.Expr.Slice (lower := (some (PySem.Expr.Constant (PySem.Const.int 1) 0 ⟨373, 61, 373, 62⟩))) (upper := none) (step := none) (pos := ⟨373, 61, 373, 63⟩))) (pos := ⟨373, 55, 373, 64⟩)), (PySem.Expr.Call (func := (PySem.Expr.Name "form_of" ⟨373, 66, 373, 73⟩)) (args := [(PySem.Expr.Name "words" ⟨373, 74, 373, 79⟩)]) (keywords := []) (pos := ⟨373, 66, 373, 80⟩))]) (keywords := []) (pos := ⟨373, 51, 373, 81⟩)), ifs := [], is_async := 0 : PySem.Comprehension }]) (scope := { kind := PySem.ScopeKind.function, names := [ (PySem.Str.ofString ".0", PySem.NameKind.local), (PySem.Str.ofString "word", PySem.NameKind.local), (PySem.Str.ofString "part", PySem.NameKind.local), (PySem.Str.ofString "part_of", PySem.NameKind.globalImplicit)], isGenerator := false, isCoroutine := false, more := [] : PySem.Scope }) (pos := ⟨373, 12, 373, 82⟩))) (pos := ⟨373, 4, 373, 82⟩)), (PySem.Stmt.If (test := (PySem.Expr.Compare (left := (PySem.Expr.Name "first" ⟨374, 7, 374, 12⟩)) (ops := [PySem.CmpOp.Eq]) (comparators := [(PySem.Expr.Constant (PySem.Const.str "class") 0 ⟨374, 16, 374, 23⟩)]) (pos := ⟨374, 7, 374, 23⟩))) (body := [ (PySem.Stmt.Expr (value := (PySem.Expr.Call (func := (PySem.Expr.Attribute (PySem.Expr.Name "rows" ⟨375, 8, 375, 12⟩) "append" ⟨375, 8, 375, 19⟩)) (args := [ (PySem.Expr.Tuple (elts := [ (PySem.Expr.Subscript (value := (PySem.Expr.Name "parts" ⟨375, 21, 375, 26⟩)) (slice := (PySem.Expr.Constant (PySem.Const.int 0) 0 ⟨375, 27, 375, 28⟩)) (pos := ⟨375, 21, 375, 29⟩)), (PySem.Expr.Subscript (value := (PySem.Expr.Name "parts" ⟨375, 31, 375, 36⟩)) (slice := (PySem.Expr.Constant (PySem.Const.int 2) 0 ⟨375, 37, 375, 38⟩)) (pos := ⟨375, 31, 375, 39⟩)), (PySem.Expr.List [] ⟨375, 41, 375, 43⟩), (PySem.Expr.List [] ⟨375, 45, 375, 47⟩)]) (k := 0) (pos := ⟨375, 20, 375, 48⟩))]) (keywords := []) (pos := ⟨375, 8, 375, 49⟩))) (pos := ⟨375, 8, 375, 49⟩))]) (orelse := [ (PySem.Stmt.If (test := (PySem.Expr.Compare (left := (PySem.Expr.Name "first" ⟨376, 9, 376, 14⟩)) (ops := [PySem.CmpOp.Eq]) (comparators := [(PySem.Expr.Constant (PySem.Const.str "field") 0 ⟨376, 18, 376, 25⟩)]) (pos := ⟨376, 9, 376, 25⟩))) (body := [ (PySem.Stmt.Expr (value := (PySem.Expr.Call (func := (PySem.Expr.Attribute (value := (PySem.Expr.Subscript (value := (PySem.Expr.Subscript (value := (PySem.Expr.Name "rows" ⟨377, 8, 377, 12⟩)) (slice := (PySem.Expr.UnaryOp (op := PySem.UnaryOp.USub) (operand := (PySem.Expr.Constant (PySem.Const.int 1) 0 ⟨377, 14, 377, 15⟩)) (pos := ⟨377, 13, 377, 15⟩))) (pos := ⟨377, 8, 377, 16⟩))) (slice := (PySem.Expr.Constant (PySem.Const.int 2) 0 ⟨377, 17, 377, 18⟩)) (pos := ⟨377, 8, 377, 19⟩))) (attr := "append") (pos := ⟨377, 8, 377, 26⟩))) (args := [ (PySem.Expr.Call (func := (PySem.Expr.Name "tuple" ⟨377, 27, 377, 32⟩)) (args := [(PySem.Expr.Name "parts" ⟨377, 33, 377, 38⟩)]) (keywords := []) (pos := ⟨377, 27, 377, 39⟩))]) (keywords := []) (pos := ⟨377, 8, 377, 40⟩))) (pos := ⟨377, 8, 377, 40⟩))]) (orelse := [ (PySem.Stmt.If (test := (PySem.Expr.Compare (left := (PySem.Expr.Name "first" ⟨378, 9, 378, 14⟩)) (ops := [PySem.CmpOp.Eq]) (comparators := [(PySem.Expr.Constant (PySem.Const.str "method") 0 ⟨378, 18, 378, 26⟩)]) (pos := ⟨378, 9, 378, 26⟩))) (body := [ (PySem.Stmt.Expr (value := (PySem.Expr.Call (func := (PySem.Expr.Attribute (value := (PySem.Expr.Subscript (value := (PySem.Expr.Subscript (value := (PySem.Expr.Name "rows" ⟨379, 8, 379, 12⟩)) (slice := (PySem.Expr.UnaryOp (op := PySem.UnaryOp.USub) (operand := (PySem.Expr.Constant (PySem.Const.int 1) 0 ⟨379, 14, 379, 15⟩)) (pos := ⟨379, 13, 379, 15⟩))) (pos := ⟨379, 8, 379, 16⟩))) (slice := (PySem.Expr.Constant (PySem.Const.int 3) 0 ⟨379, 17, 379, 18⟩)) (pos := ⟨379, 8, 379, 19⟩))) (attr := "append") (pos := ⟨379, 8, 379, 26⟩))) (args := [ (PySem.Expr.Tuple (elts := [ (PySem.Expr.Subscript (value := (PySem.Expr.Name "parts" ⟨379, 28, 379, 33⟩)) (slice := (PySem.Expr.Constant (PySem.Const.int 0) 0 ⟨379, 34, 379, 35⟩)) (pos := ⟨379, 28, 379, 36⟩)), (PySem.Expr.Call (func := (PySem.Expr.Name "tuple" ⟨379, 38, 379, 43⟩)) (args := [ (PySem.Expr.Subscript (value := (PySem.Expr.Name "parts" ⟨379, 44, 379, 49⟩)) (slice := (PySem.Expr.Slice (lower := (some (PySem.Expr.Constant (PySem.Const.int 2) 0 ⟨379, 50, 379, 51⟩))) (upper := none) (step := none) (pos := ⟨379, 50, 379, 52⟩))) (pos := ⟨379, 44, 379, 53⟩))]) (keywords := []) (pos := ⟨379, 38, 379, 54⟩)), (PySem.Expr.Subscript (value := (PySem.Expr.Name "parts" ⟨379, 56, 379, 61⟩)) (slice := (PySem.Expr.Constant (PySem.Const.int 1) 0 ⟨379, 62, 379, 63⟩)) (pos := ⟨379, 56, 379, 64⟩)), (PySem.Expr.List [] ⟨379, 66, 379, 68⟩), (PySem.Expr.List [] ⟨379, 70, 379, 72⟩)]) (k := 0) (pos := ⟨379, 27, 379, 73⟩))]) (keywords := []) (pos := ⟨379, 8, 379, 74⟩))) (pos := ⟨379, 8, 379, 74⟩))]) (orelse := [ (PySem.Stmt.If (test := (PySem.Expr.Compare (left := (PySem.Expr.Name "first" ⟨380, 9, 380, 14⟩)) (ops := [PySem.CmpOp.Eq]) (comparators := [(PySem.Expr.Constant (PySem.Const.str "catch") 0 ⟨380, 18, 380, 25⟩)]) (pos := ⟨380, 9, 380, 25⟩))) (body := [ (PySem.Stmt.Expr (value := (PySem.Expr.Call (func := (PySem.Expr.Attribute (value := (PySem.Expr.Subscript (value := (PySem.Expr.Subscript (value := (PySem.Expr.Subscript (value := (PySem.Expr.Subscript (value := (PySem.Expr.Name "rows" ⟨381, 8, 381, 12⟩)) (slice := (PySem.Expr.UnaryOp (op := PySem.UnaryOp.USub) (operand := (PySem.Expr.Constant (PySem.Const.int 1) 0 ⟨381, 14, 381, 15⟩)) (pos := ⟨381, 13, 381, 15⟩))) (pos := ⟨381, 8, 381, 16⟩))) (slice := (PySem.Expr.Constant (PySem.Const.int 3) 0 ⟨381, 17, 381, 18⟩)) (pos := ⟨381, 8, 381, 19⟩))) (slice := (PySem.Expr.UnaryOp (op := PySem.UnaryOp.USub) (operand := (PySem.Expr.Constant (PySem.Const.int 1) 0 ⟨381, 21, 381, 22⟩)) (pos := ⟨381, 20, 381, 22⟩))) (pos := ⟨381, 8, 381, 23⟩))) (slice := (PySem.Expr.Constant (PySem.Const.int 4) 0 ⟨381, 24, 381, 25⟩)) (pos := ⟨381, 8, 381, 26⟩))) (attr := "append") (pos := ⟨381, 8, 381, 33⟩))) (args := [ (PySem.Expr.Call (func := (PySem.Expr.Name "tuple" ⟨381, 34, 381, 39⟩)) (args := [(PySem.Expr.Name "parts" ⟨381, 40, 381, 45⟩)]) (keywords := []) (pos := ⟨381, 34, 381, 46⟩))]) (keywords := []) (pos := ⟨381, 8, 381, 47⟩))) (pos := ⟨381, 8, 381, 47⟩))]) (orelse := [ (PySem.Stmt.Expr (value := (PySem.Expr.Call (func := (PySem.Expr.Attribute (value := (PySem.Expr.Subscript (value := (PySem.Expr.Subscript (value := (PySem.Expr.Subscript (value := (PySem.Expr.Subscript (value := (PySem.Expr.Name "rows" ⟨383, 8, 383, 12⟩)) (slice := (PySem.Expr.UnaryOp (op := PySem.UnaryOp.USub) (operand := (PySem.Expr.Constant (PySem.Const.int 1) 0 ⟨383, 14, 383, 15⟩)) (pos := ⟨383, 13, 383, 15⟩))) (pos := ⟨383, 8, 383, 16⟩))) (slice := (PySem.Expr.Constant (PySem.Const.int 3) 0 ⟨383, 17, 383, 18⟩)) (pos := ⟨383, 8, 383, 19⟩))) (slice := (PySem.Expr.UnaryOp (op := PySem.UnaryOp.USub) (operand := (PySem.Expr.Constant (PySem.Const.int 1) 0 ⟨383, 21, 383, 22⟩)) (pos := ⟨383, 20, 383, 22⟩))) (pos := ⟨383, 8, 383, 23⟩))) (slice := (PySem.Expr.Constant (PySem.Const.int 3) 0 ⟨383, 24, 383, 25⟩)) (pos := ⟨383, 8, 383, 26⟩))) (attr := "append") (pos := ⟨383, 8, 383, 33⟩))) (args := [ (PySem.Expr.Tuple (elts := [ (PySem.Expr.Name "first" ⟨383, 35, 383, 40⟩), (PySem.Expr.Starred (PySem.Expr.Name "parts" ⟨383, 43, 383, 48⟩) ⟨383, 42, 383, 48⟩)]) (k := 0) (pos := ⟨383, 34, 383, 49⟩))]) (keywords := []) (pos := ⟨383, 8, 383, 50⟩))) (pos := ⟨383, 8, 383, 50⟩))]) (pos := ⟨380, 4, 383, 50⟩))]) (pos := ⟨378, 4, 383, 50⟩))]) (pos := ⟨376, 4, 383, 50⟩))]) (pos := ⟨374, 4, 383, 50⟩))]) (decorator_list := []) (returns := none) (type_params := []) (scope := { kind := PySem.ScopeKind.function, names := [ (PySem.Str.ofString "rows", PySem.NameKind.local), (PySem.Str.ofString "words", PySem.NameKind.local), (PySem.Str.ofString "first", PySem.NameKind.local), (PySem.Str.ofString "parts", PySem.NameKind.local), (PySem.Str.ofString "zip", PySem.NameKind.globalImplicit), (PySem.Str.ofString "form_of", PySem.NameKind.globalImplicit), (PySem.Str.ofString "tuple", PySem.NameKind.globalImplicit)], isGenerator := false, isCoroutine := false, more := [ (PySem.Str.ofString "fast", (PySem.Const.str "rows")), (PySem.Str.ofString "fast", (PySem.Const.str "words")), (PySem.Str.ofString "fast", (PySem.Const.str "first")), (PySem.Str.ofString "fast", (PySem.Const.str "word")), (PySem.Str.ofString "fast", (PySem.Const.str "part")), (PySem.Str.ofString "fast", (PySem.Const.str "parts"))] : PySem.Scope }) (tscope := none) (bind := "add_line") (pos := ⟨371, 0, 383, 50⟩))
def s_method_made : Stmt := (PySem.Stmt.FunctionDef (name := "method_made") (args := { posonlyargs := [], args := [{ arg := "method", annotation := none, pos := ⟨384, 16, 384, 22⟩ : PySem.Arg }], vararg := none, kwonlyargs := [], kw_defaults := [], kwarg := none, defaults := [] : PySem.Arguments }) (body := [ (PySem.Stmt.Assign (targets := [ (PySem.Expr.Tuple (elts := [ (PySem.Expr.Name "word" ⟨385, 4, 385, 8⟩), (PySem.Expr.Name "ins" ⟨385, 10, 385, 13⟩), (PySem.Expr.Name "out" ⟨385, 15, 385, 18⟩), (PySem.Expr.Name "steps" ⟨385, 20, 385, 25⟩), (PySem.Expr.Name "handlers" ⟨385, 27, 385, 35⟩)]) (k := 0) (pos := ⟨385, 4, 385, 35⟩))]) (value := (PySem.Expr.Name "method" ⟨385, 38, 385, 44⟩)) (pos := ⟨385, 4, 385, 44⟩)), (PySem.Stmt.Return (value := (some (PySem.Expr.Tuple (elts := [ (PySem.Expr.Name "word" ⟨386, 12, 386, 16⟩), (PySem.Expr.Name "ins" ⟨386, 18, 386, 21⟩), (PySem.Expr.Name "out" ⟨386, 23, 386, 26⟩), (PySem.Expr.Call (func := (PySem.Expr.Name "tuple" ⟨386, 28, 386, 33⟩)) (args := [(PySem.Expr.Name "steps" ⟨386, 34, 386, 39⟩)]) (keywords := []) (pos := ⟨386, 28, 386, 40⟩)), (PySem.Expr.Call (func := (PySem.Expr.Name "tuple" ⟨386, 42, 386, 47⟩)) (args := [(PySem.Expr.Name "handlers" ⟨386, 48, 386, 56⟩)]) (keywords := []) (pos := ⟨386, 42, 386, 57⟩))]) (k := 0) (pos := ⟨386, 11, 386, 58⟩)))) (pos := ⟨386, 4, 386, 58⟩))]) (decorator_list := []) (returns := none) (type_params := []) (scope := { kind := PySem.ScopeKind.function, names := [ (PySem.Str.ofString "method", PySem.NameKind.local), (PySem.Str.ofString "word", PySem.NameKind.local), (PySem.Str.ofString "ins", PySem.NameKind.local), (PySem.Str.ofString "out", PySem.NameKind.local), (PySem.Str.ofString "steps", PySem.NameKind.local), (PySem.Str.ofString "handlers", PySem.NameKind.local), (PySem.Str.ofString "tuple", PySem.NameKind.globalImplicit)], isGenerator := false, isCoroutine := false, more := [] : PySem.Scope }) (tscope := none) (bind := "method_made") (pos := ⟨384, 0, 386, 58⟩))
def s_class_made : Stmt := (PySem.Stmt.FunctionDef (name := "class_made") (args := { posonlyargs := [], args := [{ arg := "row", annotation := none, pos := ⟨387, 15, 387, 18⟩ : PySem.Arg }], vararg := none, kwonlyargs := [], kw_defaults := [], kwarg := none, defaults := [] : PySem.Arguments }) (body := [ (PySem.Stmt.Assign (targets := [ (PySem.Expr.Tuple (elts := [ (PySem.Expr.Name "name" ⟨388, 4, 388, 8⟩), (PySem.Expr.Name "upper" ⟨388, 10, 388, 15⟩), (PySem.Expr.Name "fields" ⟨388, 17, 388, 23⟩), (PySem.Expr.Name "methods" ⟨388, 25, 388, 32⟩)]) (k := 0) (pos := ⟨388, 4, 388, 32⟩))]) (value := (PySem.Expr.Name "row" ⟨388, 35, 388, 38⟩)) (pos := ⟨388, 4, 388, 38⟩)), (PySem.Stmt.Return (value := (some (PySem.Expr.Tuple (elts := [ (PySem.Expr.Name "name" ⟨389, 12, 389, 16⟩), (PySem.Expr.Name "upper" ⟨389, 18, 389, 23⟩), (PySem.Expr.Call (func := (PySem.Expr.Name "tuple" ⟨389, 25, 389, 30⟩)) (args := [(PySem.Expr.Name "fields" ⟨389, 31, 389, 37⟩)]) (keywords := []) (pos := ⟨389, 25, 389, 38⟩)), (PySem.Expr.Call (func := (PySem.Expr.Name "tuple" ⟨389, 40, 389, 45⟩)) (args := [ (PySem.Expr.ListComp (elt := (PySem.Expr.Call (func := (PySem.Expr.Name "method_made" ⟨389, 47, 389, 58⟩)) (args := [(PySem.Expr.Name "method" ⟨389, 59, 389, 65⟩)]) (keywords := []) (pos := ⟨389, 47, 389, 66⟩))) (generators := [ { target := (PySem.Expr.Name "method" ⟨389, 71, 389, 77⟩), iter := (PySem.Expr.Name "methods" ⟨389, 81, 389, 88⟩), ifs := [], is_async := 0 : PySem.Comprehension }]) (scope := { kind := PySem.ScopeKind.function, names := [ (PySem.Str.ofString ".0", PySem.NameKind.local), (PySem.Str.ofString "method", PySem.NameKind.local), (PySem.Str.ofString "method_made", PySem.NameKind.globalImplicit)], isGenerator := false, isCoroutine := false, more := [] : PySem.Scope }) (pos := ⟨389, 46, 389, 89⟩))]) (keywords := []) (pos := ⟨389, 40, 389, 90⟩))]) (k := 0) (pos := ⟨389, 11, 389, 91⟩)))) (pos := ⟨389, 4, 389, 91⟩))]) (decorator_list := []) (returns := none) (type_params := []) (scope := { kind := PySem.ScopeKind.function, names := [ (PySem.Str.ofString "row", PySem.NameKind.local), (PySem.Str.ofString "name", PySem.NameKind.local), (PySem.Str.ofString "upper", PySem.NameKind.local), (PySem.Str.ofString "fields", PySem.NameKind.local), (PySem.Str.ofString "methods", PySem.NameKind.local), (PySem.Str.ofString "tuple", PySem.NameKind.globalImplicit)], isGenerator := false, isCoroutine := false, more := [ (PySem.Str.ofString "fast", (PySem.Const.str "row")), (PySem.Str.ofString "fast", (PySem.Const.str "name")), (PySem.Str.ofString "fast", (PySem.Const.str "upper")), (PySem.Str.ofString "fast", (PySem.Const.str "fields")), (PySem.Str.ofString "fast", (PySem.Const.str "methods")), (PySem.Str.ofString "fast", (PySem.Const.str "method"))] : PySem.Scope }) (tscope := none) (bind := "class_made") (pos := ⟨387, 0, 389, 91⟩))
def s_read : Stmt := (PySem.Stmt.FunctionDef (name := "read") (args := { posonlyargs := [], args := [{ arg := "text", annotation := none, pos := ⟨390, 9, 390, 13⟩ : PySem.Arg }], vararg := none, kwonlyargs := [], kw_defaults := [], kwarg := none, defaults := [] : PySem.Arguments }) (body := [ (PySem.Stmt.If (test := (PySem.Expr.UnaryOp (op := PySem.UnaryOp.Not) (operand := (PySem.Expr.Call (func := (PySem.Expr.Name "isinstance" ⟨391, 11, 391, 21⟩)) (args := [(PySem.Expr.Name "text" ⟨391, 22, 391, 26⟩), (PySem.Expr.Name "str" ⟨391, 28, 391, 31⟩)]) (keywords := []) (pos := ⟨391, 11, 391, 32⟩))) (pos := ⟨391, 7, 391, 32⟩))) (body := [ (PySem.Stmt.Raise (exc := (some (PySem.Expr.Call (func := (PySem.Expr.Name "NoText" ⟨392, 14, 392, 20⟩)) (args := [(PySem.Expr.Constant (PySem.Const.str "no string") 0 ⟨392, 21, 392, 32⟩)]) (keywords := []) (pos := ⟨392, 14, 392, 33⟩)))) (cause := none) (pos := ⟨392, 8, 392, 33⟩))]) (orelse := []) (pos := ⟨391, 4, 392, 33⟩)), (PySem.Stmt.Assign (targets := [(PySem.Expr.Name "rows" ⟨393, 4, 393, 8⟩)]) (value := (PySem.Expr.List [] ⟨393, 11, 393, 13⟩)) (pos := ⟨393, 4, 393, 13⟩)), (PySem.Stmt.Assign (targets := [(PySem.Expr.Name "lines" ⟨394, 4, 394, 9⟩)]) (value := (PySem.Expr.Call (func := (PySem.Expr.Attribute (PySem.Expr.Name "text" ⟨394, 12, 394, 16⟩) "split" ⟨394, 12, 394, 22⟩)) (args := [(PySem.Expr.Constant (PySem.Const.str "\n") 0 ⟨394, 23, 394, 27⟩)]) (keywords := []) (pos := ⟨394, 12, 394, 28⟩))) (pos := ⟨394, 4, 394, 28⟩)), (PySem.Stmt.For (target := (PySem.Expr.Tuple (elts := [(PySem.Expr.Name "line" ⟨395, 8, 395, 12⟩), (PySem.Expr.Name "row" ⟨395, 14, 395, 17⟩)]) (k := 0) (pos := ⟨395, 8, 395, 17⟩))) (iter := (PySem.Expr.Call (func := (PySem.Expr.Name "enumerate" ⟨395, 21, 395, 30⟩)) (args := [(PySem.Expr.Name "lines" ⟨395, 31, 395, 36⟩)]) (keywords := [ { arg := (some "start"), value := (PySem.Expr.Constant (PySem.Const.int 1) 0 ⟨395, 44, 395, 45⟩), pos := ⟨395, 38, 395, 45⟩ : PySem.Keyword }]) (pos := ⟨395, 21, 395, 46⟩))) (body := [ (PySem.Stmt.Assign (targets := [(PySem.Expr.Name "words" ⟨396, 8, 396, 13⟩)]) (value := (PySem.Expr.ListComp (elt := (PySem.Expr.Name "word" ⟨396, 17, 396, 21⟩)) (generators := [ { target := (PySem.Expr.Name "word" ⟨396, 26, 396, 30⟩), iter := (PySem.Expr.Call (func := (PySem.Expr.Attribute (PySem.Expr.Name "row" ⟨396, 34, 396, 37⟩) "split" ⟨396, 34, 396, 43⟩)) (args := [(PySem.Expr.Constant (PySem.Const.str " ") 0 ⟨396, 44, 396, 47⟩)]) (keywords := []) (pos := ⟨396, 34, 396, 48⟩)), ifs := [(PySem.Expr.Name "word" ⟨396, 52, 396, 56⟩)], is_async := 0 : PySem.Comprehension }]) (scope := { kind := PySem.ScopeKind.function, names := [(PySem.Str.ofString ".0", PySem.NameKind.local), (PySem.Str.ofString "word", PySem.NameKind.local)], isGenerator := false, isCoroutine := false, more := [] : PySem.Scope }) (pos := ⟨396, 16, 396, 57⟩))) (pos := ⟨396, 8, 396, 57⟩)), (PySem.Stmt.Assign (targets := [(PySem.Expr.Name "word" ⟨397, 8, 397, 12⟩)]) (value := (PySem.Expr.Call (func := (PySem.Expr.Name "bad_word" ⟨397, 15, 397, 23⟩)) (args := [(PySem.Expr.Name "rows" ⟨397, 24, 397, 28⟩), (PySem.Expr.Name "words" ⟨397, 30, 397, 35⟩)]) (keywords := []) (pos := ⟨397, 15, 397, 36⟩))) (pos := ⟨397, 8, 397, 36⟩)), (PySem.Stmt.If (test := (PySem.Expr.Compare (left := (PySem.Expr.Name "word" ⟨398, 11, 398, 15⟩)) (ops := [PySem.CmpOp.IsNot]) (comparators := [(PySem.Expr.Constant PySem.Const.none 0 ⟨398, 23, 398, 27⟩)]) (pos := ⟨398, 11, 398, 27⟩))) (body := [ (PySem.Stmt.Raise (exc := (some (PySem.Expr.Call (func := (PySem.Expr.Name "InvalidText" ⟨399, 18, 399, 29⟩)) (args := [(PySem.Expr.Name "line" ⟨399, 30, 399, 34⟩), (PySem.Expr.Name "word" ⟨399, 36, 399, 40⟩)]) (keywords := []) (pos := ⟨399, 18, 399, 41⟩)))) (cause := none) (pos := ⟨399, 12, 399, 41⟩))]) (orelse := []) (pos := ⟨398, 8, 399, 41⟩)), (PySem.Stmt.Expr (value := (PySem.Expr.Call (func := (PySem.Expr.Name "add_line" ⟨400, 8, 400, 16⟩)) (args := [(PySem.Expr.Name "rows" ⟨400, 17, 400, 21⟩), (PySem.Expr.Name "words" ⟨400, 23, 400, 28⟩)]) (keywords := []) (pos := ⟨400, 8, 400, 29⟩))) (pos := ⟨400, 8, 400, 29⟩))]) (orelse := []) (pos := ⟨395, 4, 400, 29⟩)), (PySem.Stmt.If (test := (PySem.Expr.UnaryOp (op := PySem.UnaryOp.Not) (operand := (PySem.Expr.Call (func := (PySem.Expr.Name "is_whole" ⟨401, 11, 401, 19⟩)) (args := [ (PySem.Expr.Subscript (value := (PySem.Expr.Subscript (value := (PySem.Expr.Name "rows" ⟨401, 20, 401, 24⟩)) (slice := (PySem.Expr.UnaryOp (op := PySem.UnaryOp.USub) (operand := (PySem.Expr.Constant (PySem.Const.int 1) 0 ⟨401, 26, 401, 27⟩)) (pos := ⟨401, 25, 401, 27⟩))) (pos := ⟨401, 20, 401, 28⟩))) (slice := (PySem.Expr.Constant (PySem.Const.int 3) 0 ⟨401, 29, 401, 30⟩)) (pos := ⟨401, 20, 401, 31⟩))]) (keywords := []) (pos := ⟨401, 11, 401, 32⟩))) (pos := ⟨401, 7, 401, 32⟩))) (body := [ (PySem.Stmt.Raise (exc := (some (PySem.Expr.Call (func := (PySem.Expr.Name "InvalidText" ⟨402, 14, 402, 25⟩)) (args := [ (PySem.Expr.BinOp (left := (PySem.Expr.Call (func := (PySem.Expr.Name "len" ⟨402, 26, 402, 29⟩)) (args := [(PySem.Expr.Name "lines" ⟨402, 30, 402, 35⟩)]) (keywords := []) (pos := ⟨402, 26, 402, 36⟩))) (op := PySem.Operator.Add) (right := (PySem.Expr.Constant (PySem.Const.int 1) 0 ⟨402, 39, 402, 40⟩)) (pos := ⟨402, 26, 402, 40⟩)), (PySem.Expr.Constant (PySem.Const.int 1) 0 ⟨402, 42, 402, 43⟩)]) (keywords := []) (pos := ⟨402, 14, 402, 44⟩)))) (cause := none) (pos := ⟨402, 8, 402, 44⟩))]) (orelse := []) (pos := ⟨401, 4, 402, 44⟩)), (PySem.Stmt.Return (value := (some (PySem.Expr.Call (func := (PySem.Expr.Name "House" ⟨403, 11, 403, 16⟩)) (args := [ (PySem.Expr.Call (func := (PySem.Expr.Name "tuple" ⟨403, 17, 403, 22⟩)) (args := [ (PySem.Expr.ListComp (elt := (PySem.Expr.Call (func := (PySem.Expr.Name "class_made" ⟨403, 24, 403, 34⟩)) (args := [(PySem.Expr.Name "row" ⟨403, 35, 403, 38⟩)]) (keywords := []) (pos := ⟨403, 24, 403, 39⟩))) (generators := [ { target := (PySem.Expr.Name "row" ⟨403, 44, 403, 47⟩), iter := (PySem.Expr.Name "rows" ⟨403, 51, 403, 55⟩), ifs := [], is_async := 0 : PySem.Comprehension }]) (scope := { kind := PySem.ScopeKind.function, names := [ (PySem.Str.ofString ".0", PySem.NameKind.local), (PySem.Str.ofString "row", PySem.NameKind.local), (PySem.Str.ofString "class_made", PySem.NameKind.globalImplicit)], isGenerator := false, isCoroutine := false, more := [] : PySem.Scope }) (pos := ⟨403, 23, 403, 56⟩))]) (keywords := []) (pos := ⟨403, 17, 403, 57⟩))]) (keywords := []) (pos := ⟨403, 11, 403, 58⟩)))) (pos := ⟨403, 4, 403, 58⟩))]) (decorator_list := []) (returns := none) (type_params := []) (scope := { kind := PySem.ScopeKind.function, names := [ (PySem.Str.ofString "text", PySem.NameKind.local), (PySem.Str.ofString "rows", PySem.NameKind.local), (PySem.Str.ofString "lines", PySem.NameKind.local), (PySem.Str.ofString "line", PySem.NameKind.local), (PySem.Str.ofString "row", PySem.NameKind.local), (PySem.Str.ofString "word", PySem.NameKind.local), (PySem.Str.ofString "words", PySem.NameKind.local), (PySem.Str.ofString "isinstance", PySem.NameKind.globalImplicit), (PySem.Str.ofString "str", PySem.NameKind.globalImplicit), (PySem.Str.ofString "NoText", PySem.NameKind.globalImplicit), (PySem.Str.ofString "enumerate", PySem.NameKind.globalImplicit), (PySem.Str.ofString "bad_word", PySem.NameKind.globalImplicit), (PySem.Str.ofString "InvalidText", PySem.NameKind.globalImplicit), (PySem.Str.ofString "add_line", PySem.NameKind.globalImplicit), (PySem.Str.ofString "is_whole", PySem.NameKind.globalImplicit), (PySem.Str.ofString "len", PySem.NameKind.globalImplicit), (PySem.Str.ofString "House", PySem.NameKind.globalImplicit), (PySem.Str.ofString "tuple", PySem.NameKind.globalImplicit)], isGenerator := false, isCoroutine := false, more := [ (PySem.Str.ofString "fast", (PySem.Const.str "text")), (PySem.Str.ofString "fast", (PySem.Const.str "rows")), (PySem.Str.ofString "fast", (PySem.Const.str "lines")), (PySem.Str.ofString "fast", (PySem.Const.str "line")), (PySem.Str.ofString "fast", (PySem.Const.str "row")), (PySem.Str.ofString "fast", (PySem.Const.str "word")), (PySem.Str.ofString "fast", (PySem.Const.str "words"))] : PySem.Scope }) (tscope := none) (bind := "read") (pos := ⟨390, 0, 403, 58⟩))
def s__law_taken : Stmt := (PySem.Stmt.FunctionDef (name := "_law_taken") (args := { posonlyargs := [], args := [ { arg := "row", annotation := none, pos := ⟨405, 15, 405, 18⟩ : PySem.Arg }, { arg := "many", annotation := none, pos := ⟨405, 20, 405, 24⟩ : PySem.Arg }], vararg := none, kwonlyargs := [], kw_defaults := [], kwarg := none, defaults := [] : PySem.Arguments }) (body := [ (PySem.Stmt.If (test := (PySem.Expr.Compare (left := (PySem.Expr.Subscript (value := (PySem.Expr.Name "row" ⟨406, 7, 406, 10⟩)) (slice := (PySem.Expr.Constant (PySem.Const.int 3) 0 ⟨406, 11, 406, 12⟩)) (pos := ⟨406, 7, 406, 13⟩))) (ops := [PySem.CmpOp.Gt]) (comparators := [(PySem.Expr.Constant (PySem.Const.int 0) 0 ⟨406, 16, 406, 17⟩)]) (pos := ⟨406, 7, 406, 17⟩))) (body := [ (PySem.Stmt.Assign (targets := [(PySem.Expr.Name "found" ⟨407, 8, 407, 13⟩)]) (value := (PySem.Expr.BinOp (left := (PySem.Expr.Call (func := (PySem.Expr.Name "int" ⟨407, 16, 407, 19⟩)) (args := [ (PySem.Expr.Subscript (value := (PySem.Expr.Name "row" ⟨407, 20, 407, 23⟩)) (slice := (PySem.Expr.Constant (PySem.Const.int 3) 0 ⟨407, 24, 407, 25⟩)) (pos := ⟨407, 20, 407, 26⟩))]) (keywords := []) (pos := ⟨407, 16, 407, 27⟩))) (op := PySem.Operator.Mod) (right := (PySem.Expr.Name "many" ⟨407, 30, 407, 34⟩)) (pos := ⟨407, 16, 407, 34⟩))) (pos := ⟨407, 8, 407, 34⟩)), (PySem.Stmt.Assign (targets := [ (PySem.Expr.Subscript (value := (PySem.Expr.Name "row" ⟨408, 8, 408, 11⟩)) (slice := (PySem.Expr.Constant (PySem.Const.int 3) 0 ⟨408, 12, 408, 13⟩)) (pos := ⟨408, 8, 408, 14⟩))]) (value := (PySem.Expr.BinOp (left := (PySem.Expr.Subscript (value := (PySem.Expr.Name "row" ⟨408, 17, 408, 20⟩)) (slice := (PySem.Expr.Constant (PySem.Const.int 3) 0 ⟨408, 21, 408, 22⟩)) (pos := ⟨408, 17, 408, 23⟩))) (op := PySem.Operator.FloorDiv) (right := (PySem.Expr.Name "many" ⟨408, 27, 408, 31⟩)) (pos := ⟨408, 17, 408, 31⟩))) (pos := ⟨408, 8, 408, 31⟩)), (PySem.Stmt.Return (some (PySem.Expr.Name "found" ⟨409, 15, 409, 20⟩)) ⟨409, 8, 409, 20⟩)]) (orelse := []) (pos := ⟨406, 4, 409, 20⟩)), (PySem.Stmt.Assign (targets := [ (PySem.Expr.Subscript (value := (PySem.Expr.Name "row" ⟨410, 4, 410, 7⟩)) (slice := (PySem.Expr.Constant (PySem.Const.int 1) 0 ⟨410, 8, 410, 9⟩)) (pos := ⟨410, 4, 410, 10⟩))]) (value := (PySem.Expr.BinOp (left := (PySem.Expr.Subscript (value := (PySem.Expr.Name "row" ⟨410, 13, 410, 16⟩)) (slice := (PySem.Expr.Constant (PySem.Const.int 1) 0 ⟨410, 17, 410, 18⟩)) (pos := ⟨410, 13, 410, 19⟩))) (op := PySem.Operator.Add) (right := (PySem.Expr.Constant (PySem.Const.int 1) 0 ⟨410, 22, 410, 23⟩)) (pos := ⟨410, 13, 410, 23⟩))) (pos := ⟨410, 4, 410, 23⟩)), (PySem.Stmt.If (test := (PySem.Expr.Compare (left := (PySem.Expr.Subscript (value := (PySem.Expr.Name "row" ⟨411, 7, 411, 10⟩)) (slice := (PySem.Expr.Constant (PySem.Const.int 1) 0 ⟨411, 11, 411, 12⟩)) (pos := ⟨411, 7, 411, 13⟩))) (ops := [PySem.CmpOp.Gt]) (comparators := [ (PySem.Expr.Call (func := (PySem.Expr.Name "len" ⟨411, 16, 411, 19⟩)) (args := [ (PySem.Expr.Subscript (value := (PySem.Expr.Name "row" ⟨411, 20, 411, 23⟩)) (slice := (PySem.Expr.Constant (PySem.Const.int 0) 0 ⟨411, 24, 411, 25⟩)) (pos := ⟨411, 20, 411, 26⟩))]) (keywords := []) (pos := ⟨411, 16, 411, 27⟩))]) (pos := ⟨411, 7, 411, 27⟩))) (body := [ (PySem.Stmt.Assign (targets := [ (PySem.Expr.Subscript (value := (PySem.Expr.Name "row" ⟨412, 8, 412, 11⟩)) (slice := (PySem.Expr.Constant (PySem.Const.int 2) 0 ⟨412, 12, 412, 13⟩)) (pos := ⟨412, 8, 412, 14⟩))]) (value := (PySem.Expr.BinOp (left := (PySem.Expr.Call (func := (PySem.Expr.Name "int" ⟨412, 17, 412, 20⟩)) (args := [ (PySem.Expr.BinOp (left := (PySem.Expr.BinOp (left := (PySem.Expr.Subscript (value := (PySem.Expr.Name "row" ⟨412, 21, 412, 24⟩)) (slice := (PySem.Expr.Constant (PySem.Const.int 2) 0 ⟨412, 25, 412, 26⟩)) (pos := ⟨412, 21, 412, 27⟩))) (op := PySem.Operator.Mult) (right := (PySem.Expr.Constant (PySem.Const.int 48271) 0 ⟨412, 30, 412, 35⟩)) (pos := ⟨412, 21, 412, 35⟩))) (op := PySem.Operator.Add) (right := (PySem.Expr.Constant (PySem.Const.int 11) 0 ⟨412, 38, 412, 40⟩)) (pos := ⟨412, 21, 412, 40⟩))]) (keywords := []) (pos := ⟨412, 17, 412, 41⟩))) (op := PySem.Operator.Mod) (right := (PySem.Expr.Constant (PySem.Const.int 2147483647) 0 ⟨412, 44, 412, 54⟩)) (pos := ⟨412, 17, 412, 54⟩))) (pos := ⟨412, 8, 412, 54⟩)), (PySem.Stmt.Return (value := (some (PySem.Expr.BinOp (left := (PySem.Expr.Call (func := (PySem.Expr.Name "int" ⟨413, 15, 413, 18⟩)) (args := [ (PySem.Expr.BinOp (left := (PySem.Expr.Subscript (value := (PySem.Expr.Name "row" ⟨413, 19, 413, 22⟩)) (slice := (PySem.Expr.Constant (PySem.Const.int 2) 0 ⟨413, 23, 413, 24⟩)) (pos := ⟨413, 19, 413, 25⟩))) (op := PySem.Operator.FloorDiv) (right := (PySem.Expr.Constant (PySem.Const.int 7) 0 ⟨413, 29, 413, 30⟩)) (pos := ⟨413, 19, 413, 30⟩))]) (keywords := []) (pos := ⟨413, 15, 413, 31⟩))) (op := PySem.Operator.Mod) (right := (PySem.Expr.Name "many" ⟨413, 34, 413, 38⟩)) (pos := ⟨413, 15, 413, 38⟩)))) (pos := ⟨413, 8, 413, 38⟩))]) (orelse := []) (pos := ⟨411, 4, 413, 38⟩)), (PySem.Stmt.Assign (targets := [(PySem.Expr.Name "cell" ⟨414, 4, 414, 8⟩)]) (value := (PySem.Expr.Subscript (value := (PySem.Expr.Subscript (value := (PySem.Expr.Name "row" ⟨414, 11, 414, 14⟩)) (slice := (PySem.Expr.Constant (PySem.Const.int 0) 0 ⟨414, 15, 414, 16⟩)) (pos := ⟨414, 11, 414, 17⟩))) (slice := (PySem.Expr.BinOp (left := (PySem.Expr.Subscript (value := (PySem.Expr.Name "row" ⟨414, 18, 414, 21⟩)) (slice := (PySem.Expr.Constant (PySem.Const.int 1) 0 ⟨414, 22, 414, 23⟩)) (pos := ⟨414, 18, 414, 24⟩))) (op := PySem.Operator.Sub) (right := (PySem.Expr.Constant (PySem.Const.int 1) 0 ⟨414, 27, 414, 28⟩)) (pos := ⟨414, 18, 414, 28⟩))) (pos := ⟨414, 11, 414, 29⟩))) (pos := ⟨414, 4, 414, 29⟩)), (PySem.Stmt.Assign (targets := [ (PySem.Expr.Subscript (value := (PySem.Expr.Name "row" ⟨415, 4, 415, 7⟩)) (slice := (PySem.Expr.Constant (PySem.Const.int 2) 0 ⟨415, 8, 415, 9⟩)) (pos := ⟨415, 4, 415, 10⟩))]) (value := (PySem.Expr.BinOp (left := (PySem.Expr.Call (func := (PySem.Expr.Name "int" ⟨415, 13, 415, 16⟩)) (args := [ (PySem.Expr.BinOp (left := (PySem.Expr.BinOp (left := (PySem.Expr.BinOp (left := (PySem.Expr.Subscript (value := (PySem.Expr.Name "row" ⟨415, 17, 415, 20⟩)) (slice := (PySem.Expr.Constant (PySem.Const.int 2) 0 ⟨415, 21, 415, 22⟩)) (pos := ⟨415, 17, 415, 23⟩))) (op := PySem.Operator.Mult) (right := (PySem.Expr.Constant (PySem.Const.int 48271) 0 ⟨415, 26, 415, 31⟩)) (pos := ⟨415, 17, 415, 31⟩))) (op := PySem.Operator.Add) (right := (PySem.Expr.Name "cell" ⟨415, 34, 415, 38⟩)) (pos := ⟨415, 17, 415, 38⟩))) (op := PySem.Operator.Add) (right := (PySem.Expr.Constant (PySem.Const.int 11) 0 ⟨415, 41, 415, 43⟩)) (pos := ⟨415, 17, 415, 43⟩))]) (keywords := []) (pos := ⟨415, 13, 415, 44⟩))) (op := PySem.Operator.Mod) (right := (PySem.Expr.Constant (PySem.Const.int 2147483647) 0 ⟨415, 47, 415, 57⟩)) (pos := ⟨415, 13, 415, 57⟩))) (pos := ⟨415, 4, 415, 57⟩)), (PySem.Stmt.If (test := (PySem.Expr.Compare (left := (PySem.Expr.Name "cell" ⟨416, 7, 416, 11⟩)) (ops := [PySem.CmpOp.GtE]) (comparators := [ (PySem.Expr.BinOp (left := (PySem.Expr.Constant (PySem.Const.int 10) 0 ⟨416, 15, 416, 17⟩)) (op := PySem.Operator.Pow) (right := (PySem.Expr.Constant (PySem.Const.int 18) 0 ⟨416, 21, 416, 23⟩)) (pos := ⟨416, 15, 416, 23⟩))]) (pos := ⟨416, 7, 416, 23⟩))) (body := [ (PySem.Stmt.Assign (targets := [ (PySem.Expr.Subscript (value := (PySem.Expr.Name "row" ⟨417, 8, 417, 11⟩)) (slice := (PySem.Expr.Constant (PySem.Const.int 3) 0 ⟨417, 12, 417, 13⟩)) (pos := ⟨417, 8, 417, 14⟩))]) (value := (PySem.Expr.BinOp (left := (PySem.Expr.Name "cell" ⟨417, 17, 417, 21⟩)) (op := PySem.Operator.FloorDiv) (right := (PySem.Expr.Name "many" ⟨417, 25, 417, 29⟩)) (pos := ⟨417, 17, 417, 29⟩))) (pos := ⟨417, 8, 417, 29⟩))]) (orelse := []) (pos := ⟨416, 4, 417, 29⟩)), (PySem.Stmt.Return (value := (some (PySem.Expr.BinOp (left := (PySem.Expr.Call (func := (PySem.Expr.Name "int" ⟨418, 11, 418, 14⟩)) (args := [(PySem.Expr.Name "cell" ⟨418, 15, 418, 19⟩)]) (keywords := []) (pos := ⟨418, 11, 418, 20⟩))) (op := PySem.Operator.Mod) (right := (PySem.Expr.Name "many" ⟨418, 23, 418, 27⟩)) (pos := ⟨418, 11, 418, 27⟩)))) (pos := ⟨418, 4, 418, 27⟩))]) (decorator_list := []) (returns := none) (type_params := []) (scope := { kind := PySem.ScopeKind.function, names := [ (PySem.Str.ofString "row", PySem.NameKind.local), (PySem.Str.ofString "many", PySem.NameKind.local), (PySem.Str.ofString "found", PySem.NameKind.local), (PySem.Str.ofString "cell", PySem.NameKind.local), (PySem.Str.ofString "int", PySem.NameKind.globalImplicit), (PySem.Str.ofString "len", PySem.NameKind.globalImplicit)], isGenerator := false, isCoroutine := false, more := [] : PySem.Scope }) (tscope := none) (bind := "_law_taken") (pos := ⟨405, 0, 418, 27⟩))
def s_law : Stmt := (PySem.Stmt.FunctionDef (name := "law") (args := { posonlyargs := [], args := [{ arg := "script", annotation := none, pos := ⟨419, 8, 419, 14⟩ : PySem.Arg }], vararg := none, kwonlyargs := [], kw_defaults := [], kwarg := none, defaults := [] : PySem.Arguments }) (body := [ (PySem.Stmt.Assign (targets := [(PySem.Expr.Name "row" ⟨420, 4, 420, 7⟩)]) (value := (PySem.Expr.List (elts := [ (PySem.Expr.Name "script" ⟨420, 11, 420, 17⟩), (PySem.Expr.Constant (PySem.Const.int 0) 0 ⟨420, 19, 420, 20⟩), (PySem.Expr.Constant (PySem.Const.int 2911) 0 ⟨420, 22, 420, 26⟩), (PySem.Expr.Constant (PySem.Const.int 0) 0 ⟨420, 28, 420, 29⟩)]) (pos := ⟨420, 10, 420, 30⟩))) (pos := ⟨420, 4, 420, 30⟩)), (PySem.Stmt.Assign (targets := [(PySem.Expr.Name "many" ⟨421, 4, 421, 8⟩)]) (value := (PySem.Expr.BinOp (left := (PySem.Expr.Constant (PySem.Const.int 1) 0 ⟨421, 11, 421, 12⟩)) (op := PySem.Operator.Add) (right := (PySem.Expr.Call (func := (PySem.Expr.Name "_law_taken" ⟨421, 15, 421, 25⟩)) (args := [(PySem.Expr.Name "row" ⟨421, 26, 421, 29⟩), (PySem.Expr.Constant (PySem.Const.int 8) 0 ⟨421, 31, 421, 32⟩)]) (keywords := []) (pos := ⟨421, 15, 421, 33⟩))) (pos := ⟨421, 11, 421, 33⟩))) (pos := ⟨421, 4, 421, 33⟩)), (PySem.Stmt.Assign (targets := [(PySem.Expr.Name "names" ⟨422, 4, 422, 9⟩)]) (value := (PySem.Expr.Subscript (value := (PySem.Expr.List (elts := [ (PySem.Expr.Constant (PySem.Const.str "a") 0 ⟨422, 13, 422, 16⟩), (PySem.Expr.Constant (PySem.Const.str "b") 0 ⟨422, 18, 422, 21⟩), (PySem.Expr.Constant (PySem.Const.str "c") 0 ⟨422, 23, 422, 26⟩), (PySem.Expr.Constant (PySem.Const.str "d") 0 ⟨422, 28, 422, 31⟩), (PySem.Expr.Constant (PySem.Const.str "e") 0 ⟨422, 33, 422, 36⟩), (PySem.Expr.Constant (PySem.Const.str "f") 0 ⟨422, 38, 422, 41⟩), (PySem.Expr.Constant (PySem.Const.str "g") 0 ⟨422, 43, 422, 46⟩), (PySem.Expr.Constant (PySem.Const.str "h") 0 ⟨422, 48, 422, 51⟩)]) (pos := ⟨422, 12, 422, 52⟩))) (slice := (PySem.Expr.Slice none (some (PySem.Expr.Name "many" ⟨422, 54, 422, 58⟩)) none ⟨422, 53, 422, 58⟩)) (pos := ⟨422, 12, 422, 59⟩))) (pos := ⟨422, 4, 422, 59⟩)), (PySem.Stmt.Assign (targets := [(PySem.Expr.Name "line" ⟨423, 4, 423, 8⟩)]) (value := (PySem.Expr.Call (func := (PySem.Expr.Name "House" ⟨423, 11, 423, 16⟩)) (args := [ (PySem.Expr.Call (func := (PySem.Expr.Name "tuple" ⟨423, 17, 423, 22⟩)) (args := [ (PySem.Expr.ListComp (elt := (PySem.Expr.Tuple (elts := [ (PySem.Expr.Subscript (value := (PySem.Expr.Name "names" ⟨423, 25, 423, 30⟩)) (slice := (PySem.Expr.Name "at" ⟨423, 31, 423, 33⟩)) (pos := ⟨423, 25, 423, 34⟩)), (PySem.Expr.Subscript (value := (PySem.Expr.BinOp (left := (PySem.Expr.List [(PySem.Expr.Constant (PySem.Const.str "top") 0 ⟨423, 38, 423, 43⟩)] ⟨423, 37, 423, 44⟩)) (op := PySem.Operator.Add) (right := (PySem.Expr.Name "names" ⟨423, 47, 423, 52⟩)) (pos := ⟨423, 37, 423, 52⟩))) (slice := (PySem.Expr.Name "at" ⟨423, 54, 423, 56⟩)) (pos := ⟨423, 36, 423, 57⟩)), (PySem.Expr.Tuple [] 0 ⟨423, 59, 423, 61⟩), (PySem.Expr.Tuple [] 0 ⟨423, 63, 423, 65⟩)]) (k := 0) (pos := ⟨423, 24, 423, 66⟩))) (generators := [ { target := (PySem.Expr.Name "at" ⟨423, 71, 423, 73⟩), iter := (PySem.Expr.Call (func := (PySem.Expr.Name "range" ⟨423, 77, 423, 82⟩)) (args := [(PySem.Expr.Name "many" ⟨423, 83, 423, 87⟩)]) (keywords := []) (pos := ⟨423, 77, 423, 88⟩)), ifs := [], is_async := 0 : PySem.Comprehension }]) (scope := { kind := PySem.ScopeKind.function, names := [ (PySem.Str.ofString ".0", PySem.NameKind.local), (PySem.Str.ofString "at", PySem.NameKind.local), (PySem.Str.ofString "names", PySem.NameKind.free)], isGenerator := false, isCoroutine := false, more := [] : PySem.Scope }) (pos := ⟨423, 23, 423, 89⟩))]) (keywords := []) (pos := ⟨423, 17, 423, 90⟩))]) (keywords := []) (pos := ⟨423, 11, 423, 91⟩))) (pos := ⟨423, 4, 423, 91⟩)), (PySem.Stmt.Assign (targets := [(PySem.Expr.Name "bush" ⟨424, 4, 424, 8⟩)]) (value := (PySem.Expr.Call (func := (PySem.Expr.Name "House" ⟨424, 11, 424, 16⟩)) (args := [ (PySem.Expr.Call (func := (PySem.Expr.Name "tuple" ⟨424, 17, 424, 22⟩)) (args := [ (PySem.Expr.ListComp (elt := (PySem.Expr.Tuple (elts := [ (PySem.Expr.Name "name" ⟨424, 25, 424, 29⟩), (PySem.Expr.Constant (PySem.Const.str "top") 0 ⟨424, 31, 424, 36⟩), (PySem.Expr.Tuple [] 0 ⟨424, 38, 424, 40⟩), (PySem.Expr.Tuple [] 0 ⟨424, 42, 424, 44⟩)]) (k := 0) (pos := ⟨424, 24, 424, 45⟩))) (generators := [ { target := (PySem.Expr.Name "name" ⟨424, 50, 424, 54⟩), iter := (PySem.Expr.Name "names" ⟨424, 58, 424, 63⟩), ifs := [], is_async := 0 : PySem.Comprehension }]) (scope := { kind := PySem.ScopeKind.function, names := [(PySem.Str.ofString ".0", PySem.NameKind.local), (PySem.Str.ofString "name", PySem.NameKind.local)], isGenerator := false, isCoroutine := false, more := [] : PySem.Scope }) (pos := ⟨424, 23, 424, 64⟩))]) (keywords := []) (pos := ⟨424, 17, 424, 65⟩))]) (keywords := []) (pos := ⟨424, 11, 424, 66⟩))) (pos := ⟨424, 4, 424, 66⟩)), (PySem.Stmt.Assign (targets := [(PySem.Expr.Name "last" ⟨425, 4, 425, 8⟩)]) (value := (PySem.Expr.Subscript (value := (PySem.Expr.Name "names" ⟨425, 11, 425, 16⟩)) (slice := (PySem.Expr.UnaryOp (op := PySem.UnaryOp.USub) (operand := (PySem.Expr.Constant (PySem.Const.int 1) 0 ⟨425, 18, 425, 19⟩)) (pos := ⟨425, 17, 425, 19⟩))) (pos := ⟨425, 11, 425, 20⟩))) (pos := ⟨425, 4, 425, 20⟩)), (PySem.Stmt.If (test := (PySem.Expr.BoolOp (op := PySem.BoolOp.Or) (values := [ (PySem.Expr.Compare (left := (PySem.Expr.Call (func := (PySem.Expr.Name "upward" ⟨426, 7, 426, 13⟩)) (args := [(PySem.Expr.Name "line" ⟨426, 14, 426, 18⟩), (PySem.Expr.Name "last" ⟨426, 20, 426, 24⟩)]) (keywords := []) (pos := ⟨426, 7, 426, 25⟩))) (ops := [PySem.CmpOp.NotEq]) (comparators := [ (PySem.Expr.BinOp (left := (PySem.Expr.Call (func := (PySem.Expr.Name "tuple" ⟨426, 29, 426, 34⟩)) (args := [ (PySem.Expr.Subscript (value := (PySem.Expr.Name "names" ⟨426, 35, 426, 40⟩)) (slice := (PySem.Expr.Slice (lower := none) (upper := none) (step := (some (PySem.Expr.UnaryOp (op := PySem.UnaryOp.USub) (operand := (PySem.Expr.Constant (PySem.Const.int 1) 0 ⟨426, 44, 426, 45⟩)) (pos := ⟨426, 43, 426, 45⟩)))) (pos := ⟨426, 41, 426, 45⟩))) (pos := ⟨426, 35, 426, 46⟩))]) (keywords := []) (pos := ⟨426, 29, 426, 47⟩))) (op := PySem.Operator.Add) (right := (PySem.Expr.Tuple [(PySem.Expr.Constant (PySem.Const.str "top") 0 ⟨426, 51, 426, 56⟩)] 0 ⟨426, 50, 426, 58⟩)) (pos := ⟨426, 29, 426, 58⟩))]) (pos := ⟨426, 7, 426, 58⟩)), (PySem.Expr.Compare (left := (PySem.Expr.Call (func := (PySem.Expr.Name "upward" ⟨426, 62, 426, 68⟩)) (args := [(PySem.Expr.Name "bush" ⟨426, 69, 426, 73⟩), (PySem.Expr.Name "last" ⟨426, 75, 426, 79⟩)]) (keywords := []) (pos := ⟨426, 62, 426, 80⟩))) (ops := [PySem.CmpOp.NotEq]) (comparators := [ (PySem.Expr.Tuple (elts := [ (PySem.Expr.Name "last" ⟨426, 85, 426, 89⟩), (PySem.Expr.Constant (PySem.Const.str "top") 0 ⟨426, 91, 426, 96⟩)]) (k := 0) (pos := ⟨426, 84, 426, 97⟩))]) (pos := ⟨426, 62, 426, 97⟩))]) (pos := ⟨426, 7, 426, 97⟩))) (body := [ (PySem.Stmt.Return (value := (some (PySem.Expr.Constant (PySem.Const.bool false) 0 ⟨427, 15, 427, 20⟩))) (pos := ⟨427, 8, 427, 20⟩))]) (orelse := []) (pos := ⟨426, 4, 427, 20⟩)), (PySem.Stmt.If (test := (PySem.Expr.BoolOp (op := PySem.BoolOp.Or) (values := [ (PySem.Expr.Compare (left := (PySem.Expr.Call (func := (PySem.Expr.Name "downward" ⟨428, 7, 428, 15⟩)) (args := [ (PySem.Expr.Name "line" ⟨428, 16, 428, 20⟩), (PySem.Expr.Constant (PySem.Const.str "a") 0 ⟨428, 22, 428, 25⟩)]) (keywords := []) (pos := ⟨428, 7, 428, 26⟩))) (ops := [PySem.CmpOp.NotEq]) (comparators := [ (PySem.Expr.Call (func := (PySem.Expr.Name "tuple" ⟨428, 30, 428, 35⟩)) (args := [(PySem.Expr.Name "names" ⟨428, 36, 428, 41⟩)]) (keywords := []) (pos := ⟨428, 30, 428, 42⟩))]) (pos := ⟨428, 7, 428, 42⟩)), (PySem.Expr.Compare (left := (PySem.Expr.Call (func := (PySem.Expr.Name "downward" ⟨428, 46, 428, 54⟩)) (args := [ (PySem.Expr.Name "bush" ⟨428, 55, 428, 59⟩), (PySem.Expr.Constant (PySem.Const.str "top") 0 ⟨428, 61, 428, 66⟩)]) (keywords := []) (pos := ⟨428, 46, 428, 67⟩))) (ops := [PySem.CmpOp.NotEq]) (comparators := [ (PySem.Expr.BinOp (left := (PySem.Expr.Tuple [(PySem.Expr.Constant (PySem.Const.str "top") 0 ⟨428, 72, 428, 77⟩)] 0 ⟨428, 71, 428, 79⟩)) (op := PySem.Operator.Add) (right := (PySem.Expr.Call (func := (PySem.Expr.Name "tuple" ⟨428, 82, 428, 87⟩)) (args := [(PySem.Expr.Name "names" ⟨428, 88, 428, 93⟩)]) (keywords := []) (pos := ⟨428, 82, 428, 94⟩))) (pos := ⟨428, 71, 428, 94⟩))]) (pos := ⟨428, 46, 428, 94⟩))]) (pos := ⟨428, 7, 428, 94⟩))) (body := [ (PySem.Stmt.Return (value := (some (PySem.Expr.Constant (PySem.Const.bool false) 0 ⟨429, 15, 429, 20⟩))) (pos := ⟨429, 8, 429, 20⟩))]) (orelse := []) (pos := ⟨428, 4, 429, 20⟩)), (PySem.Stmt.If (test := (PySem.Expr.BoolOp (op := PySem.BoolOp.Or) (values := [ (PySem.Expr.Compare (left := (PySem.Expr.Call (func := (PySem.Expr.Name "common" ⟨430, 7, 430, 13⟩)) (args := [ (PySem.Expr.Name "line" ⟨430, 14, 430, 18⟩), (PySem.Expr.Constant (PySem.Const.str "a") 0 ⟨430, 20, 430, 23⟩), (PySem.Expr.Name "last" ⟨430, 25, 430, 29⟩)]) (keywords := []) (pos := ⟨430, 7, 430, 30⟩))) (ops := [PySem.CmpOp.NotEq]) (comparators := [(PySem.Expr.Constant (PySem.Const.str "a") 0 ⟨430, 34, 430, 37⟩)]) (pos := ⟨430, 7, 430, 37⟩)), (PySem.Expr.Compare (left := (PySem.Expr.Call (func := (PySem.Expr.Name "common" ⟨430, 41, 430, 47⟩)) (args := [ (PySem.Expr.Name "bush" ⟨430, 48, 430, 52⟩), (PySem.Expr.Constant (PySem.Const.str "a") 0 ⟨430, 54, 430, 57⟩), (PySem.Expr.Name "last" ⟨430, 59, 430, 63⟩)]) (keywords := []) (pos := ⟨430, 41, 430, 64⟩))) (ops := [PySem.CmpOp.NotEq]) (comparators := [ (PySem.Expr.IfExp (test := (PySem.Expr.Compare (left := (PySem.Expr.Name "many" ⟨430, 76, 430, 80⟩)) (ops := [PySem.CmpOp.Eq]) (comparators := [(PySem.Expr.Constant (PySem.Const.int 1) 0 ⟨430, 84, 430, 85⟩)]) (pos := ⟨430, 76, 430, 85⟩))) (body := (PySem.Expr.Constant (PySem.Const.str "a") 0 ⟨430, 69, 430, 72⟩)) (orelse := (PySem.Expr.Constant (PySem.Const.str "top") 0 ⟨430, 91, 430, 96⟩)) (pos := ⟨430, 69, 430, 96⟩))]) (pos := ⟨430, 41, 430, 97⟩))]) (pos := ⟨430, 7, 430, 97⟩))) (body := [ (PySem.Stmt.Return (value := (some (PySem.Expr.Constant (PySem.Const.bool false) 0 ⟨431, 15, 431, 20⟩))) (pos := ⟨431, 8, 431, 20⟩))]) (orelse := []) (pos := ⟨430, 4, 431, 20⟩)), (PySem.Stmt.If (test := (PySem.Expr.BoolOp (op := PySem.BoolOp.Or) (values := [ (PySem.Expr.Compare (left := (PySem.Expr.Call (func := (PySem.Expr.Name "joined" ⟨432, 7, 432, 13⟩)) (args := [ (PySem.Expr.Name "line" ⟨432, 14, 432, 18⟩), (PySem.Expr.Name "last" ⟨432, 20, 432, 24⟩), (PySem.Expr.Constant (PySem.Const.str "a") 0 ⟨432, 26, 432, 29⟩)]) (keywords := []) (pos := ⟨432, 7, 432, 30⟩))) (ops := [PySem.CmpOp.NotEq]) (comparators := [(PySem.Expr.Constant (PySem.Const.str "a") 0 ⟨432, 34, 432, 37⟩)]) (pos := ⟨432, 7, 432, 37⟩)), (PySem.Expr.Compare (left := (PySem.Expr.Call (func := (PySem.Expr.Name "joined" ⟨432, 41, 432, 47⟩)) (args := [ (PySem.Expr.Name "bush" ⟨432, 48, 432, 52⟩), (PySem.Expr.Name "last" ⟨432, 54, 432, 58⟩), (PySem.Expr.Constant (PySem.Const.str "none") 0 ⟨432, 60, 432, 66⟩)]) (keywords := []) (pos := ⟨432, 41, 432, 67⟩))) (ops := [PySem.CmpOp.NotEq]) (comparators := [(PySem.Expr.Name "last" ⟨432, 71, 432, 75⟩)]) (pos := ⟨432, 41, 432, 75⟩)), (PySem.Expr.Compare (left := (PySem.Expr.Call (func := (PySem.Expr.Name "joined" ⟨432, 79, 432, 85⟩)) (args := [ (PySem.Expr.Name "bush" ⟨432, 86, 432, 90⟩), (PySem.Expr.Name "last" ⟨432, 92, 432, 96⟩), (PySem.Expr.Constant (PySem.Const.str "num") 0 ⟨432, 98, 432, 103⟩)]) (keywords := []) (pos := ⟨432, 79, 432, 104⟩))) (ops := [PySem.CmpOp.NotEq]) (comparators := [(PySem.Expr.Constant (PySem.Const.str "odd") 0 ⟨432, 108, 432, 113⟩)]) (pos := ⟨432, 79, 432, 113⟩))]) (pos := ⟨432, 7, 432, 113⟩))) (body := [ (PySem.Stmt.Return (value := (some (PySem.Expr.Constant (PySem.Const.bool false) 0 ⟨433, 15, 433, 20⟩))) (pos := ⟨433, 8, 433, 20⟩))]) (orelse := []) (pos := ⟨432, 4, 433, 20⟩)), (PySem.Stmt.If (test := (PySem.Expr.BoolOp (op := PySem.BoolOp.Or) (values := [ (PySem.Expr.UnaryOp (op := PySem.UnaryOp.Not) (operand := (PySem.Expr.Call (func := (PySem.Expr.Name "fits" ⟨434, 11, 434, 15⟩)) (args := [ (PySem.Expr.Name "line" ⟨434, 16, 434, 20⟩), (PySem.Expr.Name "last" ⟨434, 22, 434, 26⟩), (PySem.Expr.Constant (PySem.Const.str "a") 0 ⟨434, 28, 434, 31⟩)]) (keywords := []) (pos := ⟨434, 11, 434, 32⟩))) (pos := ⟨434, 7, 434, 32⟩)), (PySem.Expr.Compare (left := (PySem.Expr.Call (func := (PySem.Expr.Name "fits" ⟨434, 36, 434, 40⟩)) (args := [ (PySem.Expr.Name "line" ⟨434, 41, 434, 45⟩), (PySem.Expr.Constant (PySem.Const.str "a") 0 ⟨434, 47, 434, 50⟩), (PySem.Expr.Name "last" ⟨434, 52, 434, 56⟩)]) (keywords := []) (pos := ⟨434, 36, 434, 57⟩))) (ops := [PySem.CmpOp.NotEq]) (comparators := [ (PySem.Expr.Compare (left := (PySem.Expr.Name "many" ⟨434, 62, 434, 66⟩)) (ops := [PySem.CmpOp.Eq]) (comparators := [(PySem.Expr.Constant (PySem.Const.int 1) 0 ⟨434, 70, 434, 71⟩)]) (pos := ⟨434, 62, 434, 71⟩))]) (pos := ⟨434, 36, 434, 72⟩)), (PySem.Expr.Call (func := (PySem.Expr.Name "fits" ⟨434, 76, 434, 80⟩)) (args := [ (PySem.Expr.Name "line" ⟨434, 81, 434, 85⟩), (PySem.Expr.Constant (PySem.Const.str "num") 0 ⟨434, 87, 434, 92⟩), (PySem.Expr.Constant (PySem.Const.str "top") 0 ⟨434, 94, 434, 99⟩)]) (keywords := []) (pos := ⟨434, 76, 434, 100⟩))]) (pos := ⟨434, 7, 434, 100⟩))) (body := [ (PySem.Stmt.Return (value := (some (PySem.Expr.Constant (PySem.Const.bool false) 0 ⟨435, 15, 435, 20⟩))) (pos := ⟨435, 8, 435, 20⟩))]) (orelse := []) (pos := ⟨434, 4, 435, 20⟩)), (PySem.Stmt.Assign (targets := [(PySem.Expr.Name "one" ⟨436, 4, 436, 7⟩)]) (value := (PySem.Expr.Tuple (elts := [ (PySem.Expr.Constant (PySem.Const.str "ma") 0 ⟨436, 11, 436, 15⟩), (PySem.Expr.Tuple [(PySem.Expr.Constant (PySem.Const.str "num") 0 ⟨436, 18, 436, 23⟩)] 0 ⟨436, 17, 436, 25⟩), (PySem.Expr.Constant (PySem.Const.str "a") 0 ⟨436, 27, 436, 30⟩), (PySem.Expr.Tuple (elts := [ (PySem.Expr.Tuple [(PySem.Expr.Constant (PySem.Const.str "none") 0 ⟨436, 34, 436, 40⟩)] 0 ⟨436, 33, 436, 42⟩), (PySem.Expr.Tuple [(PySem.Expr.Constant (PySem.Const.str "give") 0 ⟨436, 45, 436, 51⟩)] 0 ⟨436, 44, 436, 53⟩)]) (k := 0) (pos := ⟨436, 32, 436, 54⟩)), (PySem.Expr.Tuple [] 0 ⟨436, 56, 436, 58⟩)]) (k := 0) (pos := ⟨436, 10, 436, 59⟩))) (pos := ⟨436, 4, 436, 59⟩)), (PySem.Stmt.Assign (targets := [(PySem.Expr.Name "house" ⟨437, 4, 437, 9⟩)]) (value := (PySem.Expr.Call (func := (PySem.Expr.Name "House" ⟨437, 12, 437, 17⟩)) (args := [ (PySem.Expr.Tuple (elts := [ (PySem.Expr.Tuple (elts := [ (PySem.Expr.Constant (PySem.Const.str "a") 0 ⟨437, 20, 437, 23⟩), (PySem.Expr.Constant (PySem.Const.str "top") 0 ⟨437, 25, 437, 30⟩), (PySem.Expr.Tuple (elts := [ (PySem.Expr.Tuple (elts := [ (PySem.Expr.Constant (PySem.Const.str "x") 0 ⟨437, 34, 437, 37⟩), (PySem.Expr.Constant (PySem.Const.str "num") 0 ⟨437, 39, 437, 44⟩)]) (k := 0) (pos := ⟨437, 33, 437, 45⟩))]) (k := 0) (pos := ⟨437, 32, 437, 47⟩)), (PySem.Expr.Tuple [(PySem.Expr.Name "one" ⟨437, 50, 437, 53⟩)] 0 ⟨437, 49, 437, 55⟩)]) (k := 0) (pos := ⟨437, 19, 437, 56⟩)), (PySem.Expr.Tuple (elts := [ (PySem.Expr.Constant (PySem.Const.str "b") 0 ⟨437, 59, 437, 62⟩), (PySem.Expr.Constant (PySem.Const.str "a") 0 ⟨437, 64, 437, 67⟩), (PySem.Expr.Tuple (elts := [ (PySem.Expr.Tuple (elts := [ (PySem.Expr.Constant (PySem.Const.str "y") 0 ⟨437, 71, 437, 74⟩), (PySem.Expr.Constant (PySem.Const.str "a") 0 ⟨437, 76, 437, 79⟩)]) (k := 0) (pos := ⟨437, 70, 437, 80⟩))]) (k := 0) (pos := ⟨437, 69, 437, 82⟩)), (PySem.Expr.Tuple [] 0 ⟨437, 84, 437, 86⟩)]) (k := 0) (pos := ⟨437, 58, 437, 87⟩)), (PySem.Expr.Tuple (elts := [ (PySem.Expr.Constant (PySem.Const.str "c") 0 ⟨437, 90, 437, 93⟩), (PySem.Expr.Constant (PySem.Const.str "b") 0 ⟨437, 95, 437, 98⟩), (PySem.Expr.Tuple [] 0 ⟨437, 100, 437, 102⟩), (PySem.Expr.Tuple [(PySem.Expr.Name "one" ⟨437, 105, 437, 108⟩)] 0 ⟨437, 104, 437, 110⟩)]) (k := 0) (pos := ⟨437, 89, 437, 111⟩))]) (k := 0) (pos := ⟨437, 18, 437, 112⟩))]) (keywords := []) (pos := ⟨437, 12, 437, 113⟩))) (pos := ⟨437, 4, 437, 113⟩)), (PySem.Stmt.If (test := (PySem.Expr.BoolOp (op := PySem.BoolOp.Or) (values := [ (PySem.Expr.Compare (left := (PySem.Expr.Call (func := (PySem.Expr.Name "fields_of" ⟨438, 7, 438, 16⟩)) (args := [ (PySem.Expr.Name "house" ⟨438, 17, 438, 22⟩), (PySem.Expr.Constant (PySem.Const.str "c") 0 ⟨438, 24, 438, 27⟩)]) (keywords := []) (pos := ⟨438, 7, 438, 28⟩))) (ops := [PySem.CmpOp.NotEq]) (comparators := [ (PySem.Expr.Tuple (elts := [ (PySem.Expr.Tuple (elts := [ (PySem.Expr.Constant (PySem.Const.str "x") 0 ⟨438, 34, 438, 37⟩), (PySem.Expr.Constant (PySem.Const.str "num") 0 ⟨438, 39, 438, 44⟩)]) (k := 0) (pos := ⟨438, 33, 438, 45⟩)), (PySem.Expr.Tuple (elts := [ (PySem.Expr.Constant (PySem.Const.str "y") 0 ⟨438, 48, 438, 51⟩), (PySem.Expr.Constant (PySem.Const.str "a") 0 ⟨438, 53, 438, 56⟩)]) (k := 0) (pos := ⟨438, 47, 438, 57⟩))]) (k := 0) (pos := ⟨438, 32, 438, 58⟩))]) (pos := ⟨438, 7, 438, 58⟩)), (PySem.Expr.Compare (left := (PySem.Expr.Call (func := (PySem.Expr.Name "method_of" ⟨438, 62, 438, 71⟩)) (args := [ (PySem.Expr.Name "house" ⟨438, 72, 438, 77⟩), (PySem.Expr.Constant (PySem.Const.str "b") 0 ⟨438, 79, 438, 82⟩), (PySem.Expr.Constant (PySem.Const.str "ma") 0 ⟨438, 84, 438, 88⟩)]) (keywords := []) (pos := ⟨438, 62, 438, 89⟩))) (ops := [PySem.CmpOp.NotEq]) (comparators := [ (PySem.Expr.Tuple (elts := [ (PySem.Expr.Constant (PySem.Const.str "a") 0 ⟨438, 94, 438, 97⟩), (PySem.Expr.Constant (PySem.Const.int 0) 0 ⟨438, 99, 438, 100⟩)]) (k := 0) (pos := ⟨438, 93, 438, 101⟩))]) (pos := ⟨438, 62, 438, 101⟩))]) (pos := ⟨438, 7, 438, 101⟩))) (body := [ (PySem.Stmt.Return (value := (some (PySem.Expr.Constant (PySem.Const.bool false) 0 ⟨439, 15, 439, 20⟩))) (pos := ⟨439, 8, 439, 20⟩))]) (orelse := []) (pos := ⟨438, 4, 439, 20⟩)), (PySem.Stmt.If (test := (PySem.Expr.BoolOp (op := PySem.BoolOp.Or) (values := [ (PySem.Expr.Compare (left := (PySem.Expr.Call (func := (PySem.Expr.Name "methods_of" ⟨440, 7, 440, 17⟩)) (args := [ (PySem.Expr.Name "house" ⟨440, 18, 440, 23⟩), (PySem.Expr.Constant (PySem.Const.str "c") 0 ⟨440, 25, 440, 28⟩)]) (keywords := []) (pos := ⟨440, 7, 440, 29⟩))) (ops := [PySem.CmpOp.NotEq]) (comparators := [ (PySem.Expr.Tuple (elts := [ (PySem.Expr.Tuple (elts := [ (PySem.Expr.Constant (PySem.Const.str "ma") 0 ⟨440, 35, 440, 39⟩), (PySem.Expr.Constant (PySem.Const.str "c") 0 ⟨440, 41, 440, 44⟩)]) (k := 0) (pos := ⟨440, 34, 440, 45⟩))]) (k := 0) (pos := ⟨440, 33, 440, 47⟩))]) (pos := ⟨440, 7, 440, 47⟩)), (PySem.Expr.Compare (left := (PySem.Expr.Call (func := (PySem.Expr.Name "overrides" ⟨440, 51, 440, 60⟩)) (args := [(PySem.Expr.Name "house" ⟨440, 61, 440, 66⟩)]) (keywords := []) (pos := ⟨440, 51, 440, 67⟩))) (ops := [PySem.CmpOp.NotEq]) (comparators := [ (PySem.Expr.List (elts := [ (PySem.Expr.Tuple (elts := [ (PySem.Expr.Constant (PySem.Const.str "c") 0 ⟨440, 73, 440, 76⟩), (PySem.Expr.Constant (PySem.Const.str "ma") 0 ⟨440, 78, 440, 82⟩), (PySem.Expr.Constant (PySem.Const.str "a") 0 ⟨440, 84, 440, 87⟩)]) (k := 0) (pos := ⟨440, 72, 440, 88⟩))]) (pos := ⟨440, 71, 440, 89⟩))]) (pos := ⟨440, 51, 440, 89⟩))]) (pos := ⟨440, 7, 440, 89⟩))) (body := [ (PySem.Stmt.Return (value := (some (PySem.Expr.Constant (PySem.Const.bool false) 0 ⟨441, 15, 441, 20⟩))) (pos := ⟨441, 8, 441, 20⟩))]) (orelse := []) (pos := ⟨440, 4, 441, 20⟩)), (PySem.Stmt.Assign (targets := [(PySem.Expr.Name "lines" ⟨442, 4, 442, 9⟩)]) (value := (PySem.Expr.List (elts := [ (PySem.Expr.Constant (PySem.Const.str "class a under top") 0 ⟨442, 13, 442, 32⟩), (PySem.Expr.Constant (PySem.Const.str "field x num") 0 ⟨442, 34, 442, 47⟩), (PySem.Expr.Constant (PySem.Const.str "method ma a num") 0 ⟨442, 49, 442, 66⟩), (PySem.Expr.Constant (PySem.Const.str "none") 0 ⟨442, 68, 442, 74⟩), (PySem.Expr.Constant (PySem.Const.str "give") 0 ⟨442, 76, 442, 82⟩), (PySem.Expr.Constant (PySem.Const.str "class b under a") 0 ⟨442, 84, 442, 101⟩), (PySem.Expr.Constant (PySem.Const.str "field y a") 0 ⟨442, 103, 442, 114⟩)]) (pos := ⟨442, 12, 442, 115⟩))) (pos := ⟨442, 4, 442, 115⟩)), (PySem.Stmt.Assign (targets := [(PySem.Expr.Name "lines" ⟨443, 4, 443, 9⟩)]) (value := (PySem.Expr.BinOp (left := (PySem.Expr.Name "lines" ⟨443, 12, 443, 17⟩)) (op := PySem.Operator.Add) (right := (PySem.Expr.List (elts := [ (PySem.Expr.Constant (PySem.Const.str "class c under b") 0 ⟨443, 21, 443, 38⟩), (PySem.Expr.Constant (PySem.Const.str "method ma a num") 0 ⟨443, 40, 443, 57⟩), (PySem.Expr.Constant (PySem.Const.str "none") 0 ⟨443, 59, 443, 65⟩), (PySem.Expr.Constant (PySem.Const.str "give") 0 ⟨443, 67, 443, 73⟩)]) (pos := ⟨443, 20, 443, 74⟩))) (pos := ⟨443, 12, 443, 74⟩))) (pos := ⟨443, 4, 443, 74⟩)), (PySem.Stmt.Return (value := (some (PySem.Expr.BoolOp (op := PySem.BoolOp.And) (values := [ (PySem.Expr.Compare (left := (PySem.Expr.Call (func := (PySem.Expr.Name "write" ⟨444, 11, 444, 16⟩)) (args := [(PySem.Expr.Name "house" ⟨444, 17, 444, 22⟩)]) (keywords := []) (pos := ⟨444, 11, 444, 23⟩))) (ops := [PySem.CmpOp.Eq]) (comparators := [ (PySem.Expr.Call (func := (PySem.Expr.Attribute (value := (PySem.Expr.Constant (PySem.Const.str "\n") 0 ⟨444, 27, 444, 31⟩)) (attr := "join") (pos := ⟨444, 27, 444, 36⟩))) (args := [(PySem.Expr.Name "lines" ⟨444, 37, 444, 42⟩)]) (keywords := []) (pos := ⟨444, 27, 444, 43⟩))]) (pos := ⟨444, 11, 444, 43⟩)), (PySem.Expr.Compare (left := (PySem.Expr.Call (func := (PySem.Expr.Name "read" ⟨444, 48, 444, 52⟩)) (args := [ (PySem.Expr.BinOp (left := (PySem.Expr.Constant (PySem.Const.str " ") 0 ⟨444, 53, 444, 56⟩)) (op := PySem.Operator.Add) (right := (PySem.Expr.Call (func := (PySem.Expr.Attribute (value := (PySem.Expr.Constant (PySem.Const.str "  \n ") 0 ⟨444, 59, 444, 66⟩)) (attr := "join") (pos := ⟨444, 59, 444, 71⟩))) (args := [(PySem.Expr.Name "lines" ⟨444, 72, 444, 77⟩)]) (keywords := []) (pos := ⟨444, 59, 444, 78⟩))) (pos := ⟨444, 53, 444, 78⟩))]) (keywords := []) (pos := ⟨444, 48, 444, 79⟩))) (ops := [PySem.CmpOp.Eq]) (comparators := [(PySem.Expr.Name "house" ⟨444, 83, 444, 88⟩)]) (pos := ⟨444, 48, 444, 88⟩))]) (pos := ⟨444, 11, 444, 88⟩)))) (pos := ⟨444, 4, 444, 88⟩))]) (decorator_list := []) (returns := none) (type_params := []) (scope := { kind := PySem.ScopeKind.function, names := [ (PySem.Str.ofString "script", PySem.NameKind.local), (PySem.Str.ofString "row", PySem.NameKind.local), (PySem.Str.ofString "many", PySem.NameKind.local), (PySem.Str.ofString "names", PySem.NameKind.cell), (PySem.Str.ofString "line", PySem.NameKind.local), (PySem.Str.ofString "bush", PySem.NameKind.local), (PySem.Str.ofString "last", PySem.NameKind.local), (PySem.Str.ofString "one", PySem.NameKind.local), (PySem.Str.ofString "house", PySem.NameKind.local), (PySem.Str.ofString "lines", PySem.NameKind.local), (PySem.Str.ofString "_law_taken", PySem.NameKind.globalImplicit), (PySem.Str.ofString "House", PySem.NameKind.globalImplicit), (PySem.Str.ofString "tuple", PySem.NameKind.globalImplicit), (PySem.Str.ofString "range", PySem.NameKind.globalImplicit), (PySem.Str.ofString "upward", PySem.NameKind.globalImplicit), (PySem.Str.ofString "downward", PySem.NameKind.globalImplicit), (PySem.Str.ofString "common", PySem.NameKind.globalImplicit), (PySem.Str.ofString "joined", PySem.NameKind.globalImplicit), (PySem.Str.ofString "fits", PySem.NameKind.globalImplicit), (PySem.Str.ofString "fields_of", PySem.NameKind.globalImplicit), (PySem.Str.ofString "method_of", PySem.NameKind.globalImplicit), (PySem.Str.ofString "methods_of", PySem.NameKind.globalImplicit), (PySem.Str.ofString "overrides", PySem.NameKind.globalImplicit), (PySem.Str.ofString "write", PySem.NameKind.globalImplicit), (PySem.Str.ofString "read", PySem.NameKind.globalImplicit)], isGenerator := false, isCoroutine := false, more := [ (PySem.Str.ofString "fast", (PySem.Const.str "script")), (PySem.Str.ofString "fast", (PySem.Const.str "row")), (PySem.Str.ofString "fast", (PySem.Const.str "many")), (PySem.Str.ofString "fast", (PySem.Const.str "names")), (PySem.Str.ofString "fast", (PySem.Const.str "at")), (PySem.Str.ofString "fast", (PySem.Const.str "line")), (PySem.Str.ofString "fast", (PySem.Const.str "name")), (PySem.Str.ofString "fast", (PySem.Const.str "bush")), (PySem.Str.ofString "fast", (PySem.Const.str "last")), (PySem.Str.ofString "fast", (PySem.Const.str "one")), (PySem.Str.ofString "fast", (PySem.Const.str "house")), (PySem.Str.ofString "fast", (PySem.Const.str "lines"))] : PySem.Scope }) (tscope := none) (bind := "law") (pos := ⟨419, 0, 444, 88⟩))
def c_TOP : MV := (.tup [(.str "top"), .non, (.tup []), (.tup [])])
def c_LETTERS : MV := (.str "abcdefghijklmnopqrstuvwxyz")
def tb_PARTS : List (Str × MV) := [("push", (.tup [(.str "number")])), ("none", (.tup [])), ("take", (.tup [(.str "local")])), ("keep", (.tup [(.str "local")])), ("add", (.tup [])), ("less", (.tup [])), ("same", (.tup [])), ("new", (.tup [(.str "class")])), ("cast", (.tup [(.str "class")])), ("is", (.tup [(.str "class")])), ("get", (.tup [(.str "class"), (.str "field")])), ("put", (.tup [(.str "class"), (.str "field")])), ("call", (.tup [(.str "class"), (.str "method")])), ("go", (.tup [(.str "step")])), ("if", (.tup [(.str "step")])), ("give", (.tup [])), ("throw", (.tup [])), ("enter", (.tup [])), ("leave", (.tup [])), ("copy", (.tup [])), ("drop", (.tup [])), ("print", (.tup []))]
def c_LAST : MV := (.tup [(.str "give"), (.str "go"), (.str "throw")])
def c_TAKEN_NAMES : MV := (.tup [(.str "top"), (.str "num"), (.str "none"), (.str "odd"), (.str "unset")])
def c_LOOSE_KINDS : MV := (.tup [(.str "unset"), (.str "odd"), (.str "num"), (.str "none")])
def tb_FORMS : List (Str × MV) := [("class", (.tup [(.str "word"), (.str "under"), (.str "word")])), ("field", (.tup [(.str "word"), (.str "word")])), ("method", (.tup [(.str "word"), (.str "word")])), ("catch", (.tup [(.str "step"), (.str "end"), (.str "word"), (.str "step")]))]
def tb_GREATEST : List (Str × MV) := [("number", (.int 15)), ("local", (.int 3)), ("more", (.int 3)), ("step", (.int 19)), ("end", (.int 20))]
abbrev n_names_of : List Str := ["classes", "row"]
theorem sc_names_of : FnScope n_names_of ["classes"] (defScope s_names_of) := ⟨rfl, rfl, rfl, by decide +kernel, rfl, by decide +kernel, by decide +kernel⟩
abbrev n_is_class : List Str := ["classes", "name"]
theorem sc_is_class : FnScope n_is_class ["classes", "name"] (defScope s_is_class) := ⟨rfl, rfl, rfl, by decide +kernel, rfl, by decide +kernel, by decide +kernel⟩
abbrev n_class_of : List Str := ["classes", "name", "row"]
theorem sc_class_of : FnScope n_class_of ["classes", "name"] (defScope s_class_of) := ⟨rfl, rfl, rfl, by decide +kernel, rfl, by decide +kernel, by decide +kernel⟩
abbrev n_line_up : List Str := ["classes", "name", "line"]
theorem sc_line_up : FnScope n_line_up ["classes", "name"] (defScope s_line_up) := ⟨rfl, rfl, rfl, by decide +kernel, rfl, by decide +kernel, by decide +kernel⟩
abbrev n_line_down : List Str := ["classes", "name", "below"]
theorem sc_line_down : FnScope n_line_down ["classes", "name"] (defScope s_line_down) := ⟨rfl, rfl, rfl, by decide +kernel, rfl, by decide +kernel, by decide +kernel⟩
abbrev n_fields_up : List Str := ["classes", "name", "pairs", "upper"]
theorem sc_fields_up : FnScope n_fields_up ["classes", "name"] (defScope s_fields_up) := ⟨rfl, rfl, rfl, by decide +kernel, rfl, by decide +kernel, by decide +kernel⟩
abbrev n_field_kind : List Str := ["classes", "name", "word", "own", "kind"]
theorem sc_field_kind : FnScope n_field_kind ["classes", "name", "word"] (defScope s_field_kind) := ⟨rfl, rfl, rfl, by decide +kernel, rfl, by decide +kernel, by decide +kernel⟩
abbrev n_nearest : List Str := ["classes", "name", "word", "upper", "place", "method"]
theorem sc_nearest : FnScope n_nearest ["classes", "name", "word"] (defScope s_nearest) := ⟨rfl, rfl, rfl, by decide +kernel, rfl, by decide +kernel, by decide +kernel⟩
abbrev n_method_at : List Str := ["classes", "name", "place"]
theorem sc_method_at : FnScope n_method_at ["classes", "name", "place"] (defScope s_method_at) := ⟨rfl, rfl, rfl, by decide +kernel, rfl, by decide +kernel, by decide +kernel⟩
abbrev n_nearest_method : List Str := ["classes", "name", "word", "upper", "place"]
theorem sc_nearest_method : FnScope n_nearest_method ["classes", "name", "word"] (defScope s_nearest_method) := ⟨rfl, rfl, rfl, by decide +kernel, rfl, by decide +kernel, by decide +kernel⟩
abbrev n_is_word : List Str := ["value", "letter"]
theorem sc_is_word : FnScope n_is_word ["value"] (defScope s_is_word) := ⟨rfl, rfl, rfl, by decide +kernel, rfl, by decide +kernel, by decide +kernel⟩
abbrev n_is_number : List Str := ["value", "most"]
theorem sc_is_number : FnScope n_is_number ["value", "most"] (defScope s_is_number) := ⟨rfl, rfl, rfl, by decide +kernel, rfl, by decide +kernel, by decide +kernel⟩
abbrev n_is_tuple : List Str := ["value", "least", "most"]
theorem sc_is_tuple : FnScope n_is_tuple ["value", "least", "most"] (defScope s_is_tuple) := ⟨rfl, rfl, rfl, by decide +kernel, rfl, by decide +kernel, by decide +kernel⟩
abbrev n_can_be_part : List Str := ["classes", "many", "part", "step", "value"]
theorem sc_can_be_part : FnScope n_can_be_part ["classes", "many", "part", "step", "value"] (defScope s_can_be_part) := ⟨rfl, rfl, rfl, by decide +kernel, rfl, by decide +kernel, by decide +kernel⟩
abbrev n_is_step : List Str := ["classes", "many", "step", "parts", "part", "value"]
theorem sc_is_step : FnScope n_is_step ["classes", "many", "step"] (defScope s_is_step) := ⟨rfl, rfl, rfl, by decide +kernel, rfl, by decide +kernel, by decide +kernel⟩
abbrev n_bad_step : List Str := ["classes", "code", "many", "index", "step"]
theorem sc_bad_step : FnScope n_bad_step ["classes", "code"] (defScope s_bad_step) := ⟨rfl, rfl, rfl, by decide +kernel, rfl, by decide +kernel, by decide +kernel⟩
abbrev n_is_handler : List Str := ["classes", "many", "row"]
theorem sc_is_handler : FnScope n_is_handler ["classes", "many", "row"] (defScope s_is_handler) := ⟨rfl, rfl, rfl, by decide +kernel, rfl, by decide +kernel, by decide +kernel⟩
abbrev n_bad_handler : List Str := ["classes", "many", "handlers", "index", "row"]
theorem sc_bad_handler : FnScope n_bad_handler ["classes", "many", "handlers"] (defScope s_bad_handler) := ⟨rfl, rfl, rfl, by decide +kernel, rfl, by decide +kernel, by decide +kernel⟩
abbrev n_is_new_class : List Str := ["earlier", "row"]
theorem sc_is_new_class : FnScope n_is_new_class ["earlier", "row"] (defScope s_is_new_class) := ⟨rfl, rfl, rfl, by decide +kernel, rfl, by decide +kernel, by decide +kernel⟩
abbrev n_check_names : List Str := ["classes", "earlier", "index", "row"]
theorem sc_check_names : FnScope n_check_names ["classes"] (defScope s_check_names) := ⟨rfl, rfl, rfl, by decide +kernel, rfl, by decide +kernel, by decide +kernel⟩
abbrev n_is_told_kind : List Str := ["classes", "value"]
theorem sc_is_told_kind : FnScope n_is_told_kind ["classes", "value"] (defScope s_is_told_kind) := ⟨rfl, rfl, rfl, by decide +kernel, rfl, by decide +kernel, by decide +kernel⟩
abbrev n_are_fields : List Str := ["classes", "upper", "fields", "words", "pair", "word", "_"]
theorem sc_are_fields : FnScope n_are_fields ["classes", "upper", "fields"] (defScope s_are_fields) := ⟨rfl, rfl, rfl, by decide +kernel, rfl, by decide +kernel, by decide +kernel⟩
abbrev n_is_method : List Str := ["classes", "upper", "words", "method", "parts", "word", "ins", "out", "kind"]
theorem sc_is_method : FnScope n_is_method ["classes", "upper", "words", "method", "parts"] (defScope s_is_method) := ⟨rfl, rfl, rfl, by decide +kernel, rfl, by decide +kernel, by decide +kernel⟩
abbrev n_check_methods : List Str := ["classes", "index", "parts", "_", "upper", "methods", "words", "place", "method"]
theorem sc_check_methods : FnScope n_check_methods ["classes", "index", "parts"] (defScope s_check_methods) := ⟨rfl, rfl, rfl, by decide +kernel, rfl, by decide +kernel, by decide +kernel⟩
abbrev n_check_code : List Str := ["classes", "index", "place", "code", "handlers", "step", "row"]
theorem sc_check_code : FnScope n_check_code ["classes", "index", "place"] (defScope s_check_code) := ⟨rfl, rfl, rfl, by decide +kernel, rfl, by decide +kernel, by decide +kernel⟩
abbrev n_check_shells : List Str := ["classes", "parts", "index", "row"]
theorem sc_check_shells : FnScope n_check_shells ["classes", "parts"] (defScope s_check_shells) := ⟨rfl, rfl, rfl, by decide +kernel, rfl, by decide +kernel, by decide +kernel⟩
abbrev n_check_classes : List Str := ["classes", "index", "row", "place"]
theorem sc_check_classes : FnScope n_check_classes ["classes"] (defScope s_check_classes) := ⟨rfl, rfl, rfl, by decide +kernel, rfl, by decide +kernel, by decide +kernel⟩
abbrev n_House___init__ : List Str := ["self", "classes"]
theorem sc_House___init__ : FnScope n_House___init__ ["self", "classes"] (defScope s_House___init__) := ⟨rfl, rfl, rfl, by decide +kernel, rfl, by decide +kernel, by decide +kernel⟩
abbrev n_House_classes : List Str := ["self"]
theorem sc_House_classes : FnScope n_House_classes ["self"] (defScope s_House_classes) := ⟨rfl, rfl, rfl, by decide +kernel, rfl, by decide +kernel, by decide +kernel⟩
abbrev n_House___eq__ : List Str := ["self", "other"]
theorem sc_House___eq__ : FnScope n_House___eq__ ["self", "other"] (defScope s_House___eq__) := ⟨rfl, rfl, rfl, by decide +kernel, rfl, by decide +kernel, by decide +kernel⟩
abbrev n_is_kind : List Str := ["classes", "value"]
theorem sc_is_kind : FnScope n_is_kind ["classes", "value"] (defScope s_is_kind) := ⟨rfl, rfl, rfl, by decide +kernel, rfl, by decide +kernel, by decide +kernel⟩
abbrev n_does_fit : List Str := ["classes", "one", "other"]
theorem sc_does_fit : FnScope n_does_fit ["classes", "one", "other"] (defScope s_does_fit) := ⟨rfl, rfl, rfl, by decide +kernel, rfl, by decide +kernel, by decide +kernel⟩
abbrev n_first_common : List Str := ["classes", "one", "other", "line", "name"]
theorem sc_first_common : FnScope n_first_common ["classes", "one", "other"] (defScope s_first_common) := ⟨rfl, rfl, rfl, by decide +kernel, rfl, by decide +kernel, by decide +kernel⟩
abbrev n_join_of : List Str := ["classes", "one", "other"]
theorem sc_join_of : FnScope n_join_of ["classes", "one", "other"] (defScope s_join_of) := ⟨rfl, rfl, rfl, by decide +kernel, rfl, by decide +kernel, by decide +kernel⟩
abbrev n_check_house : List Str := ["house"]
theorem sc_check_house : FnScope n_check_house ["house"] (defScope s_check_house) := ⟨rfl, rfl, rfl, by decide +kernel, rfl, by decide +kernel, by decide +kernel⟩
abbrev n_check_name : List Str := ["house", "name"]
theorem sc_check_name : FnScope n_check_name ["house", "name"] (defScope s_check_name) := ⟨rfl, rfl, rfl, by decide +kernel, rfl, by decide +kernel, by decide +kernel⟩
abbrev n_check_kind : List Str := ["house", "kind"]
theorem sc_check_kind : FnScope n_check_kind ["house", "kind"] (defScope s_check_kind) := ⟨rfl, rfl, rfl, by decide +kernel, rfl, by decide +kernel, by decide +kernel⟩
abbrev n_check_word : List Str := ["house", "name", "word"]
theorem sc_check_word : FnScope n_check_word ["house", "name", "word"] (defScope s_check_word) := ⟨rfl, rfl, rfl, by decide +kernel, rfl, by decide +kernel, by decide +kernel⟩
abbrev n_upward : List Str := ["house", "name"]
theorem sc_upward : FnScope n_upward ["house", "name"] (defScope s_upward) := ⟨rfl, rfl, rfl, by decide +kernel, rfl, by decide +kernel, by decide +kernel⟩
abbrev n_downward : List Str := ["house", "name"]
theorem sc_downward : FnScope n_downward ["house", "name"] (defScope s_downward) := ⟨rfl, rfl, rfl, by decide +kernel, rfl, by decide +kernel, by decide +kernel⟩
abbrev n_common : List Str := ["house", "one", "other"]
theorem sc_common : FnScope n_common ["house", "one", "other"] (defScope s_common) := ⟨rfl, rfl, rfl, by decide +kernel, rfl, by decide +kernel, by decide +kernel⟩
abbrev n_fits : List Str := ["house", "one", "other"]
theorem sc_fits : FnScope n_fits ["house", "one", "other"] (defScope s_fits) := ⟨rfl, rfl, rfl, by decide +kernel, rfl, by decide +kernel, by decide +kernel⟩
abbrev n_joined : List Str := ["house", "one", "other"]
theorem sc_joined : FnScope n_joined ["house", "one", "other"] (defScope s_joined) := ⟨rfl, rfl, rfl, by decide +kernel, rfl, by decide +kernel, by decide +kernel⟩
abbrev n_fields_of : List Str := ["house", "name"]
theorem sc_fields_of : FnScope n_fields_of ["house", "name"] (defScope s_fields_of) := ⟨rfl, rfl, rfl, by decide +kernel, rfl, by decide +kernel, by decide +kernel⟩
abbrev n_method_of : List Str := ["house", "name", "word"]
theorem sc_method_of : FnScope n_method_of ["house", "name", "word"] (defScope s_method_of) := ⟨rfl, rfl, rfl, by decide +kernel, rfl, by decide +kernel, by decide +kernel⟩
abbrev n_methods_of : List Str := ["house", "name", "nearest_classes", "upper", "method"]
theorem sc_methods_of : FnScope n_methods_of ["house", "name"] (defScope s_methods_of) := ⟨rfl, rfl, rfl, by decide +kernel, rfl, by decide +kernel, by decide +kernel⟩
abbrev n_overrides : List Str := ["house", "found", "name", "upper", "_", "methods", "method", "seen"]
theorem sc_overrides : FnScope n_overrides ["house"] (defScope s_overrides) := ⟨rfl, rfl, rfl, by decide +kernel, rfl, by decide +kernel, by decide +kernel⟩
abbrev n_told : List Str := ["parts", "part"]
theorem sc_told : FnScope n_told (([] : List Str) ++ (["parts"] : List Str)) (defScope s_told) := ⟨rfl, rfl, rfl, by decide +kernel, rfl, by decide +kernel, by decide +kernel⟩
abbrev n_shell_lines : List Str := ["row", "name", "upper", "fields", "_", "pair"]
theorem sc_shell_lines : FnScope n_shell_lines ["row"] (defScope s_shell_lines) := ⟨rfl, rfl, rfl, by decide +kernel, rfl, by decide +kernel, by decide +kernel⟩
abbrev n_head_line : List Str := ["method", "word", "ins", "out"]
theorem sc_head_line : FnScope n_head_line ["method"] (defScope s_head_line) := ⟨rfl, rfl, rfl, by decide +kernel, rfl, by decide +kernel, by decide +kernel⟩
abbrev n_method_lines : List Str := ["method", "lines", "step", "row"]
theorem sc_method_lines : FnScope n_method_lines ["method"] (defScope s_method_lines) := ⟨rfl, rfl, rfl, by decide +kernel, rfl, by decide +kernel, by decide +kernel⟩
abbrev n_write : List Str := ["house", "lines", "row", "method"]
theorem sc_write : FnScope n_write ["house"] (defScope s_write) := ⟨rfl, rfl, rfl, by decide +kernel, rfl, by decide +kernel, by decide +kernel⟩
abbrev n_is_whole : List Str := ["methods"]
theorem sc_is_whole : FnScope n_is_whole ["methods"] (defScope s_is_whole) := ⟨rfl, rfl, rfl, by decide +kernel, rfl, by decide +kernel, by decide +kernel⟩
abbrev n_may_stand : List Str := ["rows", "first", "fields", "methods", "steps", "handlers"]
theorem sc_may_stand : FnScope n_may_stand ["rows", "first"] (defScope s_may_stand) := ⟨rfl, rfl, rfl, by decide +kernel, rfl, by decide +kernel, by decide +kernel⟩
abbrev n_form_of : List Str := ["words", "first", "ins"]
theorem sc_form_of : FnScope n_form_of ["words"] (defScope s_form_of) := ⟨rfl, rfl, rfl, by decide +kernel, rfl, by decide +kernel, by decide +kernel⟩
abbrev n_can_be : List Str := ["word", "part", "number"]
theorem sc_can_be : FnScope n_can_be ["word", "part"] (defScope s_can_be) := ⟨rfl, rfl, rfl, by decide +kernel, rfl, by decide +kernel, by decide +kernel⟩
abbrev n_bad_word : List Str := ["rows", "words", "form", "place", "part"]
theorem sc_bad_word : FnScope n_bad_word ["rows", "words"] (defScope s_bad_word) := ⟨rfl, rfl, rfl, by decide +kernel, rfl, by decide +kernel, by decide +kernel⟩
abbrev n_part_of : List Str := ["word", "part"]
theorem sc_part_of : FnScope n_part_of ["word", "part"] (defScope s_part_of) := ⟨rfl, rfl, rfl, by decide +kernel, rfl, by decide +kernel, by decide +kernel⟩
abbrev n_add_line : List Str := ["rows", "words", "first", "parts", "word", "part"]
theorem sc_add_line : FnScope n_add_line ["rows", "words"] (defScope s_add_line) := ⟨rfl, rfl, rfl, by decide +kernel, rfl, by decide +kernel, by decide +kernel⟩
abbrev n_method_made : List Str := ["method", "word", "ins", "out", "steps", "handlers"]
theorem sc_method_made : FnScope n_method_made ["method"] (defScope s_method_made) := ⟨rfl, rfl, rfl, by decide +kernel, rfl, by decide +kernel, by decide +kernel⟩
abbrev n_class_made : List Str := ["row", "name", "upper", "fields", "methods", "method"]
theorem sc_class_made : FnScope n_class_made ["row"] (defScope s_class_made) := ⟨rfl, rfl, rfl, by decide +kernel, rfl, by decide +kernel, by decide +kernel⟩
abbrev n_read : List Str := ["text", "rows", "lines", "line", "row", "words", "word"]
theorem sc_read : FnScope n_read ["text"] (defScope s_read) := ⟨rfl, rfl, rfl, by decide +kernel, rfl, by decide +kernel, by decide +kernel⟩
abbrev n__law_taken : List Str := ["row", "many", "cell", "found"]
theorem sc__law_taken : FnScope n__law_taken ["row", "many"] (defScope s__law_taken) := ⟨rfl, rfl, rfl, by decide +kernel, rfl, by decide +kernel, by decide +kernel⟩
abbrev n_law : List Str := ["script", "row", "many", "names", "line", "bush", "last", "one", "house", "lines", "at", "name"]
theorem sc_law : FnScope n_law ["script"] (defScope s_law) := ⟨rfl, rfl, rfl, by decide +kernel, rfl, by decide +kernel, by decide +kernel⟩
structure Txt (K : PySem.W.Frag) (mg : Str → Option Value) (w : World) where
  f_names_of : Addr
  d_names_of : FuncData
  F_names_of : Fun K "names_of" "names_of" s_names_of f_names_of d_names_of
  b_names_of : Binds K d_names_of ["classes"] []
  m_names_of : mg "names_of" = some (.ref f_names_of)
  f_is_class : Addr
  d_is_class : FuncData
  F_is_class : Fun K "is_class" "is_class" s_is_class f_is_class d_is_class
  b_is_class : Binds K d_is_class ["classes", "name"] []
  m_is_class : mg "is_class" = some (.ref f_is_class)
  f_class_of : Addr
  d_class_of : FuncData
  F_class_of : Fun K "class_of" "class_of" s_class_of f_class_of d_class_of
  b_class_of : Binds K d_class_of ["classes", "name"] []
  m_class_of : mg "class_of" = some (.ref f_class_of)
  f_line_up : Addr
  d_line_up : FuncData
  F_line_up : Fun K "line_up" "line_up" s_line_up f_line_up d_line_up
  b_line_up : Binds K d_line_up ["classes", "name"] []
  m_line_up : mg "line_up" = some (.ref f_line_up)
  f_line_down : Addr
  d_line_down : FuncData
  F_line_down : Fun K "line_down" "line_down" s_line_down f_line_down d_line_down
  b_line_down : Binds K d_line_down ["classes", "name"] []
  m_line_down : mg "line_down" = some (.ref f_line_down)
  f_fields_up : Addr
  d_fields_up : FuncData
  F_fields_up : Fun K "fields_up" "fields_up" s_fields_up f_fields_up d_fields_up
  b_fields_up : Binds K d_fields_up ["classes", "name"] []
  m_fields_up : mg "fields_up" = some (.ref f_fields_up)
  f_field_kind : Addr
  d_field_kind : FuncData
  F_field_kind : Fun K "field_kind" "field_kind" s_field_kind f_field_kind d_field_kind
  b_field_kind : Binds K d_field_kind ["classes", "name", "word"] []
  m_field_kind : mg "field_kind" = some (.ref f_field_kind)
  f_nearest : Addr
  d_nearest : FuncData
  F_nearest : Fun K "nearest" "nearest" s_nearest f_nearest d_nearest
  b_nearest : Binds K d_nearest ["classes", "name", "word"] []
  m_nearest : mg "nearest" = some (.ref f_nearest)
  f_method_at : Addr
  d_method_at : FuncData
  F_method_at : Fun K "method_at" "method_at" s_method_at f_method_at d_method_at
  b_method_at : Binds K d_method_at ["classes", "name", "place"] []
  m_method_at : mg "method_at" = some (.ref f_method_at)
  f_nearest_method : Addr
  d_nearest_method : FuncData
  F_nearest_method : Fun K "nearest_method" "nearest_method" s_nearest_method f_nearest_method d_nearest_method
  b_nearest_method : Binds K d_nearest_method ["classes", "name", "word"] []
  m_nearest_method : mg "nearest_method" = some (.ref f_nearest_method)
  f_is_word : Addr
  d_is_word : FuncData
  F_is_word : Fun K "is_word" "is_word" s_is_word f_is_word d_is_word
  b_is_word : Binds K d_is_word ["value"] []
  m_is_word : mg "is_word" = some (.ref f_is_word)
  f_is_number : Addr
  d_is_number : FuncData
  F_is_number : Fun K "is_number" "is_number" s_is_number f_is_number d_is_number
  b_is_number : Binds K d_is_number ["value", "most"] []
  m_is_number : mg "is_number" = some (.ref f_is_number)
  f_is_tuple : Addr
  d_is_tuple : FuncData
  F_is_tuple : Fun K "is_tuple" "is_tuple" s_is_tuple f_is_tuple d_is_tuple
  b_is_tuple : Binds K d_is_tuple ["value", "least", "most"] []
  m_is_tuple : mg "is_tuple" = some (.ref f_is_tuple)
  f_can_be_part : Addr
  d_can_be_part : FuncData
  F_can_be_part : Fun K "can_be_part" "can_be_part" s_can_be_part f_can_be_part d_can_be_part
  b_can_be_part : Binds K d_can_be_part ["classes", "many", "part", "step", "value"] []
  m_can_be_part : mg "can_be_part" = some (.ref f_can_be_part)
  f_is_step : Addr
  d_is_step : FuncData
  F_is_step : Fun K "is_step" "is_step" s_is_step f_is_step d_is_step
  b_is_step : Binds K d_is_step ["classes", "many", "step"] []
  m_is_step : mg "is_step" = some (.ref f_is_step)
  f_bad_step : Addr
  d_bad_step : FuncData
  F_bad_step : Fun K "bad_step" "bad_step" s_bad_step f_bad_step d_bad_step
  b_bad_step : Binds K d_bad_step ["classes", "code"] []
  m_bad_step : mg "bad_step" = some (.ref f_bad_step)
  f_is_handler : Addr
  d_is_handler : FuncData
  F_is_handler : Fun K "is_handler" "is_handler" s_is_handler f_is_handler d_is_handler
  b_is_handler : Binds K d_is_handler ["classes", "many", "row"] []
  m_is_handler : mg "is_handler" = some (.ref f_is_handler)
  f_bad_handler : Addr
  d_bad_handler : FuncData
  F_bad_handler : Fun K "bad_handler" "bad_handler" s_bad_handler f_bad_handler d_bad_handler
  b_bad_handler : Binds K d_bad_handler ["classes", "many", "handlers"] []
  m_bad_handler : mg "bad_handler" = some (.ref f_bad_handler)
  f_is_new_class : Addr
  d_is_new_class : FuncData
  F_is_new_class : Fun K "is_new_class" "is_new_class" s_is_new_class f_is_new_class d_is_new_class
  b_is_new_class : Binds K d_is_new_class ["earlier", "row"] []
  m_is_new_class : mg "is_new_class" = some (.ref f_is_new_class)
  f_check_names : Addr
  d_check_names : FuncData
  F_check_names : Fun K "check_names" "check_names" s_check_names f_check_names d_check_names
  b_check_names : Binds K d_check_names ["classes"] []
  m_check_names : mg "check_names" = some (.ref f_check_names)
  f_is_told_kind : Addr
  d_is_told_kind : FuncData
  F_is_told_kind : Fun K "is_told_kind" "is_told_kind" s_is_told_kind f_is_told_kind d_is_told_kind
  b_is_told_kind : Binds K d_is_told_kind ["classes", "value"] []
  m_is_told_kind : mg "is_told_kind" = some (.ref f_is_told_kind)
  f_are_fields : Addr
  d_are_fields : FuncData
  F_are_fields : Fun K "are_fields" "are_fields" s_are_fields f_are_fields d_are_fields
  b_are_fields : Binds K d_are_fields ["classes", "upper", "fields"] []
  m_are_fields : mg "are_fields" = some (.ref f_are_fields)
  f_is_method : Addr
  d_is_method : FuncData
  F_is_method : Fun K "is_method" "is_method" s_is_method f_is_method d_is_method
  b_is_method : Binds K d_is_method ["classes", "upper", "words", "method", "parts"] []
  m_is_method : mg "is_method" = some (.ref f_is_method)
  f_check_methods : Addr
  d_check_methods : FuncData
  F_check_methods : Fun K "check_methods" "check_methods" s_check_methods f_check_methods d_check_methods
  b_check_methods : Binds K d_check_methods ["classes", "index", "parts"] []
  m_check_methods : mg "check_methods" = some (.ref f_check_methods)
  f_check_code : Addr
  d_check_code : FuncData
  F_check_code : Fun K "check_code" "check_code" s_check_code f_check_code d_check_code
  b_check_code : Binds K d_check_code ["classes", "index", "place"] []
  m_check_code : mg "check_code" = some (.ref f_check_code)
  f_check_shells : Addr
  d_check_shells : FuncData
  F_check_shells : Fun K "check_shells" "check_shells" s_check_shells f_check_shells d_check_shells
  b_check_shells : Binds K d_check_shells ["classes", "parts"] []
  m_check_shells : mg "check_shells" = some (.ref f_check_shells)
  f_check_classes : Addr
  d_check_classes : FuncData
  F_check_classes : Fun K "check_classes" "check_classes" s_check_classes f_check_classes d_check_classes
  b_check_classes : Binds K d_check_classes ["classes"] []
  m_check_classes : mg "check_classes" = some (.ref f_check_classes)
  f_House___init__ : Addr
  d_House___init__ : FuncData
  F_House___init__ : Fun K "__init__" "House.__init__" s_House___init__ f_House___init__ d_House___init__
  b_House___init__ : Binds K d_House___init__ ["self", "classes"] []
  f_House_classes : Addr
  d_House_classes : FuncData
  F_House_classes : Fun K "classes" "House.classes" s_House_classes f_House_classes d_House_classes
  b_House_classes : Binds K d_House_classes ["self"] []
  f_House___eq__ : Addr
  d_House___eq__ : FuncData
  F_House___eq__ : Fun K "__eq__" "House.__eq__" s_House___eq__ f_House___eq__ d_House___eq__
  b_House___eq__ : Binds K d_House___eq__ ["self", "other"] []
  f_is_kind : Addr
  d_is_kind : FuncData
  F_is_kind : Fun K "is_kind" "is_kind" s_is_kind f_is_kind d_is_kind
  b_is_kind : Binds K d_is_kind ["classes", "value"] []
  m_is_kind : mg "is_kind" = some (.ref f_is_kind)
  f_does_fit : Addr
  d_does_fit : FuncData
  F_does_fit : Fun K "does_fit" "does_fit" s_does_fit f_does_fit d_does_fit
  b_does_fit : Binds K d_does_fit ["classes", "one", "other"] []
  m_does_fit : mg "does_fit" = some (.ref f_does_fit)
  f_first_common : Addr
  d_first_common : FuncData
  F_first_common : Fun K "first_common" "first_common" s_first_common f_first_common d_first_common
  b_first_common : Binds K d_first_common ["classes", "one", "other"] []
  m_first_common : mg "first_common" = some (.ref f_first_common)
  f_join_of : Addr
  d_join_of : FuncData
  F_join_of : Fun K "join_of" "join_of" s_join_of f_join_of d_join_of
  b_join_of : Binds K d_join_of ["classes", "one", "other"] []
  m_join_of : mg "join_of" = some (.ref f_join_of)
  f_check_house : Addr
  d_check_house : FuncData
  F_check_house : Fun K "check_house" "check_house" s_check_house f_check_house d_check_house
  b_check_house : Binds K d_check_house ["house"] []
  m_check_house : mg "check_house" = some (.ref f_check_house)
  f_check_name : Addr
  d_check_name : FuncData
  F_check_name : Fun K "check_name" "check_name" s_check_name f_check_name d_check_name
  b_check_name : Binds K d_check_name ["house", "name"] []
  m_check_name : mg "check_name" = some (.ref f_check_name)
  f_check_kind : Addr
  d_check_kind : FuncData
  F_check_kind : Fun K "check_kind" "check_kind" s_check_kind f_check_kind d_check_kind
  b_check_kind : Binds K d_check_kind ["house", "kind"] []
  m_check_kind : mg "check_kind" = some (.ref f_check_kind)
  f_check_word : Addr
  d_check_word : FuncData
  F_check_word : Fun K "check_word" "check_word" s_check_word f_check_word d_check_word
  b_check_word : Binds K d_check_word ["house", "name", "word"] []
  m_check_word : mg "check_word" = some (.ref f_check_word)
  f_upward : Addr
  d_upward : FuncData
  F_upward : Fun K "upward" "upward" s_upward f_upward d_upward
  b_upward : Binds K d_upward ["house", "name"] []
  m_upward : mg "upward" = some (.ref f_upward)
  f_downward : Addr
  d_downward : FuncData
  F_downward : Fun K "downward" "downward" s_downward f_downward d_downward
  b_downward : Binds K d_downward ["house", "name"] []
  m_downward : mg "downward" = some (.ref f_downward)
  f_common : Addr
  d_common : FuncData
  F_common : Fun K "common" "common" s_common f_common d_common
  b_common : Binds K d_common ["house", "one", "other"] []
  m_common : mg "common" = some (.ref f_common)
  f_fits : Addr
  d_fits : FuncData
  F_fits : Fun K "fits" "fits" s_fits f_fits d_fits
  b_fits : Binds K d_fits ["house", "one", "other"] []
  m_fits : mg "fits" = some (.ref f_fits)
  f_joined : Addr
  d_joined : FuncData
  F_joined : Fun K "joined" "joined" s_joined f_joined d_joined
  b_joined : Binds K d_joined ["house", "one", "other"] []
  m_joined : mg "joined" = some (.ref f_joined)
  f_fields_of : Addr
  d_fields_of : FuncData
  F_fields_of : Fun K "fields_of" "fields_of" s_fields_of f_fields_of d_fields_of
  b_fields_of : Binds K d_fields_of ["house", "name"] []
  m_fields_of : mg "fields_of" = some (.ref f_fields_of)
  f_method_of : Addr
  d_method_of : FuncData
  F_method_of : Fun K "method_of" "method_of" s_method_of f_method_of d_method_of
  b_method_of : Binds K d_method_of ["house", "name", "word"] []
  m_method_of : mg "method_of" = some (.ref f_method_of)
  f_methods_of : Addr
  d_methods_of : FuncData
  F_methods_of : Fun K "methods_of" "methods_of" s_methods_of f_methods_of d_methods_of
  b_methods_of : Binds K d_methods_of ["house", "name"] []
  m_methods_of : mg "methods_of" = some (.ref f_methods_of)
  f_overrides : Addr
  d_overrides : FuncData
  F_overrides : Fun K "overrides" "overrides" s_overrides f_overrides d_overrides
  b_overrides : Binds K d_overrides ["house"] []
  m_overrides : mg "overrides" = some (.ref f_overrides)
  f_told : Addr
  d_told : FuncData
  F_told : Fun K "told" "told" s_told f_told d_told
  m_told : mg "told" = some (.ref f_told)
  f_shell_lines : Addr
  d_shell_lines : FuncData
  F_shell_lines : Fun K "shell_lines" "shell_lines" s_shell_lines f_shell_lines d_shell_lines
  b_shell_lines : Binds K d_shell_lines ["row"] []
  m_shell_lines : mg "shell_lines" = some (.ref f_shell_lines)
  f_head_line : Addr
  d_head_line : FuncData
  F_head_line : Fun K "head_line" "head_line" s_head_line f_head_line d_head_line
  b_head_line : Binds K d_head_line ["method"] []
  m_head_line : mg "head_line" = some (.ref f_head_line)
  f_method_lines : Addr
  d_method_lines : FuncData
  F_method_lines : Fun K "method_lines" "method_lines" s_method_lines f_method_lines d_method_lines
  b_method_lines : Binds K d_method_lines ["method"] []
  m_method_lines : mg "method_lines" = some (.ref f_method_lines)
  f_write : Addr
  d_write : FuncData
  F_write : Fun K "write" "write" s_write f_write d_write
  b_write : Binds K d_write ["house"] []
  m_write : mg "write" = some (.ref f_write)
  f_is_whole : Addr
  d_is_whole : FuncData
  F_is_whole : Fun K "is_whole" "is_whole" s_is_whole f_is_whole d_is_whole
  b_is_whole : Binds K d_is_whole ["methods"] []
  m_is_whole : mg "is_whole" = some (.ref f_is_whole)
  f_may_stand : Addr
  d_may_stand : FuncData
  F_may_stand : Fun K "may_stand" "may_stand" s_may_stand f_may_stand d_may_stand
  b_may_stand : Binds K d_may_stand ["rows", "first"] []
  m_may_stand : mg "may_stand" = some (.ref f_may_stand)
  f_form_of : Addr
  d_form_of : FuncData
  F_form_of : Fun K "form_of" "form_of" s_form_of f_form_of d_form_of
  b_form_of : Binds K d_form_of ["words"] []
  m_form_of : mg "form_of" = some (.ref f_form_of)
  f_can_be : Addr
  d_can_be : FuncData
  F_can_be : Fun K "can_be" "can_be" s_can_be f_can_be d_can_be
  b_can_be : Binds K d_can_be ["word", "part"] []
  m_can_be : mg "can_be" = some (.ref f_can_be)
  f_bad_word : Addr
  d_bad_word : FuncData
  F_bad_word : Fun K "bad_word" "bad_word" s_bad_word f_bad_word d_bad_word
  b_bad_word : Binds K d_bad_word ["rows", "words"] []
  m_bad_word : mg "bad_word" = some (.ref f_bad_word)
  f_part_of : Addr
  d_part_of : FuncData
  F_part_of : Fun K "part_of" "part_of" s_part_of f_part_of d_part_of
  b_part_of : Binds K d_part_of ["word", "part"] []
  m_part_of : mg "part_of" = some (.ref f_part_of)
  f_add_line : Addr
  d_add_line : FuncData
  F_add_line : Fun K "add_line" "add_line" s_add_line f_add_line d_add_line
  b_add_line : Binds K d_add_line ["rows", "words"] []
  m_add_line : mg "add_line" = some (.ref f_add_line)
  f_method_made : Addr
  d_method_made : FuncData
  F_method_made : Fun K "method_made" "method_made" s_method_made f_method_made d_method_made
  b_method_made : Binds K d_method_made ["method"] []
  m_method_made : mg "method_made" = some (.ref f_method_made)
  f_class_made : Addr
  d_class_made : FuncData
  F_class_made : Fun K "class_made" "class_made" s_class_made f_class_made d_class_made
  b_class_made : Binds K d_class_made ["row"] []
  m_class_made : mg "class_made" = some (.ref f_class_made)
  f_read : Addr
  d_read : FuncData
  F_read : Fun K "read" "read" s_read f_read d_read
  b_read : Binds K d_read ["text"] []
  m_read : mg "read" = some (.ref f_read)
  f__law_taken : Addr
  d__law_taken : FuncData
  F__law_taken : Fun K "_law_taken" "_law_taken" s__law_taken f__law_taken d__law_taken
  b__law_taken : Binds K d__law_taken ["row", "many"] []
  m__law_taken : mg "_law_taken" = some (.ref f__law_taken)
  f_law : Addr
  d_law : FuncData
  F_law : Fun K "law" "law" s_law f_law d_law
  b_law : Binds K d_law ["script"] []
  m_law : mg "law" = some (.ref f_law)
  u_TOP : Value
  v_TOP : V
  m_TOP : mg "TOP" = some u_TOP
  r_TOP : RelV v_TOP u_TOP
  k_TOP : ∀ ct os ow tb, KC ⟨K, ct, os, ow, tb, []⟩ c_TOP v_TOP
  u_LETTERS : Value
  v_LETTERS : V
  m_LETTERS : mg "LETTERS" = some u_LETTERS
  r_LETTERS : RelV v_LETTERS u_LETTERS
  k_LETTERS : ∀ ct os ow tb, KC ⟨K, ct, os, ow, tb, []⟩ c_LETTERS v_LETTERS
  a_PARTS : Addr
  m_PARTS : mg "PARTS" = some (.ref a_PARTS)
  t_PARTS : ∀ ct os ow tb, WTab ⟨K, ct, os, ow, tb, []⟩ w a_PARTS tb_PARTS
  u_LAST : Value
  v_LAST : V
  m_LAST : mg "LAST" = some u_LAST
  r_LAST : RelV v_LAST u_LAST
  k_LAST : ∀ ct os ow tb, KC ⟨K, ct, os, ow, tb, []⟩ c_LAST v_LAST
  u_TAKEN_NAMES : Value
  v_TAKEN_NAMES : V
  m_TAKEN_NAMES : mg "TAKEN_NAMES" = some u_TAKEN_NAMES
  r_TAKEN_NAMES : RelV v_TAKEN_NAMES u_TAKEN_NAMES
  k_TAKEN_NAMES : ∀ ct os ow tb, KC ⟨K, ct, os, ow, tb, []⟩ c_TAKEN_NAMES v_TAKEN_NAMES
  u_LOOSE_KINDS : Value
  v_LOOSE_KINDS : V
  m_LOOSE_KINDS : mg "LOOSE_KINDS" = some u_LOOSE_KINDS
  r_LOOSE_KINDS : RelV v_LOOSE_KINDS u_LOOSE_KINDS
  k_LOOSE_KINDS : ∀ ct os ow tb, KC ⟨K, ct, os, ow, tb, []⟩ c_LOOSE_KINDS v_LOOSE_KINDS
  a_FORMS : Addr
  m_FORMS : mg "FORMS" = some (.ref a_FORMS)
  t_FORMS : ∀ ct os ow tb, WTab ⟨K, ct, os, ow, tb, []⟩ w a_FORMS tb_FORMS
  a_GREATEST : Addr
  m_GREATEST : mg "GREATEST" = some (.ref a_GREATEST)
  t_GREATEST : ∀ ct os ow tb, WTab ⟨K, ct, os, ow, tb, []⟩ w a_GREATEST tb_GREATEST
  z_len : mg "len" = none
  z_int : mg "int" = none
  z_str : mg "str" = none
  z_tuple : mg "tuple" = none
  z_list : mg "list" = none
  z_dict : mg "dict" = none
  z_bool : mg "bool" = none
  z_isinstance : mg "isinstance" = none
  z_all : mg "all" = none
  z_any : mg "any" = none
  z_range : mg "range" = none
  z_enumerate : mg "enumerate" = none
  z_zip : mg "zip" = none
  z_reversed : mg "reversed" = none
  z_sorted : mg "sorted" = none
  z_min : mg "min" = none
  z_max : mg "max" = none
  z_super : mg "super" = none
  C_House : Addr
  m_House : mg "House" = some (.ref C_House)
  cl_House : Cls K C_House
  oc_House : OwnCls K C_House
  mk_House : Mk K C_House f_House___init__
  na_House__classes : NoAttr K C_House "_classes"
  p_House_classes : Addr
  pr_House_classes : PropOf K C_House "classes" p_House_classes f_House_classes
  eq_House : MI.OwnEq K C_House f_House___eq__
  C_ClassError : Addr
  m_ClassError : mg "ClassError" = some (.ref C_ClassError)
  e_ClassError : (PySem.W.excIn K C_ClassError [.type "ValueError", .type "Exception", .type "BaseException", .type "object"] "ValueError.__new__" && (PySem.W.keepIn K (.ref C_ClassError) && (decide (PySem.W.subIn K (.ref C_ClassError) (.type "BaseException") = some true) && decide (PySem.W.typeIn K (.ref C_ClassError) = some (.type "type"))))) = true
  C_NoHouse : Addr
  m_NoHouse : mg "NoHouse" = some (.ref C_NoHouse)
  C_BadName : Addr
  m_BadName : mg "BadName" = some (.ref C_BadName)
  C_BadKind : Addr
  m_BadKind : mg "BadKind" = some (.ref C_BadKind)
  C_BadWord : Addr
  m_BadWord : mg "BadWord" = some (.ref C_BadWord)
  C_NoText : Addr
  m_NoText : mg "NoText" = some (.ref C_NoText)
  x_ClassError_ClassError : decide (PySem.W.exmOne K (.ref C_ClassError) (.ref C_ClassError) = some true) = true
section
variable {P : Program} {w : World} {K : PySem.W.Frag} {mg : Str → Option Value} {base : Heap}
abbrev GG (T : Txt K mg w) : Gx := ⟨K, fun c => if c = "House" then some T.C_House else if c = "ClassError" then some T.C_ClassError else none, [], some w, Tb.no, []⟩
theorem ct_House (T : Txt K mg w) : (GG T).ct "House" = some T.C_House := by simp [GG]
end
end K11
set_option Elab.async false
set_option linter.all false
set_option maxRecDepth 100000
set_option maxHeartbeats 4000000
namespace K11
open PySem PySem.Spec PyProof.Rows L2 MI
def df_names_of : Df := ⟨fun K => He.ga K "names_of", "names_of", "names_of", s_names_of⟩
def df_is_class : Df := ⟨fun K => He.ga K "is_class", "is_class", "is_class", s_is_class⟩
def df_class_of : Df := ⟨fun K => He.ga K "class_of", "class_of", "class_of", s_class_of⟩
def df_line_up : Df := ⟨fun K => He.ga K "line_up", "line_up", "line_up", s_line_up⟩
def df_line_down : Df := ⟨fun K => He.ga K "line_down", "line_down", "line_down", s_line_down⟩
def df_fields_up : Df := ⟨fun K => He.ga K "fields_up", "fields_up", "fields_up", s_fields_up⟩
def df_field_kind : Df := ⟨fun K => He.ga K "field_kind", "field_kind", "field_kind", s_field_kind⟩
def df_nearest : Df := ⟨fun K => He.ga K "nearest", "nearest", "nearest", s_nearest⟩
def df_method_at : Df := ⟨fun K => He.ga K "method_at", "method_at", "method_at", s_method_at⟩
def df_nearest_method : Df := ⟨fun K => He.ga K "nearest_method", "nearest_method", "nearest_method", s_nearest_method⟩
def df_is_word : Df := ⟨fun K => He.ga K "is_word", "is_word", "is_word", s_is_word⟩
def df_is_number : Df := ⟨fun K => He.ga K "is_number", "is_number", "is_number", s_is_number⟩
def df_is_tuple : Df := ⟨fun K => He.ga K "is_tuple", "is_tuple", "is_tuple", s_is_tuple⟩
def df_can_be_part : Df := ⟨fun K => He.ga K "can_be_part", "can_be_part", "can_be_part", s_can_be_part⟩
def df_is_step : Df := ⟨fun K => He.ga K "is_step", "is_step", "is_step", s_is_step⟩
def df_bad_step : Df := ⟨fun K => He.ga K "bad_step", "bad_step", "bad_step", s_bad_step⟩
def df_is_handler : Df := ⟨fun K => He.ga K "is_handler", "is_handler", "is_handler", s_is_handler⟩
def df_bad_handler : Df := ⟨fun K => He.ga K "bad_handler", "bad_handler", "bad_handler", s_bad_handler⟩
def df_is_new_class : Df := ⟨fun K => He.ga K "is_new_class", "is_new_class", "is_new_class", s_is_new_class⟩
def df_check_names : Df := ⟨fun K => He.ga K "check_names", "check_names", "check_names", s_check_names⟩
def df_is_told_kind : Df := ⟨fun K => He.ga K "is_told_kind", "is_told_kind", "is_told_kind", s_is_told_kind⟩
def df_are_fields : Df := ⟨fun K => He.ga K "are_fields", "are_fields", "are_fields", s_are_fields⟩
def df_is_method : Df := ⟨fun K => He.ga K "is_method", "is_method", "is_method", s_is_method⟩
def df_check_methods : Df := ⟨fun K => He.ga K "check_methods", "check_methods", "check_methods", s_check_methods⟩
def df_check_code : Df := ⟨fun K => He.ga K "check_code", "check_code", "check_code", s_check_code⟩
def df_check_shells : Df := ⟨fun K => He.ga K "check_shells", "check_shells", "check_shells", s_check_shells⟩
def df_check_classes : Df := ⟨fun K => He.ga K "check_classes", "check_classes", "check_classes", s_check_classes⟩
def df_House___init__ : Df := ⟨fun K => He.ma K (He.ga K "House") "__init__", "__init__", "House.__init__", s_House___init__⟩
def df_House_classes : Df := ⟨fun K => prG K (He.ga K "House") "classes", "classes", "House.classes", s_House_classes⟩
def df_House___eq__ : Df := ⟨fun K => He.ma K (He.ga K "House") "__eq__", "__eq__", "House.__eq__", s_House___eq__⟩
def df_is_kind : Df := ⟨fun K => He.ga K "is_kind", "is_kind", "is_kind", s_is_kind⟩
def df_does_fit : Df := ⟨fun K => He.ga K "does_fit", "does_fit", "does_fit", s_does_fit⟩
def df_first_common : Df := ⟨fun K => He.ga K "first_common", "first_common", "first_common", s_first_common⟩
def df_join_of : Df := ⟨fun K => He.ga K "join_of", "join_of", "join_of", s_join_of⟩
def df_check_house : Df := ⟨fun K => He.ga K "check_house", "check_house", "check_house", s_check_house⟩
def df_check_name : Df := ⟨fun K => He.ga K "check_name", "check_name", "check_name", s_check_name⟩
def df_check_kind : Df := ⟨fun K => He.ga K "check_kind", "check_kind", "check_kind", s_check_kind⟩
def df_check_word : Df := ⟨fun K => He.ga K "check_word", "check_word", "check_word", s_check_word⟩
def df_upward : Df := ⟨fun K => He.ga K "upward", "upward", "upward", s_upward⟩
def df_downward : Df := ⟨fun K => He.ga K "downward", "downward", "downward", s_downward⟩
def df_common : Df := ⟨fun K => He.ga K "common", "common", "common", s_common⟩
def df_fits : Df := ⟨fun K => He.ga K "fits", "fits", "fits", s_fits⟩
def df_joined : Df := ⟨fun K => He.ga K "joined", "joined", "joined", s_joined⟩
def df_fields_of : Df := ⟨fun K => He.ga K "fields_of", "fields_of", "fields_of", s_fields_of⟩
def df_method_of : Df := ⟨fun K => He.ga K "method_of", "method_of", "method_of", s_method_of⟩
def df_methods_of : Df := ⟨fun K => He.ga K "methods_of", "methods_of", "methods_of", s_methods_of⟩
def df_overrides : Df := ⟨fun K => He.ga K "overrides", "overrides", "overrides", s_overrides⟩
def df_told : Df := ⟨fun K => He.ga K "told", "told", "told", s_told⟩
def df_shell_lines : Df := ⟨fun K => He.ga K "shell_lines", "shell_lines", "shell_lines", s_shell_lines⟩
def df_head_line : Df := ⟨fun K => He.ga K "head_line", "head_line", "head_line", s_head_line⟩
def df_method_lines : Df := ⟨fun K => He.ga K "method_lines", "method_lines", "method_lines", s_method_lines⟩
def df_write : Df := ⟨fun K => He.ga K "write", "write", "write", s_write⟩
def df_is_whole : Df := ⟨fun K => He.ga K "is_whole", "is_whole", "is_whole", s_is_whole⟩
def df_may_stand : Df := ⟨fun K => He.ga K "may_stand", "may_stand", "may_stand", s_may_stand⟩
def df_form_of : Df := ⟨fun K => He.ga K "form_of", "form_of", "form_of", s_form_of⟩
def df_can_be : Df := ⟨fun K => He.ga K "can_be", "can_be", "can_be", s_can_be⟩
def df_bad_word : Df := ⟨fun K => He.ga K "bad_word", "bad_word", "bad_word", s_bad_word⟩
def df_part_of : Df := ⟨fun K => He.ga K "part_of", "part_of", "part_of", s_part_of⟩
def df_add_line : Df := ⟨fun K => He.ga K "add_line", "add_line", "add_line", s_add_line⟩
def df_method_made : Df := ⟨fun K => He.ga K "method_made", "method_made", "method_made", s_method_made⟩
def df_class_made : Df := ⟨fun K => He.ga K "class_made", "class_made", "class_made", s_class_made⟩
def df_read : Df := ⟨fun K => He.ga K "read", "read", "read", s_read⟩
def df__law_taken : Df := ⟨fun K => He.ga K "_law_taken", "_law_taken", "_law_taken", s__law_taken⟩
def df_law : Df := ⟨fun K => He.ga K "law", "law", "law", s_law⟩
def fs : List Df := [df_names_of, df_is_class, df_class_of, df_line_up, df_line_down, df_fields_up, df_field_kind, df_nearest, df_method_at, df_nearest_method, df_is_word, df_is_number, df_is_tuple, df_can_be_part, df_is_step, df_bad_step, df_is_handler, df_bad_handler, df_is_new_class, df_check_names, df_is_told_kind, df_are_fields, df_is_method, df_check_methods, df_check_code, df_check_shells, df_check_classes, df_House___init__, df_House_classes, df_House___eq__, df_is_kind, df_does_fit, df_first_common, df_join_of, df_check_house, df_check_name, df_check_kind, df_check_word, df_upward, df_downward, df_common, df_fits, df_joined, df_fields_of, df_method_of, df_methods_of, df_overrides, df_told, df_shell_lines, df_head_line, df_method_lines, df_write, df_is_whole, df_may_stand, df_form_of, df_can_be, df_bad_word, df_part_of, df_add_line, df_method_made, df_class_made, df_read, df__law_taken, df_law]
def tt_PARTS : He.Tab := (fun K => He.ga K "PARTS", ["push", "none", "take", "keep", "add", "less", "same", "new", "cast", "is", "get", "put", "call", "go", "if", "give", "throw", "enter", "leave", "copy", "drop", "print"])
def tt_FORMS : He.Tab := (fun K => He.ga K "FORMS", ["class", "field", "method", "catch"])
def tt_GREATEST : He.Tab := (fun K => He.ga K "GREATEST", ["number", "local", "more", "step", "end"])
def fa : List He.Fa := [.glo "names_of", .glo "is_class", .glo "class_of", .glo "line_up", .glo "line_down", .glo "fields_up", .glo "field_kind", .glo "nearest", .glo "method_at", .glo "nearest_method", .glo "is_word", .glo "is_number", .glo "is_tuple", .glo "can_be_part", .glo "is_step", .glo "bad_step", .glo "is_handler", .glo "bad_handler", .glo "is_new_class", .glo "check_names", .glo "is_told_kind", .glo "are_fields", .glo "is_method", .glo "check_methods", .glo "check_code", .glo "check_shells", .glo "check_classes", .glo "is_kind", .glo "does_fit", .glo "first_common", .glo "join_of", .glo "check_house", .glo "check_name", .glo "check_kind", .glo "check_word", .glo "upward", .glo "downward", .glo "common", .glo "fits", .glo "joined", .glo "fields_of", .glo "method_of", .glo "methods_of", .glo "overrides", .glo "told", .glo "shell_lines", .glo "head_line", .glo "method_lines", .glo "write", .glo "is_whole", .glo "may_stand", .glo "form_of", .glo "can_be", .glo "bad_word", .glo "part_of", .glo "add_line", .glo "method_made", .glo "class_made", .glo "read", .glo "_law_taken", .glo "law", .glo "PARTS", .glo "FORMS", .glo "GREATEST", .free "len", .free "int", .free "str", .free "tuple", .free "list", .free "dict", .free "bool", .free "isinstance", .free "all", .free "any", .free "range", .free "enumerate", .free "zip", .free "reversed", .free "sorted", .free "min", .free "max", .free "super", .cls "House", .glo "House", .mkr "House", .noat "House" "_classes", .glo "ClassError", .glo "NoHouse", .glo "BadName", .glo "BadKind", .glo "BadWord", .glo "NoText"]
def ts : List He.Tab := [tt_PARTS, tt_FORMS, tt_GREATEST]
def exs : List (Fr → Bool) := [fun K => conK K "TOP" c_TOP, fun K => conK K "LETTERS" c_LETTERS, fun K => tabK K (He.ga K "PARTS") tb_PARTS, fun K => conK K "LAST" c_LAST, fun K => conK K "TAKEN_NAMES" c_TAKEN_NAMES, fun K => conK K "LOOSE_KINDS" c_LOOSE_KINDS, fun K => tabK K (He.ga K "FORMS") tb_FORMS, fun K => tabK K (He.ga K "GREATEST") tb_GREATEST, fun K => ownB K (He.ga K "House"), fun K => prB K (He.ga K "House") "classes", fun K => MI.eqB K (He.ga K "House") (He.ma K (He.ga K "House") "__eq__"), fun K => (PySem.W.excIn K (He.ga K "ClassError") [.type "ValueError", .type "Exception", .type "BaseException", .type "object"] "ValueError.__new__" && (PySem.W.keepIn K (.ref (He.ga K "ClassError")) && (decide (PySem.W.subIn K (.ref (He.ga K "ClassError")) (.type "BaseException") = some true) && decide (PySem.W.typeIn K (.ref (He.ga K "ClassError")) = some (.type "type"))))), fun K => decide (PySem.W.exmOne K (.ref (He.ga K "ClassError")) (.ref (He.ga K "ClassError")) = some true)]
def ex (K : Fr) : Bool := exs.all fun e => e K
theorem exs_at {K : Fr} (h : ex K = true) (i : Nat) {e : Fr → Bool} (hi : exs[i]? = some e) : e K = true := List.all_eq_true.mp h e (List.mem_of_getElem? hi)
theorem all_txt {h : Heap} {mg : Str → Option Value} {w : World} {K : Fr} (X : K.In h) (G : h.Ns mainGlobals mg) (c : Told fa ts ex fs w K) : ∃ T : Txt K mg w, T.f_law = He.ga K "law" := by
  obtain ⟨d_names_of, F_names_of⟩ := c.df 0 (d := df_names_of) rfl
  obtain ⟨d_is_class, F_is_class⟩ := c.df 1 (d := df_is_class) rfl
  obtain ⟨d_class_of, F_class_of⟩ := c.df 2 (d := df_class_of) rfl
  obtain ⟨d_line_up, F_line_up⟩ := c.df 3 (d := df_line_up) rfl
  obtain ⟨d_line_down, F_line_down⟩ := c.df 4 (d := df_line_down) rfl
  obtain ⟨d_fields_up, F_fields_up⟩ := c.df 5 (d := df_fields_up) rfl
  obtain ⟨d_field_kind, F_field_kind⟩ := c.df 6 (d := df_field_kind) rfl
  obtain ⟨d_nearest, F_nearest⟩ := c.df 7 (d := df_nearest) rfl
  obtain ⟨d_method_at, F_method_at⟩ := c.df 8 (d := df_method_at) rfl
  obtain ⟨d_nearest_method, F_nearest_method⟩ := c.df 9 (d := df_nearest_method) rfl
  obtain ⟨d_is_word, F_is_word⟩ := c.df 10 (d := df_is_word) rfl
  obtain ⟨d_is_number, F_is_number⟩ := c.df 11 (d := df_is_number) rfl
  obtain ⟨d_is_tuple, F_is_tuple⟩ := c.df 12 (d := df_is_tuple) rfl
  obtain ⟨d_can_be_part, F_can_be_part⟩ := c.df 13 (d := df_can_be_part) rfl
  obtain ⟨d_is_step, F_is_step⟩ := c.df 14 (d := df_is_step) rfl
  obtain ⟨d_bad_step, F_bad_step⟩ := c.df 15 (d := df_bad_step) rfl
  obtain ⟨d_is_handler, F_is_handler⟩ := c.df 16 (d := df_is_handler) rfl
  obtain ⟨d_bad_handler, F_bad_handler⟩ := c.df 17 (d := df_bad_handler) rfl
  obtain ⟨d_is_new_class, F_is_new_class⟩ := c.df 18 (d := df_is_new_class) rfl
  obtain ⟨d_check_names, F_check_names⟩ := c.df 19 (d := df_check_names) rfl
  obtain ⟨d_is_told_kind, F_is_told_kind⟩ := c.df 20 (d := df_is_told_kind) rfl
  obtain ⟨d_are_fields, F_are_fields⟩ := c.df 21 (d := df_are_fields) rfl
  obtain ⟨d_is_method, F_is_method⟩ := c.df 22 (d := df_is_method) rfl
  obtain ⟨d_check_methods, F_check_methods⟩ := c.df 23 (d := df_check_methods) rfl
  obtain ⟨d_check_code, F_check_code⟩ := c.df 24 (d := df_check_code) rfl
  obtain ⟨d_check_shells, F_check_shells⟩ := c.df 25 (d := df_check_shells) rfl
  obtain ⟨d_check_classes, F_check_classes⟩ := c.df 26 (d := df_check_classes) rfl
  obtain ⟨d_House___init__, F_House___init__⟩ := c.df 27 (d := df_House___init__) rfl
  obtain ⟨d_House_classes, F_House_classes⟩ := c.df 28 (d := df_House_classes) rfl
  obtain ⟨d_House___eq__, F_House___eq__⟩ := c.df 29 (d := df_House___eq__) rfl
  obtain ⟨d_is_kind, F_is_kind⟩ := c.df 30 (d := df_is_kind) rfl
  obtain ⟨d_does_fit, F_does_fit⟩ := c.df 31 (d := df_does_fit) rfl
  obtain ⟨d_first_common, F_first_common⟩ := c.df 32 (d := df_first_common) rfl
  obtain ⟨d_join_of, F_join_of⟩ := c.df 33 (d := df_join_of) rfl
  obtain ⟨d_check_house, F_check_house⟩ := c.df 34 (d := df_check_house) rfl
  obtain ⟨d_check_name, F_check_name⟩ := c.df 35 (d := df_check_name) rfl
  obtain ⟨d_check_kind, F_check_kind⟩ := c.df 36 (d := df_check_kind) rfl
  obtain ⟨d_check_word, F_check_word⟩ := c.df 37 (d := df_check_word) rfl
  obtain ⟨d_upward, F_upward⟩ := c.df 38 (d := df_upward) rfl
  obtain ⟨d_downward, F_downward⟩ := c.df 39 (d := df_downward) rfl
  obtain ⟨d_common, F_common⟩ := c.df 40 (d := df_common) rfl
  obtain ⟨d_fits, F_fits⟩ := c.df 41 (d := df_fits) rfl
  obtain ⟨d_joined, F_joined⟩ := c.df 42 (d := df_joined) rfl
  obtain ⟨d_fields_of, F_fields_of⟩ := c.df 43 (d := df_fields_of) rfl
  obtain ⟨d_method_of, F_method_of⟩ := c.df 44 (d := df_method_of) rfl
  obtain ⟨d_methods_of, F_methods_of⟩ := c.df 45 (d := df_methods_of) rfl
  obtain ⟨d_overrides, F_overrides⟩ := c.df 46 (d := df_overrides) rfl
  obtain ⟨d_told, F_told⟩ := c.df 47 (d := df_told) rfl
  obtain ⟨d_shell_lines, F_shell_lines⟩ := c.df 48 (d := df_shell_lines) rfl
  obtain ⟨d_head_line, F_head_line⟩ := c.df 49 (d := df_head_line) rfl
  obtain ⟨d_method_lines, F_method_lines⟩ := c.df 50 (d := df_method_lines) rfl
  obtain ⟨d_write, F_write⟩ := c.df 51 (d := df_write) rfl
  obtain ⟨d_is_whole, F_is_whole⟩ := c.df 52 (d := df_is_whole) rfl
  obtain ⟨d_may_stand, F_may_stand⟩ := c.df 53 (d := df_may_stand) rfl
  obtain ⟨d_form_of, F_form_of⟩ := c.df 54 (d := df_form_of) rfl
  obtain ⟨d_can_be, F_can_be⟩ := c.df 55 (d := df_can_be) rfl
  obtain ⟨d_bad_word, F_bad_word⟩ := c.df 56 (d := df_bad_word) rfl
  obtain ⟨d_part_of, F_part_of⟩ := c.df 57 (d := df_part_of) rfl
  obtain ⟨d_add_line, F_add_line⟩ := c.df 58 (d := df_add_line) rfl
  obtain ⟨d_method_made, F_method_made⟩ := c.df 59 (d := df_method_made) rfl
  obtain ⟨d_class_made, F_class_made⟩ := c.df 60 (d := df_class_made) rfl
  obtain ⟨d_read, F_read⟩ := c.df 61 (d := df_read) rfl
  obtain ⟨d__law_taken, F__law_taken⟩ := c.df 62 (d := df__law_taken) rfl
  obtain ⟨d_law, F_law⟩ := c.df 63 (d := df_law) rfl
  obtain ⟨u_TOP, v_TOP, m_TOP, r_TOP, k_TOP⟩ := conK_ok (x := "TOP") (w := c_TOP) X G (exs_at c.ex 0 (e := fun K => conK K "TOP" c_TOP) rfl)
  obtain ⟨u_LETTERS, v_LETTERS, m_LETTERS, r_LETTERS, k_LETTERS⟩ := conK_ok (x := "LETTERS") (w := c_LETTERS) X G (exs_at c.ex 1 (e := fun K => conK K "LETTERS" c_LETTERS) rfl)
  have tb0 := c.t.tab 0 (t := tt_PARTS) rfl
  obtain ⟨u_LAST, v_LAST, m_LAST, r_LAST, k_LAST⟩ := conK_ok (x := "LAST") (w := c_LAST) X G (exs_at c.ex 3 (e := fun K => conK K "LAST" c_LAST) rfl)
  obtain ⟨u_TAKEN_NAMES, v_TAKEN_NAMES, m_TAKEN_NAMES, r_TAKEN_NAMES, k_TAKEN_NAMES⟩ := conK_ok (x := "TAKEN_NAMES") (w := c_TAKEN_NAMES) X G (exs_at c.ex 4 (e := fun K => conK K "TAKEN_NAMES" c_TAKEN_NAMES) rfl)
  obtain ⟨u_LOOSE_KINDS, v_LOOSE_KINDS, m_LOOSE_KINDS, r_LOOSE_KINDS, k_LOOSE_KINDS⟩ := conK_ok (x := "LOOSE_KINDS") (w := c_LOOSE_KINDS) X G (exs_at c.ex 5 (e := fun K => conK K "LOOSE_KINDS" c_LOOSE_KINDS) rfl)
  have tb1 := c.t.tab 1 (t := tt_FORMS) rfl
  have tb2 := c.t.tab 2 (t := tt_GREATEST) rfl
  exact ⟨{ f_names_of := He.ga K "names_of", d_names_of := d_names_of, F_names_of := F_names_of, b_names_of := F_names_of.binds (ps := ["classes"]) (fun _ _ _ _ _ _ us hl => match us, hl with | [_], _ => rfl),
              m_names_of := He.glo_ok X G (c.t.d.fact 0 (f := .glo "names_of") rfl),
              f_is_class := He.ga K "is_class", d_is_class := d_is_class, F_is_class := F_is_class, b_is_class := F_is_class.binds (ps := ["classes", "name"]) (fun _ _ _ _ _ _ us hl => match us, hl with | [_, _], _ => rfl),
              m_is_class := He.glo_ok X G (c.t.d.fact 1 (f := .glo "is_class") rfl),
              f_class_of := He.ga K "class_of", d_class_of := d_class_of, F_class_of := F_class_of, b_class_of := F_class_of.binds (ps := ["classes", "name"]) (fun _ _ _ _ _ _ us hl => match us, hl with | [_, _], _ => rfl),
              m_class_of := He.glo_ok X G (c.t.d.fact 2 (f := .glo "class_of") rfl),
              f_line_up := He.ga K "line_up", d_line_up := d_line_up, F_line_up := F_line_up, b_line_up := F_line_up.binds (ps := ["classes", "name"]) (fun _ _ _ _ _ _ us hl => match us, hl with | [_, _], _ => rfl),
              m_line_up := He.glo_ok X G (c.t.d.fact 3 (f := .glo "line_up") rfl),
              f_line_down := He.ga K "line_down", d_line_down := d_line_down, F_line_down := F_line_down, b_line_down := F_line_down.binds (ps := ["classes", "name"]) (fun _ _ _ _ _ _ us hl => match us, hl with | [_, _], _ => rfl),
              m_line_down := He.glo_ok X G (c.t.d.fact 4 (f := .glo "line_down") rfl),
              f_fields_up := He.ga K "fields_up", d_fields_up := d_fields_up, F_fields_up := F_fields_up, b_fields_up := F_fields_up.binds (ps := ["classes", "name"]) (fun _ _ _ _ _ _ us hl => match us, hl with | [_, _], _ => rfl),
              m_fields_up := He.glo_ok X G (c.t.d.fact 5 (f := .glo "fields_up") rfl),
              f_field_kind := He.ga K "field_kind", d_field_kind := d_field_kind, F_field_kind := F_field_kind, b_field_kind := F_field_kind.binds (ps := ["classes", "name", "word"]) (fun _ _ _ _ _ _ us hl => match us, hl with | [_, _, _], _ => rfl),
              m_field_kind := He.glo_ok X G (c.t.d.fact 6 (f := .glo "field_kind") rfl),
              f_nearest := He.ga K "nearest", d_nearest := d_nearest, F_nearest := F_nearest, b_nearest := F_nearest.binds (ps := ["classes", "name", "word"]) (fun _ _ _ _ _ _ us hl => match us, hl with | [_, _, _], _ => rfl),
              m_nearest := He.glo_ok X G (c.t.d.fact 7 (f := .glo "nearest") rfl),
              f_method_at := He.ga K "method_at", d_method_at := d_method_at, F_method_at := F_method_at, b_method_at := F_method_at.binds (ps := ["classes", "name", "place"]) (fun _ _ _ _ _ _ us hl => match us, hl with | [_, _, _], _ => rfl),
              m_method_at := He.glo_ok X G (c.t.d.fact 8 (f := .glo "method_at") rfl),
              f_nearest_method := He.ga K "nearest_method", d_nearest_method := d_nearest_method, F_nearest_method := F_nearest_method, b_nearest_method := F_nearest_method.binds (ps := ["classes", "name", "word"]) (fun _ _ _ _ _ _ us hl => match us, hl with | [_, _, _], _ => rfl),
              m_nearest_method := He.glo_ok X G (c.t.d.fact 9 (f := .glo "nearest_method") rfl),
              f_is_word := He.ga K "is_word", d_is_word := d_is_word, F_is_word := F_is_word, b_is_word := F_is_word.binds (ps := ["value"]) (fun _ _ _ _ _ _ us hl => match us, hl with | [_], _ => rfl),
              m_is_word := He.glo_ok X G (c.t.d.fact 10 (f := .glo "is_word") rfl),
              f_is_number := He.ga K "is_number", d_is_number := d_is_number, F_is_number := F_is_number, b_is_number := F_is_number.binds (ps := ["value", "most"]) (fun _ _ _ _ _ _ us hl => match us, hl with | [_, _], _ => rfl),
              m_is_number := He.glo_ok X G (c.t.d.fact 11 (f := .glo "is_number") rfl),
              f_is_tuple := He.ga K "is_tuple", d_is_tuple := d_is_tuple, F_is_tuple := F_is_tuple, b_is_tuple := F_is_tuple.binds (ps := ["value", "least", "most"]) (fun _ _ _ _ _ _ us hl => match us, hl with | [_, _, _], _ => rfl),
              m_is_tuple := He.glo_ok X G (c.t.d.fact 12 (f := .glo "is_tuple") rfl),
              f_can_be_part := He.ga K "can_be_part", d_can_be_part := d_can_be_part, F_can_be_part := F_can_be_part, b_can_be_part := F_can_be_part.binds (ps := ["classes", "many", "part", "step", "value"]) (fun _ _ _ _ _ _ us hl => match us, hl with | [_, _, _, _, _], _ => rfl),
              m_can_be_part := He.glo_ok X G (c.t.d.fact 13 (f := .glo "can_be_part") rfl),
              f_is_step := He.ga K "is_step", d_is_step := d_is_step, F_is_step := F_is_step, b_is_step := F_is_step.binds (ps := ["classes", "many", "step"]) (fun _ _ _ _ _ _ us hl => match us, hl with | [_, _, _], _ => rfl),
              m_is_step := He.glo_ok X G (c.t.d.fact 14 (f := .glo "is_step") rfl),
              f_bad_step := He.ga K "bad_step", d_bad_step := d_bad_step, F_bad_step := F_bad_step, b_bad_step := F_bad_step.binds (ps := ["classes", "code"]) (fun _ _ _ _ _ _ us hl => match us, hl with | [_, _], _ => rfl),
              m_bad_step := He.glo_ok X G (c.t.d.fact 15 (f := .glo "bad_step") rfl),
              f_is_handler := He.ga K "is_handler", d_is_handler := d_is_handler, F_is_handler := F_is_handler, b_is_handler := F_is_handler.binds (ps := ["classes", "many", "row"]) (fun _ _ _ _ _ _ us hl => match us, hl with | [_, _, _], _ => rfl),
              m_is_handler := He.glo_ok X G (c.t.d.fact 16 (f := .glo "is_handler") rfl),
              f_bad_handler := He.ga K "bad_handler", d_bad_handler := d_bad_handler, F_bad_handler := F_bad_handler, b_bad_handler := F_bad_handler.binds (ps := ["classes", "many", "handlers"]) (fun _ _ _ _ _ _ us hl => match us, hl with | [_, _, _], _ => rfl),
              m_bad_handler := He.glo_ok X G (c.t.d.fact 17 (f := .glo "bad_handler") rfl),
              f_is_new_class := He.ga K "is_new_class", d_is_new_class := d_is_new_class, F_is_new_class := F_is_new_class, b_is_new_class := F_is_new_class.binds (ps := ["earlier", "row"]) (fun _ _ _ _ _ _ us hl => match us, hl with | [_, _], _ => rfl),
              m_is_new_class := He.glo_ok X G (c.t.d.fact 18 (f := .glo "is_new_class") rfl),
              f_check_names := He.ga K "check_names", d_check_names := d_check_names, F_check_names := F_check_names, b_check_names := F_check_names.binds (ps := ["classes"]) (fun _ _ _ _ _ _ us hl => match us, hl with | [_], _ => rfl),
              m_check_names := He.glo_ok X G (c.t.d.fact 19 (f := .glo "check_names") rfl),
              f_is_told_kind := He.ga K "is_told_kind", d_is_told_kind := d_is_told_kind, F_is_told_kind := F_is_told_kind, b_is_told_kind := F_is_told_kind.binds (ps := ["classes", "value"]) (fun _ _ _ _ _ _ us hl => match us, hl with | [_, _], _ => rfl),
              m_is_told_kind := He.glo_ok X G (c.t.d.fact 20 (f := .glo "is_told_kind") rfl),
              f_are_fields := He.ga K "are_fields", d_are_fields := d_are_fields, F_are_fields := F_are_fields, b_are_fields := F_are_fields.binds (ps := ["classes", "upper", "fields"]) (fun _ _ _ _ _ _ us hl => match us, hl with | [_, _, _], _ => rfl),
              m_are_fields := He.glo_ok X G (c.t.d.fact 21 (f := .glo "are_fields") rfl),
              f_is_method := He.ga K "is_method", d_is_method := d_is_method, F_is_method := F_is_method, b_is_method := F_is_method.binds (ps := ["classes", "upper", "words", "method", "parts"]) (fun _ _ _ _ _ _ us hl => match us, hl with | [_, _, _, _, _], _ => rfl),
              m_is_method := He.glo_ok X G (c.t.d.fact 22 (f := .glo "is_method") rfl),
              f_check_methods := He.ga K "check_methods", d_check_methods := d_check_methods, F_check_methods := F_check_methods, b_check_methods := F_check_methods.binds (ps := ["classes", "index", "parts"]) (fun _ _ _ _ _ _ us hl => match us, hl with | [_, _, _], _ => rfl),
              m_check_methods := He.glo_ok X G (c.t.d.fact 23 (f := .glo "check_methods") rfl),
              f_check_code := He.ga K "check_code", d_check_code := d_check_code, F_check_code := F_check_code, b_check_code := F_check_code.binds (ps := ["classes", "index", "place"]) (fun _ _ _ _ _ _ us hl => match us, hl with | [_, _, _], _ => rfl),
              m_check_code := He.glo_ok X G (c.t.d.fact 24 (f := .glo "check_code") rfl),
              f_check_shells := He.ga K "check_shells", d_check_shells := d_check_shells, F_check_shells := F_check_shells, b_check_shells := F_check_shells.binds (ps := ["classes", "parts"]) (fun _ _ _ _ _ _ us hl => match us, hl with | [_, _], _ => rfl),
              m_check_shells := He.glo_ok X G (c.t.d.fact 25 (f := .glo "check_shells") rfl),
              f_check_classes := He.ga K "check_classes", d_check_classes := d_check_classes, F_check_classes := F_check_classes, b_check_classes := F_check_classes.binds (ps := ["classes"]) (fun _ _ _ _ _ _ us hl => match us, hl with | [_], _ => rfl),
              m_check_classes := He.glo_ok X G (c.t.d.fact 26 (f := .glo "check_classes") rfl),
              f_House___init__ := He.ma K (He.ga K "House") "__init__", d_House___init__ := d_House___init__, F_House___init__ := F_House___init__, b_House___init__ := F_House___init__.binds (ps := ["self", "classes"]) (fun _ _ _ _ _ _ us hl => match us, hl with | [_, _], _ => rfl),
              f_House_classes := prG K (He.ga K "House") "classes", d_House_classes := d_House_classes, F_House_classes := F_House_classes, b_House_classes := F_House_classes.binds (ps := ["self"]) (fun _ _ _ _ _ _ us hl => match us, hl with | [_], _ => rfl),
              f_House___eq__ := He.ma K (He.ga K "House") "__eq__", d_House___eq__ := d_House___eq__, F_House___eq__ := F_House___eq__, b_House___eq__ := F_House___eq__.binds (ps := ["self", "other"]) (fun _ _ _ _ _ _ us hl => match us, hl with | [_, _], _ => rfl),
              f_is_kind := He.ga K "is_kind", d_is_kind := d_is_kind, F_is_kind := F_is_kind, b_is_kind := F_is_kind.binds (ps := ["classes", "value"]) (fun _ _ _ _ _ _ us hl => match us, hl with | [_, _], _ => rfl),
              m_is_kind := He.glo_ok X G (c.t.d.fact 27 (f := .glo "is_kind") rfl),
              f_does_fit := He.ga K "does_fit", d_does_fit := d_does_fit, F_does_fit := F_does_fit, b_does_fit := F_does_fit.binds (ps := ["classes", "one", "other"]) (fun _ _ _ _ _ _ us hl => match us, hl with | [_, _, _], _ => rfl),
              m_does_fit := He.glo_ok X G (c.t.d.fact 28 (f := .glo "does_fit") rfl),
              f_first_common := He.ga K "first_common", d_first_common := d_first_common, F_first_common := F_first_common, b_first_common := F_first_common.binds (ps := ["classes", "one", "other"]) (fun _ _ _ _ _ _ us hl => match us, hl with | [_, _, _], _ => rfl),
              m_first_common := He.glo_ok X G (c.t.d.fact 29 (f := .glo "first_common") rfl),
              f_join_of := He.ga K "join_of", d_join_of := d_join_of, F_join_of := F_join_of, b_join_of := F_join_of.binds (ps := ["classes", "one", "other"]) (fun _ _ _ _ _ _ us hl => match us, hl with | [_, _, _], _ => rfl),
              m_join_of := He.glo_ok X G (c.t.d.fact 30 (f := .glo "join_of") rfl),
              f_check_house := He.ga K "check_house", d_check_house := d_check_house, F_check_house := F_check_house, b_check_house := F_check_house.binds (ps := ["house"]) (fun _ _ _ _ _ _ us hl => match us, hl with | [_], _ => rfl),
              m_check_house := He.glo_ok X G (c.t.d.fact 31 (f := .glo "check_house") rfl),
              f_check_name := He.ga K "check_name", d_check_name := d_check_name, F_check_name := F_check_name, b_check_name := F_check_name.binds (ps := ["house", "name"]) (fun _ _ _ _ _ _ us hl => match us, hl with | [_, _], _ => rfl),
              m_check_name := He.glo_ok X G (c.t.d.fact 32 (f := .glo "check_name") rfl),
              f_check_kind := He.ga K "check_kind", d_check_kind := d_check_kind, F_check_kind := F_check_kind, b_check_kind := F_check_kind.binds (ps := ["house", "kind"]) (fun _ _ _ _ _ _ us hl => match us, hl with | [_, _], _ => rfl),
              m_check_kind := He.glo_ok X G (c.t.d.fact 33 (f := .glo "check_kind") rfl),
              f_check_word := He.ga K "check_word", d_check_word := d_check_word, F_check_word := F_check_word, b_check_word := F_check_word.binds (ps := ["house", "name", "word"]) (fun _ _ _ _ _ _ us hl => match us, hl with | [_, _, _], _ => rfl),
              m_check_word := He.glo_ok X G (c.t.d.fact 34 (f := .glo "check_word") rfl),
              f_upward := He.ga K "upward", d_upward := d_upward, F_upward := F_upward, b_upward := F_upward.binds (ps := ["house", "name"]) (fun _ _ _ _ _ _ us hl => match us, hl with | [_, _], _ => rfl),
              m_upward := He.glo_ok X G (c.t.d.fact 35 (f := .glo "upward") rfl),
              f_downward := He.ga K "downward", d_downward := d_downward, F_downward := F_downward, b_downward := F_downward.binds (ps := ["house", "name"]) (fun _ _ _ _ _ _ us hl => match us, hl with | [_, _], _ => rfl),
              m_downward := He.glo_ok X G (c.t.d.fact 36 (f := .glo "downward") rfl),
              f_common := He.ga K "common", d_common := d_common, F_common := F_common, b_common := F_common.binds (ps := ["house", "one", "other"]) (fun _ _ _ _ _ _ us hl => match us, hl with | [_, _, _], _ => rfl),
              m_common := He.glo_ok X G (c.t.d.fact 37 (f := .glo "common") rfl),
              f_fits := He.ga K "fits", d_fits := d_fits, F_fits := F_fits, b_fits := F_fits.binds (ps := ["house", "one", "other"]) (fun _ _ _ _ _ _ us hl => match us, hl with | [_, _, _], _ => rfl),
              m_fits := He.glo_ok X G (c.t.d.fact 38 (f := .glo "fits") rfl),
              f_joined := He.ga K "joined", d_joined := d_joined, F_joined := F_joined, b_joined := F_joined.binds (ps := ["house", "one", "other"]) (fun _ _ _ _ _ _ us hl => match us, hl with | [_, _, _], _ => rfl),
              m_joined := He.glo_ok X G (c.t.d.fact 39 (f := .glo "joined") rfl),
              f_fields_of := He.ga K "fields_of", d_fields_of := d_fields_of, F_fields_of := F_fields_of, b_fields_of := F_fields_of.binds (ps := ["house", "name"]) (fun _ _ _ _ _ _ us hl => match us, hl with | [_, _], _ => rfl),
              m_fields_of := He.glo_ok X G (c.t.d.fact 40 (f := .glo "fields_of") rfl),
              f_method_of := He.ga K "method_of", d_method_of := d_method_of, F_method_of := F_method_of, b_method_of := F_method_of.binds (ps := ["house", "name", "word"]) (fun _ _ _ _ _ _ us hl => match us, hl with | [_, _, _], _ => rfl),
              m_method_of := He.glo_ok X G (c.t.d.fact 41 (f := .glo "method_of") rfl),
              f_methods_of := He.ga K "methods_of", d_methods_of := d_methods_of, F_methods_of := F_methods_of, b_methods_of := F_methods_of.binds (ps := ["house", "name"]) (fun _ _ _ _ _ _ us hl => match us, hl with | [_, _], _ => rfl),
              m_methods_of := He.glo_ok X G (c.t.d.fact 42 (f := .glo "methods_of") rfl),
              f_overrides := He.ga K "overrides", d_overrides := d_overrides, F_overrides := F_overrides, b_overrides := F_overrides.binds (ps := ["house"]) (fun _ _ _ _ _ _ us hl => match us, hl with | [_], _ => rfl),
              m_overrides := He.glo_ok X G (c.t.d.fact 43 (f := .glo "overrides") rfl),
              f_told := He.ga K "told", d_told := d_told, F_told := F_told, m_told := He.glo_ok X G (c.t.d.fact 44 (f := .glo "told") rfl),
              f_shell_lines := He.ga K "shell_lines", d_shell_lines := d_shell_lines, F_shell_lines := F_shell_lines, b_shell_lines := F_shell_lines.binds (ps := ["row"]) (fun _ _ _ _ _ _ us hl => match us, hl with | [_], _ => rfl),
              m_shell_lines := He.glo_ok X G (c.t.d.fact 45 (f := .glo "shell_lines") rfl),
              f_head_line := He.ga K "head_line", d_head_line := d_head_line, F_head_line := F_head_line, b_head_line := F_head_line.binds (ps := ["method"]) (fun _ _ _ _ _ _ us hl => match us, hl with | [_], _ => rfl),
              m_head_line := He.glo_ok X G (c.t.d.fact 46 (f := .glo "head_line") rfl),
              f_method_lines := He.ga K "method_lines", d_method_lines := d_method_lines, F_method_lines := F_method_lines, b_method_lines := F_method_lines.binds (ps := ["method"]) (fun _ _ _ _ _ _ us hl => match us, hl with | [_], _ => rfl),
              m_method_lines := He.glo_ok X G (c.t.d.fact 47 (f := .glo "method_lines") rfl),
              f_write := He.ga K "write", d_write := d_write, F_write := F_write, b_write := F_write.binds (ps := ["house"]) (fun _ _ _ _ _ _ us hl => match us, hl with | [_], _ => rfl),
              m_write := He.glo_ok X G (c.t.d.fact 48 (f := .glo "write") rfl),
              f_is_whole := He.ga K "is_whole", d_is_whole := d_is_whole, F_is_whole := F_is_whole, b_is_whole := F_is_whole.binds (ps := ["methods"]) (fun _ _ _ _ _ _ us hl => match us, hl with | [_], _ => rfl),
              m_is_whole := He.glo_ok X G (c.t.d.fact 49 (f := .glo "is_whole") rfl),
              f_may_stand := He.ga K "may_stand", d_may_stand := d_may_stand, F_may_stand := F_may_stand, b_may_stand := F_may_stand.binds (ps := ["rows", "first"]) (fun _ _ _ _ _ _ us hl => match us, hl with | [_, _], _ => rfl),
              m_may_stand := He.glo_ok X G (c.t.d.fact 50 (f := .glo "may_stand") rfl),
              f_form_of := He.ga K "form_of", d_form_of := d_form_of, F_form_of := F_form_of, b_form_of := F_form_of.binds (ps := ["words"]) (fun _ _ _ _ _ _ us hl => match us, hl with | [_], _ => rfl),
              m_form_of := He.glo_ok X G (c.t.d.fact 51 (f := .glo "form_of") rfl),
              f_can_be := He.ga K "can_be", d_can_be := d_can_be, F_can_be := F_can_be, b_can_be := F_can_be.binds (ps := ["word", "part"]) (fun _ _ _ _ _ _ us hl => match us, hl with | [_, _], _ => rfl),
              m_can_be := He.glo_ok X G (c.t.d.fact 52 (f := .glo "can_be") rfl),
              f_bad_word := He.ga K "bad_word", d_bad_word := d_bad_word, F_bad_word := F_bad_word, b_bad_word := F_bad_word.binds (ps := ["rows", "words"]) (fun _ _ _ _ _ _ us hl => match us, hl with | [_, _], _ => rfl),
              m_bad_word := He.glo_ok X G (c.t.d.fact 53 (f := .glo "bad_word") rfl),
              f_part_of := He.ga K "part_of", d_part_of := d_part_of, F_part_of := F_part_of, b_part_of := F_part_of.binds (ps := ["word", "part"]) (fun _ _ _ _ _ _ us hl => match us, hl with | [_, _], _ => rfl),
              m_part_of := He.glo_ok X G (c.t.d.fact 54 (f := .glo "part_of") rfl),
              f_add_line := He.ga K "add_line", d_add_line := d_add_line, F_add_line := F_add_line, b_add_line := F_add_line.binds (ps := ["rows", "words"]) (fun _ _ _ _ _ _ us hl => match us, hl with | [_, _], _ => rfl),
              m_add_line := He.glo_ok X G (c.t.d.fact 55 (f := .glo "add_line") rfl),
              f_method_made := He.ga K "method_made", d_method_made := d_method_made, F_method_made := F_method_made, b_method_made := F_method_made.binds (ps := ["method"]) (fun _ _ _ _ _ _ us hl => match us, hl with | [_], _ => rfl),
              m_method_made := He.glo_ok X G (c.t.d.fact 56 (f := .glo "method_made") rfl),
              f_class_made := He.ga K "class_made", d_class_made := d_class_made, F_class_made := F_class_made, b_class_made := F_class_made.binds (ps := ["row"]) (fun _ _ _ _ _ _ us hl => match us, hl with | [_], _ => rfl),
              m_class_made := He.glo_ok X G (c.t.d.fact 57 (f := .glo "class_made") rfl),
              f_read := He.ga K "read", d_read := d_read, F_read := F_read, b_read := F_read.binds (ps := ["text"]) (fun _ _ _ _ _ _ us hl => match us, hl with | [_], _ => rfl),
              m_read := He.glo_ok X G (c.t.d.fact 58 (f := .glo "read") rfl),
              f__law_taken := He.ga K "_law_taken", d__law_taken := d__law_taken, F__law_taken := F__law_taken, b__law_taken := F__law_taken.binds (ps := ["row", "many"]) (fun _ _ _ _ _ _ us hl => match us, hl with | [_, _], _ => rfl),
              m__law_taken := He.glo_ok X G (c.t.d.fact 59 (f := .glo "_law_taken") rfl),
              f_law := He.ga K "law", d_law := d_law, F_law := F_law, b_law := F_law.binds (ps := ["script"]) (fun _ _ _ _ _ _ us hl => match us, hl with | [_], _ => rfl),
              m_law := He.glo_ok X G (c.t.d.fact 60 (f := .glo "law") rfl),
              u_TOP := u_TOP, v_TOP := v_TOP, m_TOP := m_TOP, r_TOP := r_TOP, k_TOP := k_TOP,
              u_LETTERS := u_LETTERS, v_LETTERS := v_LETTERS, m_LETTERS := m_LETTERS, r_LETTERS := r_LETTERS, k_LETTERS := k_LETTERS,
              a_PARTS := He.ga K "PARTS", m_PARTS := He.glo_ok X G (c.t.d.fact 61 (f := .glo "PARTS") rfl), t_PARTS := tabK_ok tb0 (exs_at c.ex 2 (e := fun K => tabK K (He.ga K "PARTS") tb_PARTS) rfl),
              u_LAST := u_LAST, v_LAST := v_LAST, m_LAST := m_LAST, r_LAST := r_LAST, k_LAST := k_LAST,
              u_TAKEN_NAMES := u_TAKEN_NAMES, v_TAKEN_NAMES := v_TAKEN_NAMES, m_TAKEN_NAMES := m_TAKEN_NAMES, r_TAKEN_NAMES := r_TAKEN_NAMES, k_TAKEN_NAMES := k_TAKEN_NAMES,
              u_LOOSE_KINDS := u_LOOSE_KINDS, v_LOOSE_KINDS := v_LOOSE_KINDS, m_LOOSE_KINDS := m_LOOSE_KINDS, r_LOOSE_KINDS := r_LOOSE_KINDS, k_LOOSE_KINDS := k_LOOSE_KINDS,
              a_FORMS := He.ga K "FORMS", m_FORMS := He.glo_ok X G (c.t.d.fact 62 (f := .glo "FORMS") rfl), t_FORMS := tabK_ok tb1 (exs_at c.ex 6 (e := fun K => tabK K (He.ga K "FORMS") tb_FORMS) rfl),
              a_GREATEST := He.ga K "GREATEST", m_GREATEST := He.glo_ok X G (c.t.d.fact 63 (f := .glo "GREATEST") rfl), t_GREATEST := tabK_ok tb2 (exs_at c.ex 7 (e := fun K => tabK K (He.ga K "GREATEST") tb_GREATEST) rfl),
              z_len := He.free_ok X G (c.t.d.fact 64 (f := .free "len") rfl),
              z_int := He.free_ok X G (c.t.d.fact 65 (f := .free "int") rfl),
              z_str := He.free_ok X G (c.t.d.fact 66 (f := .free "str") rfl),
              z_tuple := He.free_ok X G (c.t.d.fact 67 (f := .free "tuple") rfl),
              z_list := He.free_ok X G (c.t.d.fact 68 (f := .free "list") rfl),
              z_dict := He.free_ok X G (c.t.d.fact 69 (f := .free "dict") rfl),
              z_bool := He.free_ok X G (c.t.d.fact 70 (f := .free "bool") rfl),
              z_isinstance := He.free_ok X G (c.t.d.fact 71 (f := .free "isinstance") rfl),
              z_all := He.free_ok X G (c.t.d.fact 72 (f := .free "all") rfl),
              z_any := He.free_ok X G (c.t.d.fact 73 (f := .free "any") rfl),
              z_range := He.free_ok X G (c.t.d.fact 74 (f := .free "range") rfl),
              z_enumerate := He.free_ok X G (c.t.d.fact 75 (f := .free "enumerate") rfl),
              z_zip := He.free_ok X G (c.t.d.fact 76 (f := .free "zip") rfl),
              z_reversed := He.free_ok X G (c.t.d.fact 77 (f := .free "reversed") rfl),
              z_sorted := He.free_ok X G (c.t.d.fact 78 (f := .free "sorted") rfl),
              z_min := He.free_ok X G (c.t.d.fact 79 (f := .free "min") rfl),
              z_max := He.free_ok X G (c.t.d.fact 80 (f := .free "max") rfl),
              z_super := He.free_ok X G (c.t.d.fact 81 (f := .free "super") rfl),
              C_House := (He.ga K "House"), m_House := He.glo_ok X G (c.t.d.fact 83 (f := .glo "House") rfl), cl_House := (He.cls_ok (c.t.d.fact 82 (f := .cls "House") rfl)), oc_House := ownB_ok (He.cls_ok (c.t.d.fact 82 (f := .cls "House") rfl)) (exs_at c.ex 8 (e := fun K => ownB K (He.ga K "House")) rfl), mk_House := He.mkr_ok (c.t.d.fact 84 (f := .mkr "House") rfl),
              na_House__classes := He.noat_ok (c.t.d.fact 85 (f := .noat "House" "_classes") rfl),
              p_House_classes := prP K (He.ga K "House") "classes", pr_House_classes := prB_ok (exs_at c.ex 9 (e := fun K => prB K (He.ga K "House") "classes") rfl),
              eq_House := MI.eqB_ok (exs_at c.ex 10 (e := fun K => MI.eqB K (He.ga K "House") (He.ma K (He.ga K "House") "__eq__")) rfl),
              C_ClassError := (He.ga K "ClassError"), m_ClassError := He.glo_ok X G (c.t.d.fact 86 (f := .glo "ClassError") rfl), e_ClassError := (exs_at c.ex 11 (e := fun K => (PySem.W.excIn K (He.ga K "ClassError") [.type "ValueError", .type "Exception", .type "BaseException", .type "object"] "ValueError.__new__" && (PySem.W.keepIn K (.ref (He.ga K "ClassError")) && (decide (PySem.W.subIn K (.ref (He.ga K "ClassError")) (.type "BaseException") = some true) && decide (PySem.W.typeIn K (.ref (He.ga K "ClassError")) = some (.type "type")))))) rfl),
              C_NoHouse := (He.ga K "NoHouse"), m_NoHouse := He.glo_ok X G (c.t.d.fact 87 (f := .glo "NoHouse") rfl),
              C_BadName := (He.ga K "BadName"), m_BadName := He.glo_ok X G (c.t.d.fact 88 (f := .glo "BadName") rfl),
              C_BadKind := (He.ga K "BadKind"), m_BadKind := He.glo_ok X G (c.t.d.fact 89 (f := .glo "BadKind") rfl),
              C_BadWord := (He.ga K "BadWord"), m_BadWord := He.glo_ok X G (c.t.d.fact 90 (f := .glo "BadWord") rfl),
              C_NoText := (He.ga K "NoText"), m_NoText := He.glo_ok X G (c.t.d.fact 91 (f := .glo "NoText") rfl),
              x_ClassError_ClassError := (exs_at c.ex 12 (e := fun K => decide (PySem.W.exmOne K (.ref (He.ga K "ClassError")) (.ref (He.ga K "ClassError")) = some true)) rfl) }, rfl⟩
def nm0 : List PySem.Str := ["__name__", "ClassError", "BadClasses", "BadFields", "BadMethods", "BadCode", "BadHandlers", "NoHouse", "BadName", "BadKind", "BadWord", "InvalidText", "NoText", "TOP", "is_class", "names_of", "class_of", "line_up", "line_down", "fields_up", "field_kind", "nearest", "method_at", "nearest_method", "LETTERS", "is_word", "is_number", "is_tuple", "PARTS", "LAST"]
def nm1 : List PySem.Str := ["can_be_part", "is_step", "bad_step", "is_handler", "bad_handler", "TAKEN_NAMES", "is_new_class", "check_names", "is_told_kind", "are_fields", "is_method", "check_methods", "check_code", "check_shells", "check_classes", "House", "LOOSE_KINDS", "is_kind", "does_fit", "first_common", "join_of", "check_house", "check_name", "check_kind", "check_word", "upward", "downward", "common", "fits", "joined"]
def nm2 : List PySem.Str := ["fields_of", "method_of", "methods_of", "overrides", "FORMS", "GREATEST", "told", "shell_lines", "head_line", "method_lines", "write", "is_whole", "may_stand", "form_of", "can_be", "bad_word", "part_of", "add_line", "method_made", "class_made", "read", "_law_taken"]
def tnames : List PySem.Str := nm0 ++ nm1 ++ nm2
abbrev R : PySem.W.OpenRow := PySem.W.OpenLaw.row PySem.Challenge.rw_classhouse_k11_known_houses
abbrev qv : Program := PySem.W.view R.prog [92]
def asL : List Addr := [3, 6, 4, 24, 46, 67, 88, 109, 130, 142, 154, 166, 178, 199, 211, 216, 223, 228, 235, 242, 247, 254, 261, 268, 275, 282, 287, 294, 301, 302, 326, 333, 340, 347, 354, 361, 362, 369, 376, 383, 388, 393, 400, 407, 414, 421, 453, 458, 465, 472, 477, 484, 491, 498, 505, 512, 519, 526, 533, 540, 547, 554, 561, 568, 575, 576, 581, 586, 591, 598, 603, 610, 617, 624, 631, 636, 643, 650, 655, 662, 667, 672, 679, 684, 0, 23, 45, 66, 87, 108, 129, 141, 153, 165, 177, 198, 210, 214, 215, 222, 227, 234, 241, 246, 253, 260, 267, 274, 281, 286, 293, 300, 303, 304, 305, 306, 307, 308, 309, 310, 311, 312, 313, 314, 315, 316, 317, 318, 319, 321, 322, 323, 324, 325, 332, 339, 346, 353, 360, 368, 375, 382, 387, 392, 399, 406, 413, 420, 452, 464, 471, 476, 483, 490, 497, 504, 511, 518, 525, 532, 539, 546, 553, 560, 567, 574, 577, 578, 579, 580, 585, 590, 597, 602, 609, 616, 623, 630, 635, 642, 649, 654, 661, 666, 671, 678, 683, 22, 25, 43, 44, 64, 65, 85, 86, 106, 107, 127, 128, 140, 152, 164, 176, 196, 197, 209, 217, 218, 219, 220, 221, 224, 225, 226, 229, 230, 231, 232, 233, 236, 237, 238, 239, 240, 243, 244, 245, 248, 249, 250, 251, 252, 255, 256, 257, 258, 259, 262, 263, 264, 265, 266, 269, 270, 271, 272, 273, 276, 277, 278, 279, 280, 283, 284, 285, 288, 289, 290, 291, 292, 295, 296, 297, 298, 299, 327, 328, 329, 330, 331, 334, 335, 336, 337, 338, 341, 342, 343, 344, 345, 348, 349, 350, 351, 352, 355, 356, 357, 358, 359, 363, 364, 365, 366, 367, 370, 371, 372, 373, 374, 377, 378, 379, 380, 381, 384, 385, 386, 389, 390, 391, 394, 395, 396, 397, 398, 401, 402, 403, 404, 405, 408, 409, 410, 411, 412, 415, 416, 417, 418, 419, 435, 443, 450, 451, 454, 455, 459, 460, 461, 462, 463, 466, 467, 468, 469, 470, 473, 474, 475, 478, 479, 480, 481, 482, 485, 486, 487, 488, 489, 492, 493, 494, 495, 496, 499, 500, 501, 502, 503, 506, 507, 508, 509, 510, 513, 514, 515, 516, 517, 520, 521, 522, 523, 524, 527, 528, 529, 530, 531, 534, 535, 536, 537, 538, 541, 542, 543, 544, 545, 548, 549, 550, 551, 552, 555, 556, 557, 558, 559, 562, 563, 564, 565, 566, 569, 570, 571, 572, 573, 582, 583, 584, 587, 588, 589, 592, 593, 594, 595, 596, 599, 600, 601, 604, 605, 606, 607, 608, 611, 612, 613, 614, 615, 618, 619, 620, 621, 622, 625, 626, 627, 628, 629, 632, 633, 634, 637, 638, 639, 640, 641, 644, 645, 646, 647, 648, 651, 652, 653, 656, 657, 658, 659, 660, 663, 664, 665, 668, 669, 670, 673, 674, 675, 676, 677, 680, 681, 682, 42, 31, 63, 52, 84, 73, 105, 94, 126, 115, 195, 184, 434, 442, 449, 37, 38, 39, 40, 41, 58, 59, 60, 61, 62, 79, 80, 81, 82, 83, 100, 101, 102, 103, 104, 121, 122, 123, 124, 125, 190, 191, 192, 193, 194, 429, 430, 431, 432, 433, 441, 444, 445, 446, 447, 448, 436, 437, 438, 439, 440]
abbrev hk : PySem.W.Hook := hookL asL fa ts ex fs
def lk (s : PySem.W.SharedT) : MI.Seen := lookL asL fa ts ex fs s
theorem comb3 {α A B C : Type} {e : Option α} {x : α → A} {y : α → B} {z : α → C} {a : A} {b : B} {c : C} (h1 : e.map (fun s => (x s, y s)) = some (a, b)) (h2 : e.map z = some c) : e.map (fun s => (x s, y s, z s)) = some (a, b, c) := by
  cases e with
  | none => cases h1
  | some s =>
    have h1 : some (x s, y s) = some (a, b) := h1
    have h2 : some (z s) = some c := h2
    cases h1
    cases h2
    rfl
section
open HandSHeadRun PySem PySem.W PySem.Calls PyProof.Rows
theorem rb_false (w : World) (os : OsState) : (endF (stepQ (denQ tabQ) R.prog (w.withFollow "special-get-raises" false)) 7000 R.prog (w.withFollow "special-get-raises" false) os).map lk = some (hk.val (w.withFollow "special-get-raises" false)) := by
  kernel_rfl
theorem rb_true (w : World) (os : OsState) : (endF (stepQ (denQ tabQ) R.prog (w.withFollow "special-get-raises" true)) 7000 R.prog (w.withFollow "special-get-raises" true) os).map lk = some (hk.val (w.withFollow "special-get-raises" true)) := by
  kernel_rfl
theorem ra_false (w : World) (os : OsState) : (endF (stepQ (denQ tabQ) R.prog (w.withFollow "special-get-raises" false)) 7000 R.prog (w.withFollow "special-get-raises" false) os).map (fun s => (looksF R.prog (boot_heap (w.withFollow "special-get-raises" false).params) s.abs, seenQ qv tnames (importedModules R.prog.main.body) (fun s => xlAt qv [] s && recOk R.toRowW.records s) s.abs)) = some (true, openGood qv tnames) := by
  kernel_rfl
theorem ra_true (w : World) (os : OsState) : (endF (stepQ (denQ tabQ) R.prog (w.withFollow "special-get-raises" true)) 7000 R.prog (w.withFollow "special-get-raises" true) os).map (fun s => (looksF R.prog (boot_heap (w.withFollow "special-get-raises" true).params) s.abs, seenQ qv tnames (importedModules R.prog.main.body) (fun s => xlAt qv [] s && recOk R.toRowW.records s) s.abs)) = some (true, openGood qv tnames) := by
  kernel_rfl
theorem run_false (w : World) : RunEq R qv hk lk 7000 tnames (w.withFollow "special-get-raises" false) := fun os => comb3 (ra_false w os) (rb_false w os)
theorem run_true (w : World) : RunEq R qv hk lk 7000 tnames (w.withFollow "special-get-raises" true) := fun os => comb3 (ra_true w os) (rb_true w os)
end
theorem run (w : World) : HandSHeadRun.RunEq R qv hk lk 7000 tnames w := PySem.W.byRow2 "special-get-raises" (P := fun w => HandSHeadRun.RunEq R qv hk lk 7000 tnames w) run_false run_true w
end K11
set_option Elab.async false
set_option linter.all false
set_option maxRecDepth 100000
set_option maxHeartbeats 1000000
namespace K11
open PySem PySem.Spec PyProof.Rows L2 MI
def d_names_of : DenS :=
  (sRet (dTup (aCons (dC (.str "top")) (aStar (dLc 4096 (iAnyD (dVar 0)) (gN 1) bYes (dBin fIx (dVar 1) (dC (.int 0))) [1]) aNil))))
def D_names_of : FnM := mkFn (List.length (["classes"] : List Str)) (List.length n_names_of) d_names_of
theorem ok_names_of {P : Program} {w : World} {K : PySem.W.Frag} {mg : Str → Option Value} {base : Heap} (T : Txt K mg w) : FnOk P w K mg base (L2.CX P w) 1 T.f_names_of T.d_names_of ["classes"] (spF (GG T) D_names_of) :=
  fn_ok (N := n_names_of) (ps := ["classes"]) (k := 0) (G := GG T) (body := d_names_of) T.F_names_of sc_names_of fun cdv A outer s H E hr => by
  unfold d_names_of
  exact (dss_one (ds_ret (de_tup (da_cons de_str (da_star rfl (de_lc (f := 4096) (own := [("row", 1)]) rfl sc_names_of.nd (di_any rfl (de_var 0)) (blkOk_by (own := [("row", 1)]) (N := n_names_of) (sc := defScope s_names_of) (by decide +kernel)) (fun _ _ _ _ _ => (dg_name 1 sc_names_of.nd)) (fun _ _ _ _ _ => dts_nil) (fun _ _ _ _ _ => (de_ix rfl hr.units (de_var 1) de_int))) da_nil)))))
def d_is_class : DenS :=
  (sRet (dBin fIn (dVar 1) (dCall D_names_of (aCons (dVar 0) aNil))))
def D_is_class : FnM := mkFn (List.length (["classes", "name"] : List Str)) (List.length n_is_class) d_is_class
theorem ok_is_class {P : Program} {w : World} {K : PySem.W.Frag} {mg : Str → Option Value} {base : Heap} (T : Txt K mg w) : FnOk P w K mg base (L2.CX P w) 2 T.f_is_class T.d_is_class ["classes", "name"] (spF (GG T) D_is_class) :=
  fn_ok (N := n_is_class) (ps := ["classes", "name"]) (k := 1) (G := GG T) (body := d_is_class) T.F_is_class sc_is_class fun cdv A outer s H E hr => by
  unfold d_is_class
  exact (dss_one (ds_ret (de_cmp' (cmp_in rfl) (de_var 1) (de_call (takes_of rfl rfl rfl rfl) (ok_names_of T) (hr.mono (by decide)) (by rfl) T.m_names_of T.F_names_of.kp T.b_names_of (da_cons (de_var 0) da_nil)) (by rfl))))
def d_class_of : DenS :=
  (sSeq (sFor 4096 (iAnyD (dVar 0)) (gN 2) (sIf (bCmp fEq (dBin fIx (dVar 2) (dC (.int 0))) (dVar 1)) (sRet (dVar 2)) sNil))
  (sRet (dC c_TOP)))
def D_class_of : FnM := mkFn (List.length (["classes", "name"] : List Str)) (List.length n_class_of) d_class_of
theorem ok_class_of {P : Program} {w : World} {K : PySem.W.Frag} {mg : Str → Option Value} {base : Heap} (T : Txt K mg w) : FnOk P w K mg base (L2.CX P w) 1 T.f_class_of T.d_class_of ["classes", "name"] (spF (GG T) D_class_of) :=
  fn_ok (N := n_class_of) (ps := ["classes", "name"]) (k := 0) (G := GG T) (body := d_class_of) T.F_class_of sc_class_of fun cdv A outer s H E hr => by
  unfold d_class_of
  exact (dss_cons (ds_for (f := 4096) (passes_of rfl) rfl (di_any rfl (de_var 0)) (dg_name 2 sc_class_of.nd) (dss_one (ds_if (dt_cmp (cmp_eq rfl hr.units) (de_ix rfl hr.units (de_var 2) de_int) (de_var 1) (nomark _)) (dss_one (ds_ret (de_var 2))) dss_nil)))
    (dss_one (ds_ret (de_glob (by rfl) T.m_TOP T.r_TOP (T.k_TOP _ _ _ _)))))
def d_line_up : DenS :=
  (sSeq (sAsg (dLst aNil) (gN 2))
  (sSeq (whM (bCmp fNe (dVar 1) (dC (.str "top"))) (sSeq (sExpr (dMet isLst fAppend (dVar 2) (aCons (dVar 1) aNil)))
  (sAsg (dBin fIx (dCall D_class_of (aCons (dVar 0) (aCons (dVar 1) aNil))) (dC (.int 1))) (gN 1))) 4096)
  (sRet (dTup (aStar (dVar 2) (aCons (dC (.str "top")) aNil))))))
def D_line_up : FnM := mkFn (List.length (["classes", "name"] : List Str)) (List.length n_line_up) d_line_up
theorem ok_line_up {P : Program} {w : World} {K : PySem.W.Frag} {mg : Str → Option Value} {base : Heap} (T : Txt K mg w) : FnOk P w K mg base (L2.CX P w) 2 T.f_line_up T.d_line_up ["classes", "name"] (spF (GG T) D_line_up) :=
  fn_ok (N := n_line_up) (ps := ["classes", "name"]) (k := 1) (G := GG T) (body := d_line_up) T.F_line_up sc_line_up fun cdv A outer s H E hr => by
  unfold d_line_up
  exact (dss_cons (ds_set 2 sc_line_up.nd (de_lst da_nil))
    (dss_cons (ds_while (f := 4096) (passes_of rfl) (dt_cmp (cmp_ne rfl hr.units) (de_var 1) de_str (nomark _)) (dss_cons (ds_expr (de_append rfl (de_var 2) (da_cons (de_var 1) da_nil)))
    (dss_one (ds_set 1 sc_line_up.nd (de_ix rfl hr.units (de_call (takes_of rfl rfl rfl rfl) (ok_class_of T) (hr.mono (by decide)) (by rfl) T.m_class_of T.F_class_of.kp T.b_class_of (da_cons (de_var 0) (da_cons (de_var 1) da_nil))) de_int)))))
    (dss_one (ds_ret (de_tup (da_star rfl (de_var 2) (da_cons de_str da_nil)))))))
def d_line_down : DenS :=
  (sRet (dUn fTupOf (dLc 4096 (iAnyD (dCall D_names_of (aCons (dVar 0) aNil))) (gN 2) (bCmp fIn (dVar 1) (dCall D_line_up (aCons (dVar 0) (aCons (dVar 2) aNil)))) (dVar 2) [2])))
def D_line_down : FnM := mkFn (List.length (["classes", "name"] : List Str)) (List.length n_line_down) d_line_down
theorem ok_line_down {P : Program} {w : World} {K : PySem.W.Frag} {mg : Str → Option Value} {base : Heap} (T : Txt K mg w) : FnOk P w K mg base (L2.CX P w) 3 T.f_line_down T.d_line_down ["classes", "name"] (spF (GG T) D_line_down) :=
  fn_ok (N := n_line_down) (ps := ["classes", "name"]) (k := 2) (G := GG T) (body := d_line_down) T.F_line_down sc_line_down fun cdv A outer s H E hr => by
  unfold d_line_down
  exact (dss_one (ds_ret (de_tupOf rfl (by rfl) T.z_tuple (de_lc (f := 4096) (own := [("below", 2)]) rfl sc_line_down.nd (di_any rfl (de_call (takes_of rfl rfl rfl rfl) (ok_names_of T) (hr.mono (by decide)) (by rfl) T.m_names_of T.F_names_of.kp T.b_names_of (da_cons (de_var 0) da_nil))) (blkOk_by (own := [("below", 2)]) (N := n_line_down) (sc := defScope s_line_down) (by decide +kernel)) (fun _ _ _ _ _ => (dg_name 2 sc_line_down.nd)) (fun _ _ _ _ _ => (dts_one (dt_cmp (cmp_in rfl) (de_var 1) (de_call takes0 (ok_line_up T) (hr.mono (by decide)) (by rfl) T.m_line_up T.F_line_up.kp T.b_line_up (da_cons (de_var 0) (da_cons (de_var 2) da_nil))) (by rfl)))) (fun _ _ _ _ _ => (de_var 2))))))
def d_fields_up : DenS :=
  (sSeq (sAsg (dLst aNil) (gN 2))
  (sSeq (sFor 4096 (iAnyD (dUn fBack (dCall D_line_up (aCons (dVar 0) (aCons (dVar 1) aNil))))) (gN 3) (sExpr (dMet isLst fExtend (dVar 2) (aCons (dBin fIx (dCall D_class_of (aCons (dVar 0) (aCons (dVar 3) aNil))) (dC (.int 2))) aNil))))
  (sRet (dUn fTupOf (dVar 2)))))
def D_fields_up : FnM := mkFn (List.length (["classes", "name"] : List Str)) (List.length n_fields_up) d_fields_up
theorem ok_fields_up {P : Program} {w : World} {K : PySem.W.Frag} {mg : Str → Option Value} {base : Heap} (T : Txt K mg w) : FnOk P w K mg base (L2.CX P w) 3 T.f_fields_up T.d_fields_up ["classes", "name"] (spF (GG T) D_fields_up) :=
  fn_ok (N := n_fields_up) (ps := ["classes", "name"]) (k := 2) (G := GG T) (body := d_fields_up) T.F_fields_up sc_fields_up fun cdv A outer s H E hr => by
  unfold d_fields_up
  exact (dss_cons (ds_set 2 sc_fields_up.nd (de_lst da_nil))
    (dss_cons (ds_for (f := 4096) (passes_of rfl) rfl (di_any rfl (de_back rfl (de_call (takes_of rfl rfl rfl rfl) (ok_line_up T) (hr.mono (by decide)) (by rfl) T.m_line_up T.F_line_up.kp T.b_line_up (da_cons (de_var 0) (da_cons (de_var 1) da_nil))))) (dg_name 3 sc_fields_up.nd) (dss_one (ds_expr (de_extend rfl (de_var 2) (da_cons (de_ix rfl hr.units (de_call (takes_of rfl rfl rfl rfl) (ok_class_of T) (hr.mono (by decide)) (by rfl) T.m_class_of T.F_class_of.kp T.b_class_of (da_cons (de_var 0) (da_cons (de_var 3) da_nil))) de_int) da_nil)))))
    (dss_one (ds_ret (de_tupOf rfl (by rfl) T.z_tuple (de_var 2))))))
def d_field_kind : DenS :=
  (sSeq (sFor 4096 (iAnyD (dCall D_fields_up (aCons (dVar 0) (aCons (dVar 1) aNil)))) (gT (gsCons (gN 3) (gsCons (gN 4) gsNil))) (sIf (bCmp fEq (dVar 3) (dVar 2)) (sRet (dVar 4)) sNil))
  (sRet (dC .non)))
def D_field_kind : FnM := mkFn (List.length (["classes", "name", "word"] : List Str)) (List.length n_field_kind) d_field_kind
theorem ok_field_kind {P : Program} {w : World} {K : PySem.W.Frag} {mg : Str → Option Value} {base : Heap} (T : Txt K mg w) : FnOk P w K mg base (L2.CX P w) 4 T.f_field_kind T.d_field_kind ["classes", "name", "word"] (spF (GG T) D_field_kind) :=
  fn_ok (N := n_field_kind) (ps := ["classes", "name", "word"]) (k := 3) (G := GG T) (body := d_field_kind) T.F_field_kind sc_field_kind fun cdv A outer s H E hr => by
  unfold d_field_kind
  exact (dss_cons (ds_for (f := 4096) (passes_of rfl) rfl (di_any rfl (de_call (takes_of rfl rfl rfl rfl) (ok_fields_up T) (hr.mono (by decide)) (by rfl) T.m_fields_up T.F_fields_up.kp T.b_fields_up (da_cons (de_var 0) (da_cons (de_var 1) da_nil)))) (dg_tup rfl rfl (dgs_cons (dg_name 3 sc_field_kind.nd) (dgs_cons (dg_name 4 sc_field_kind.nd) dgs_nil)) (gs_len (gs_len gs_len0))) (dss_one (ds_if (dt_cmp (cmp_eq rfl hr.units) (de_var 3) (de_var 2) (nomark _)) (dss_one (ds_ret (de_var 4))) dss_nil)))
    (dss_one (ds_ret de_non)))
def d_nearest : DenS :=
  (sSeq (sFor 4096 (iAnyD (dCall D_line_up (aCons (dVar 0) (aCons (dVar 1) aNil)))) (gN 3) (sFor 4096 (iRng enumOf (aCons (dBin fIx (dCall D_class_of (aCons (dVar 0) (aCons (dVar 3) aNil))) (dC (.int 3))) aNil)) (gT (gsCons (gN 4) (gsCons (gN 5) gsNil))) (sIf (bCmp fEq (dBin fIx (dVar 5) (dC (.int 0))) (dVar 2)) (sRet (dTup (aCons (dVar 3) (aCons (dVar 4) aNil)))) sNil)))
  (sRet (dC .non)))
def D_nearest : FnM := mkFn (List.length (["classes", "name", "word"] : List Str)) (List.length n_nearest) d_nearest
theorem ok_nearest {P : Program} {w : World} {K : PySem.W.Frag} {mg : Str → Option Value} {base : Heap} (T : Txt K mg w) : FnOk P w K mg base (L2.CX P w) 3 T.f_nearest T.d_nearest ["classes", "name", "word"] (spF (GG T) D_nearest) :=
  fn_ok (N := n_nearest) (ps := ["classes", "name", "word"]) (k := 2) (G := GG T) (body := d_nearest) T.F_nearest sc_nearest fun cdv A outer s H E hr => by
  unfold d_nearest
  exact (dss_cons (ds_for (f := 4096) (passes_of rfl) rfl (di_any rfl (de_call (takes_of rfl rfl rfl rfl) (ok_line_up T) (hr.mono (by decide)) (by rfl) T.m_line_up T.F_line_up.kp T.b_line_up (da_cons (de_var 0) (da_cons (de_var 1) da_nil)))) (dg_name 3 sc_nearest.nd) (dss_one (ds_for (f := 4096) (passes_of rfl) rfl (di_enum rfl (by rfl) T.z_enumerate (da_cons (de_ix rfl hr.units (de_call (takes_of rfl rfl rfl rfl) (ok_class_of T) (hr.mono (by decide)) (by rfl) T.m_class_of T.F_class_of.kp T.b_class_of (da_cons (de_var 0) (da_cons (de_var 3) da_nil))) de_int) da_nil)) (dg_tup rfl rfl (dgs_cons (dg_name 4 sc_nearest.nd) (dgs_cons (dg_name 5 sc_nearest.nd) dgs_nil)) (gs_len (gs_len gs_len0))) (dss_one (ds_if (dt_cmp (cmp_eq rfl hr.units) (de_ix rfl hr.units (de_var 5) de_int) (de_var 2) (nomark _)) (dss_one (ds_ret (de_tup (da_cons (de_var 3) (da_cons (de_var 4) da_nil))))) dss_nil)))))
    (dss_one (ds_ret de_non)))
def d_method_at : DenS :=
  (sRet (dBin fIx (dBin fIx (dCall D_class_of (aCons (dVar 0) (aCons (dVar 1) aNil))) (dC (.int 3))) (dVar 2)))
def D_method_at : FnM := mkFn (List.length (["classes", "name", "place"] : List Str)) (List.length n_method_at) d_method_at
theorem ok_method_at {P : Program} {w : World} {K : PySem.W.Frag} {mg : Str → Option Value} {base : Heap} (T : Txt K mg w) : FnOk P w K mg base (L2.CX P w) 2 T.f_method_at T.d_method_at ["classes", "name", "place"] (spF (GG T) D_method_at) :=
  fn_ok (N := n_method_at) (ps := ["classes", "name", "place"]) (k := 1) (G := GG T) (body := d_method_at) T.F_method_at sc_method_at fun cdv A outer s H E hr => by
  unfold d_method_at
  exact (dss_one (ds_ret (de_ix rfl hr.units (de_ix rfl hr.units (de_call (takes_of rfl rfl rfl rfl) (ok_class_of T) (hr.mono (by decide)) (by rfl) T.m_class_of T.F_class_of.kp T.b_class_of (da_cons (de_var 0) (da_cons (de_var 1) da_nil))) de_int) (de_var 2))))
def d_nearest_method : DenS :=
  (sSeq (sAsg (dCall D_nearest (aCons (dVar 0) (aCons (dVar 1) (aCons (dVar 2) aNil)))) (gT (gsCons (gN 3) (gsCons (gN 4) gsNil))))
  (sRet (dCall D_method_at (aCons (dVar 0) (aCons (dVar 3) (aCons (dVar 4) aNil))))))
def D_nearest_method : FnM := mkFn (List.length (["classes", "name", "word"] : List Str)) (List.length n_nearest_method) d_nearest_method
theorem ok_nearest_method {P : Program} {w : World} {K : PySem.W.Frag} {mg : Str → Option Value} {base : Heap} (T : Txt K mg w) : FnOk P w K mg base (L2.CX P w) 4 T.f_nearest_method T.d_nearest_method ["classes", "name", "word"] (spF (GG T) D_nearest_method) :=
  fn_ok (N := n_nearest_method) (ps := ["classes", "name", "word"]) (k := 3) (G := GG T) (body := d_nearest_method) T.F_nearest_method sc_nearest_method fun cdv A outer s H E hr => by
  unfold d_nearest_method
  exact (dss_cons (ds_asg (de_call (takes_of rfl rfl rfl rfl) (ok_nearest T) (hr.mono (by decide)) (by rfl) T.m_nearest T.F_nearest.kp T.b_nearest (da_cons (de_var 0) (da_cons (de_var 1) (da_cons (de_var 2) da_nil)))) (dg_tup rfl rfl (dgs_cons (dg_name 3 sc_nearest_method.nd) (dgs_cons (dg_name 4 sc_nearest_method.nd) dgs_nil)) (gs_len (gs_len gs_len0))))
    (dss_one (ds_ret (de_call (takes_of rfl rfl rfl rfl) (ok_method_at T) (hr.mono (by decide)) (by rfl) T.m_method_at T.F_method_at.kp T.b_method_at (da_cons (de_var 0) (da_cons (de_var 3) (da_cons (de_var 4) da_nil)))))))
def d_is_word : DenS :=
  (sSeq (sIf (bOr (bNot (bTru (dUn (fIsT "str") (dVar 0)))) (bNot (fun ρ S => ((dChain fLe fLe (dC (.int 1)) (dCall fLen (aCons (dVar 0) aNil)) (dC (.int 6))) ρ S).bind boolOf))) (sRet (dC (.bl false))) sNil)
  (sRet (dCall (fAllAny fun bs => bs.all id) (aCons (dLc 4096 (iAnyD (dVar 0)) (gN 1) bYes (dBin fIn (dVar 1) (dC c_LETTERS)) [1]) aNil))))
def D_is_word : FnM := mkFn (List.length (["value"] : List Str)) (List.length n_is_word) d_is_word
theorem ok_is_word {P : Program} {w : World} {K : PySem.W.Frag} {mg : Str → Option Value} {base : Heap} (T : Txt K mg w) : FnOk P w K mg base (L2.CX P w) 1 T.f_is_word T.d_is_word ["value"] (spF (GG T) D_is_word) :=
  fn_ok (N := n_is_word) (ps := ["value"]) (k := 0) (G := GG T) (body := d_is_word) T.F_is_word sc_is_word fun cdv A outer s H E hr => by
  unfold d_is_word
  exact (dss_cons (ds_if (dw_dt (dw_or (dt_not (dt_truth rfl (de_isT (T := "str") rfl (by rfl) T.z_isinstance (by rfl) T.z_str (by decide +kernel) kit_str (by decide) (by decide) (de_var 0)))) (dw_or1 (dt_not (dt_chain cmp_le cmp_le de_int (de_len rfl (by rfl) T.z_len (da_cons (de_var 0) da_nil)) de_int))))) (dss_one (ds_ret de_bl)) dss_nil)
    (dss_one (ds_ret (de_all rfl rfl (by rfl) T.z_all (da_cons (de_lc (f := 4096) (own := [("letter", 1)]) rfl sc_is_word.nd (di_any rfl (de_var 0)) (blkOk_by (own := [("letter", 1)]) (N := n_is_word) (sc := defScope s_is_word) (by decide +kernel)) (fun _ _ _ _ _ => (dg_name 1 sc_is_word.nd)) (fun _ _ _ _ _ => dts_nil) (fun _ _ _ _ _ => (de_cmp' (cmp_in rfl) (de_var 1) (de_glob (by rfl) T.m_LETTERS T.r_LETTERS (T.k_LETTERS _ _ _ _)) (by rfl)))) da_nil)))))
def d_is_number : DenS :=
  (sRet (dAnd (dUn (fIsT "int") (dVar 0)) (dAnd (dNot (dUn (fIsT "bool") (dVar 0))) (dChain fLe fLe (dC (.int 0)) (dVar 0) (dVar 1)))))
def D_is_number : FnM := mkFn (List.length (["value", "most"] : List Str)) (List.length n_is_number) d_is_number
theorem ok_is_number {P : Program} {w : World} {K : PySem.W.Frag} {mg : Str → Option Value} {base : Heap} (T : Txt K mg w) : FnOk P w K mg base (L2.CX P w) 1 T.f_is_number T.d_is_number ["value", "most"] (spF (GG T) D_is_number) :=
  fn_ok (N := n_is_number) (ps := ["value", "most"]) (k := 0) (G := GG T) (body := d_is_number) T.F_is_number sc_is_number fun cdv A outer s H E hr => by
  unfold d_is_number
  exact (dss_one (ds_ret (de_and (de_isT (T := "int") rfl (by rfl) T.z_isinstance (by rfl) T.z_int (by decide +kernel) kit_int (by decide) (by decide) (de_var 0)) (de_and (de_not (de_isT (T := "bool") rfl (by rfl) T.z_isinstance (by rfl) T.z_bool (by decide +kernel) kit_bool (by decide) (by decide) (de_var 0))) (de_one (de_chain cmp_le cmp_le de_int (de_var 0) (de_var 1)))))))
def d_is_tuple : DenS :=
  (sRet (dAnd (dUn (fIsT "tuple") (dVar 0)) (dChain fLe fLe (dVar 1) (dCall fLen (aCons (dVar 0) aNil)) (dVar 2))))
def D_is_tuple : FnM := mkFn (List.length (["value", "least", "most"] : List Str)) (List.length n_is_tuple) d_is_tuple
theorem ok_is_tuple {P : Program} {w : World} {K : PySem.W.Frag} {mg : Str → Option Value} {base : Heap} (T : Txt K mg w) : FnOk P w K mg base (L2.CX P w) 1 T.f_is_tuple T.d_is_tuple ["value", "least", "most"] (spF (GG T) D_is_tuple) :=
  fn_ok (N := n_is_tuple) (ps := ["value", "least", "most"]) (k := 0) (G := GG T) (body := d_is_tuple) T.F_is_tuple sc_is_tuple fun cdv A outer s H E hr => by
  unfold d_is_tuple
  exact (dss_one (ds_ret (de_and (de_isT (T := "tuple") rfl (by rfl) T.z_isinstance (by rfl) T.z_tuple (by decide +kernel) kit_tuple (by decide) (by decide) (de_var 0)) (de_one (de_chain cmp_le cmp_le (de_var 1) (de_len rfl (by rfl) T.z_len (da_cons (de_var 0) da_nil)) (de_var 2))))))
def d_can_be_part : DenS :=
  (sSeq (sIf (bCmp fEq (dVar 2) (dC (.str "number"))) (sRet (dCall D_is_number (aCons (dVar 4) (aCons (dC (.int 15)) aNil)))) sNil)
  (sSeq (sIf (bCmp fEq (dVar 2) (dC (.str "local"))) (sRet (dCall D_is_number (aCons (dVar 4) (aCons (dC (.int 3)) aNil)))) sNil)
  (sSeq (sIf (bCmp fEq (dVar 2) (dC (.str "step"))) (sRet (dCall D_is_number (aCons (dVar 4) (aCons (dBin fSub (dVar 1) (dC (.int 1))) aNil)))) sNil)
  (sSeq (sIf (bCmp fEq (dVar 2) (dC (.str "class"))) (sRet (dCall D_is_class (aCons (dVar 0) (aCons (dVar 4) aNil)))) sNil)
  (sSeq (sIf (bCmp fEq (dVar 2) (dC (.str "field"))) (sRet (dBin fIsNot (dCall D_field_kind (aCons (dVar 0) (aCons (dBin fIx (dVar 3) (dC (.int 1))) (aCons (dVar 4) aNil)))) (dC .non))) sNil)
  (sRet (dBin fIsNot (dCall D_nearest (aCons (dVar 0) (aCons (dBin fIx (dVar 3) (dC (.int 1))) (aCons (dVar 4) aNil)))) (dC .non))))))))
def D_can_be_part : FnM := mkFn (List.length (["classes", "many", "part", "step", "value"] : List Str)) (List.length n_can_be_part) d_can_be_part
theorem ok_can_be_part {P : Program} {w : World} {K : PySem.W.Frag} {mg : Str → Option Value} {base : Heap} (T : Txt K mg w) : FnOk P w K mg base (L2.CX P w) 5 T.f_can_be_part T.d_can_be_part ["classes", "many", "part", "step", "value"] (spF (GG T) D_can_be_part) :=
  fn_ok (N := n_can_be_part) (ps := ["classes", "many", "part", "step", "value"]) (k := 4) (G := GG T) (body := d_can_be_part) T.F_can_be_part sc_can_be_part fun cdv A outer s H E hr => by
  unfold d_can_be_part
  exact (dss_cons (ds_if (dt_cmp (cmp_eq rfl hr.units) (de_var 2) de_str (nomark _)) (dss_one (ds_ret (de_call (takes_of rfl rfl rfl rfl) (ok_is_number T) (hr.mono (by decide)) (by rfl) T.m_is_number T.F_is_number.kp T.b_is_number (da_cons (de_var 4) (da_cons de_int da_nil))))) dss_nil)
    (dss_cons (ds_if (dt_cmp (cmp_eq rfl hr.units) (de_var 2) de_str (nomark _)) (dss_one (ds_ret (de_call (takes_of rfl rfl rfl rfl) (ok_is_number T) (hr.mono (by decide)) (by rfl) T.m_is_number T.F_is_number.kp T.b_is_number (da_cons (de_var 4) (da_cons de_int da_nil))))) dss_nil)
    (dss_cons (ds_if (dt_cmp (cmp_eq rfl hr.units) (de_var 2) de_str (nomark _)) (dss_one (ds_ret (de_call (takes_of rfl rfl rfl rfl) (ok_is_number T) (hr.mono (by decide)) (by rfl) T.m_is_number T.F_is_number.kp T.b_is_number (da_cons (de_var 4) (da_cons (de_sub (de_var 1) de_int) da_nil))))) dss_nil)
    (dss_cons (ds_if (dt_cmp (cmp_eq rfl hr.units) (de_var 2) de_str (nomark _)) (dss_one (ds_ret (de_call (takes_of rfl rfl rfl rfl) (ok_is_class T) (hr.mono (by decide)) (by rfl) T.m_is_class T.F_is_class.kp T.b_is_class (da_cons (de_var 0) (da_cons (de_var 4) da_nil))))) dss_nil)
    (dss_cons (ds_if (dt_cmp (cmp_eq rfl hr.units) (de_var 2) de_str (nomark _)) (dss_one (ds_ret (de_cmp' cmp_isNot (de_call (takes_of rfl rfl rfl rfl) (ok_field_kind T) (hr.mono (by decide)) (by rfl) T.m_field_kind T.F_field_kind.kp T.b_field_kind (da_cons (de_var 0) (da_cons (de_ix rfl hr.units (de_var 3) de_int) (da_cons (de_var 4) da_nil)))) de_non (nomark _)))) dss_nil)
    (dss_one (ds_ret (de_cmp' cmp_isNot (de_call (takes_of rfl rfl rfl rfl) (ok_nearest T) (hr.mono (by decide)) (by rfl) T.m_nearest T.F_nearest.kp T.b_nearest (da_cons (de_var 0) (da_cons (de_ix rfl hr.units (de_var 3) de_int) (da_cons (de_var 4) da_nil)))) de_non (nomark _)))))))))
def d_is_step : DenS :=
  (sSeq (sIf (bOr (bNot (bTru (dCall D_is_tuple (aCons (dVar 2) (aCons (dC (.int 1)) (aCons (dC (.int 3)) aNil)))))) (bOr (bNot (bTru (dUn (fIsT "str") (dBin fIx (dVar 2) (dC (.int 0)))))) (fun ρ S => ((dUn (fNotInK tb_PARTS) (dBin fIx (dVar 2) (dC (.int 0)))) ρ S).bind boolOf))) (sRet (dC (.bl false))) sNil)
  (sSeq (sAsg (dUn (fIxK tb_PARTS) (dBin fIx (dVar 2) (dC (.int 0)))) (gN 3))
  (sSeq (sIf (bCmp fNe (dCall fLen (aCons (dVar 2) aNil)) (dBin fAdd (dCall fLen (aCons (dVar 3) aNil)) (dC (.int 1)))) (sRet (dC (.bl false))) sNil)
  (sSeq (sFor 4096 (iRng zipOf (aCons (dVar 3) (aCons (dSl (dVar 2) (oSome (dC (.int 1))) oNone) aNil))) (gT (gsCons (gN 4) (gsCons (gN 5) gsNil))) (sIf (bNot (bTru (dCall D_can_be_part (aCons (dVar 0) (aCons (dVar 1) (aCons (dVar 4) (aCons (dVar 2) (aCons (dVar 5) aNil)))))))) (sRet (dC (.bl false))) sNil))
  (sRet (dC (.bl true)))))))
def D_is_step : FnM := mkFn (List.length (["classes", "many", "step"] : List Str)) (List.length n_is_step) d_is_step
theorem ok_is_step {P : Program} {w : World} {K : PySem.W.Frag} {mg : Str → Option Value} {base : Heap} (T : Txt K mg w) : FnOk P w K mg base (L2.CX P w) 6 T.f_is_step T.d_is_step ["classes", "many", "step"] (spF (GG T) D_is_step) :=
  fn_ok (N := n_is_step) (ps := ["classes", "many", "step"]) (k := 5) (G := GG T) (body := d_is_step) T.F_is_step sc_is_step fun cdv A outer s H E hr => by
  unfold d_is_step
  exact (dss_cons (ds_if (dw_dt (dw_or (dt_not (dt_truth rfl (de_call (takes_of rfl rfl rfl rfl) (ok_is_tuple T) (hr.mono (by decide)) (by rfl) T.m_is_tuple T.F_is_tuple.kp T.b_is_tuple (da_cons (de_var 2) (da_cons de_int (da_cons de_int da_nil)))))) (dw_or (dt_not (dt_truth rfl (de_isT (T := "str") rfl (by rfl) T.z_isinstance (by rfl) T.z_str (by decide +kernel) kit_str (by decide) (by decide) (de_ix rfl hr.units (de_var 2) de_int)))) (dw_or1 (dt_notInK rfl (T.t_PARTS _ _ _ _) (by rfl) T.m_PARTS (de_ix rfl hr.units (de_var 2) de_int)))))) (dss_one (ds_ret de_bl)) dss_nil)
    (dss_cons (ds_set 3 sc_is_step.nd (de_ixK rfl (T.t_PARTS _ _ _ _) (by rfl) T.m_PARTS (de_ix rfl hr.units (de_var 2) de_int)))
    (dss_cons (ds_if (dt_cmp (cmp_ne rfl hr.units) (de_len rfl (by rfl) T.z_len (da_cons (de_var 2) da_nil)) (de_add rfl (de_len rfl (by rfl) T.z_len (da_cons (de_var 3) da_nil)) de_int) (nomark _)) (dss_one (ds_ret de_bl)) dss_nil)
    (dss_cons (ds_for (f := 4096) (passes_of rfl) rfl (di_zip rfl (by rfl) T.z_zip (da_cons (de_var 3) (da_cons (de_sl rfl (de_var 2) (do_some de_int) do_none) da_nil))) (dg_tup rfl rfl (dgs_cons (dg_name 4 sc_is_step.nd) (dgs_cons (dg_name 5 sc_is_step.nd) dgs_nil)) (gs_len (gs_len gs_len0))) (dss_one (ds_if (dt_not (dt_truth rfl (de_call (takes_of rfl rfl rfl rfl) (ok_can_be_part T) (hr.mono (by decide)) (by rfl) T.m_can_be_part T.F_can_be_part.kp T.b_can_be_part (da_cons (de_var 0) (da_cons (de_var 1) (da_cons (de_var 4) (da_cons (de_var 2) (da_cons (de_var 5) da_nil)))))))) (dss_one (ds_ret de_bl)) dss_nil)))
    (dss_one (ds_ret de_bl))))))
def d_bad_step : DenS :=
  (sSeq (sAsg (dCall fLen (aCons (dVar 1) aNil)) (gN 2))
  (sSeq (sFor 4096 (iRng enumOf (aCons (dVar 1) aNil)) (gT (gsCons (gN 3) (gsCons (gN 4) gsNil))) (sIf (bNot (bTru (dCall D_is_step (aCons (dVar 0) (aCons (dVar 2) (aCons (dVar 4) aNil)))))) (sRet (dVar 3)) sNil))
  (sSeq (sIf (bCmp fNotIn (dBin fIx (dBin fIx (dVar 1) (dUn fNeg (dC (.int 1)))) (dC (.int 0))) (dC c_LAST)) (sRet (dBin fSub (dVar 2) (dC (.int 1)))) sNil)
  (sRet (dC .non)))))
def D_bad_step : FnM := mkFn (List.length (["classes", "code"] : List Str)) (List.length n_bad_step) d_bad_step
theorem ok_bad_step {P : Program} {w : World} {K : PySem.W.Frag} {mg : Str → Option Value} {base : Heap} (T : Txt K mg w) : FnOk P w K mg base (L2.CX P w) 7 T.f_bad_step T.d_bad_step ["classes", "code"] (spF (GG T) D_bad_step) :=
  fn_ok (N := n_bad_step) (ps := ["classes", "code"]) (k := 6) (G := GG T) (body := d_bad_step) T.F_bad_step sc_bad_step fun cdv A outer s H E hr => by
  unfold d_bad_step
  exact (dss_cons (ds_set 2 sc_bad_step.nd (de_len rfl (by rfl) T.z_len (da_cons (de_var 1) da_nil)))
    (dss_cons (ds_for (f := 4096) (passes_of rfl) rfl (di_enum rfl (by rfl) T.z_enumerate (da_cons (de_var 1) da_nil)) (dg_tup rfl rfl (dgs_cons (dg_name 3 sc_bad_step.nd) (dgs_cons (dg_name 4 sc_bad_step.nd) dgs_nil)) (gs_len (gs_len gs_len0))) (dss_one (ds_if (dt_not (dt_truth rfl (de_call (takes_of rfl rfl rfl rfl) (ok_is_step T) (hr.mono (by decide)) (by rfl) T.m_is_step T.F_is_step.kp T.b_is_step (da_cons (de_var 0) (da_cons (de_var 2) (da_cons (de_var 4) da_nil)))))) (dss_one (ds_ret (de_var 3))) dss_nil)))
    (dss_cons (ds_if (dt_cmp (cmp_notIn rfl) (de_ix rfl hr.units (de_ix rfl hr.units (de_var 1) (de_neg de_int)) de_int) (de_glob (by rfl) T.m_LAST T.r_LAST (T.k_LAST _ _ _ _)) (by rfl)) (dss_one (ds_ret (de_sub (de_var 2) de_int))) dss_nil)
    (dss_one (ds_ret de_non)))))
def d_is_handler : DenS :=
  (sSeq (sIf (bOr (bNot (bTru (dCall D_is_tuple (aCons (dVar 2) (aCons (dC (.int 4)) (aCons (dC (.int 4)) aNil)))))) (bOr (bNot (bTru (dCall D_is_number (aCons (dBin fIx (dVar 2) (dC (.int 0))) (aCons (dBin fSub (dVar 1) (dC (.int 1))) aNil))))) (bNot (bTru (dCall D_is_number (aCons (dBin fIx (dVar 2) (dC (.int 1))) (aCons (dVar 1) aNil))))))) (sRet (dC (.bl false))) sNil)
  (sRet (dAnd (dBin fLt (dBin fIx (dVar 2) (dC (.int 0))) (dBin fIx (dVar 2) (dC (.int 1)))) (dAnd (dCall D_is_class (aCons (dVar 0) (aCons (dBin fIx (dVar 2) (dC (.int 2))) aNil))) (dCall D_is_number (aCons (dBin fIx (dVar 2) (dC (.int 3))) (aCons (dBin fSub (dVar 1) (dC (.int 1))) aNil)))))))
def D_is_handler : FnM := mkFn (List.length (["classes", "many", "row"] : List Str)) (List.length n_is_handler) d_is_handler
theorem ok_is_handler {P : Program} {w : World} {K : PySem.W.Frag} {mg : Str → Option Value} {base : Heap} (T : Txt K mg w) : FnOk P w K mg base (L2.CX P w) 3 T.f_is_handler T.d_is_handler ["classes", "many", "row"] (spF (GG T) D_is_handler) :=
  fn_ok (N := n_is_handler) (ps := ["classes", "many", "row"]) (k := 2) (G := GG T) (body := d_is_handler) T.F_is_handler sc_is_handler fun cdv A outer s H E hr => by
  unfold d_is_handler
  exact (dss_cons (ds_if (dw_dt (dw_or (dt_not (dt_truth rfl (de_call (takes_of rfl rfl rfl rfl) (ok_is_tuple T) (hr.mono (by decide)) (by rfl) T.m_is_tuple T.F_is_tuple.kp T.b_is_tuple (da_cons (de_var 2) (da_cons de_int (da_cons de_int da_nil)))))) (dw_or (dt_not (dt_truth rfl (de_call (takes_of rfl rfl rfl rfl) (ok_is_number T) (hr.mono (by decide)) (by rfl) T.m_is_number T.F_is_number.kp T.b_is_number (da_cons (de_ix rfl hr.units (de_var 2) de_int) (da_cons (de_sub (de_var 1) de_int) da_nil))))) (dw_or1 (dt_not (dt_truth rfl (de_call (takes_of rfl rfl rfl rfl) (ok_is_number T) (hr.mono (by decide)) (by rfl) T.m_is_number T.F_is_number.kp T.b_is_number (da_cons (de_ix rfl hr.units (de_var 2) de_int) (da_cons (de_var 1) da_nil))))))))) (dss_one (ds_ret de_bl)) dss_nil)
    (dss_one (ds_ret (de_and (de_cmp' cmp_lt (de_ix rfl hr.units (de_var 2) de_int) (de_ix rfl hr.units (de_var 2) de_int) (nomark _)) (de_and (de_call (takes_of rfl rfl rfl rfl) (ok_is_class T) (hr.mono (by decide)) (by rfl) T.m_is_class T.F_is_class.kp T.b_is_class (da_cons (de_var 0) (da_cons (de_ix rfl hr.units (de_var 2) de_int) da_nil))) (de_one (de_call (takes_of rfl rfl rfl rfl) (ok_is_number T) (hr.mono (by decide)) (by rfl) T.m_is_number T.F_is_number.kp T.b_is_number (da_cons (de_ix rfl hr.units (de_var 2) de_int) (da_cons (de_sub (de_var 1) de_int) da_nil)))))))))
def d_bad_handler : DenS :=
  (sSeq (sFor 4096 (iRng enumOf (aCons (dVar 2) aNil)) (gT (gsCons (gN 3) (gsCons (gN 4) gsNil))) (sIf (bNot (bTru (dCall D_is_handler (aCons (dVar 0) (aCons (dVar 1) (aCons (dVar 4) aNil)))))) (sRet (dVar 3)) sNil))
  (sRet (dC .non)))
def D_bad_handler : FnM := mkFn (List.length (["classes", "many", "handlers"] : List Str)) (List.length n_bad_handler) d_bad_handler
theorem ok_bad_handler {P : Program} {w : World} {K : PySem.W.Frag} {mg : Str → Option Value} {base : Heap} (T : Txt K mg w) : FnOk P w K mg base (L2.CX P w) 4 T.f_bad_handler T.d_bad_handler ["classes", "many", "handlers"] (spF (GG T) D_bad_handler) :=
  fn_ok (N := n_bad_handler) (ps := ["classes", "many", "handlers"]) (k := 3) (G := GG T) (body := d_bad_handler) T.F_bad_handler sc_bad_handler fun cdv A outer s H E hr => by
  unfold d_bad_handler
  exact (dss_cons (ds_for (f := 4096) (passes_of rfl) rfl (di_enum rfl (by rfl) T.z_enumerate (da_cons (de_var 2) da_nil)) (dg_tup rfl rfl (dgs_cons (dg_name 3 sc_bad_handler.nd) (dgs_cons (dg_name 4 sc_bad_handler.nd) dgs_nil)) (gs_len (gs_len gs_len0))) (dss_one (ds_if (dt_not (dt_truth rfl (de_call (takes_of rfl rfl rfl rfl) (ok_is_handler T) (hr.mono (by decide)) (by rfl) T.m_is_handler T.F_is_handler.kp T.b_is_handler (da_cons (de_var 0) (da_cons (de_var 1) (da_cons (de_var 4) da_nil)))))) (dss_one (ds_ret (de_var 3))) dss_nil)))
    (dss_one (ds_ret de_non)))
def d_is_new_class : DenS :=
  (sSeq (sIf (bOr (bNot (bTru (dCall D_is_tuple (aCons (dVar 1) (aCons (dC (.int 4)) (aCons (dC (.int 4)) aNil)))))) (bOr (bNot (bTru (dCall D_is_word (aCons (dBin fIx (dVar 1) (dC (.int 0))) aNil)))) (bOr (bCmp fIn (dBin fIx (dVar 1) (dC (.int 0))) (dC c_TAKEN_NAMES)) (bCmp fIn (dBin fIx (dVar 1) (dC (.int 0))) (dVar 0))))) (sRet (dC (.bl false))) sNil)
  (sRet (dOr (dBin fEq (dBin fIx (dVar 1) (dC (.int 1))) (dC (.str "top"))) (dBin fIn (dBin fIx (dVar 1) (dC (.int 1))) (dVar 0)))))
def D_is_new_class : FnM := mkFn (List.length (["earlier", "row"] : List Str)) (List.length n_is_new_class) d_is_new_class
theorem ok_is_new_class {P : Program} {w : World} {K : PySem.W.Frag} {mg : Str → Option Value} {base : Heap} (T : Txt K mg w) : FnOk P w K mg base (L2.CX P w) 2 T.f_is_new_class T.d_is_new_class ["earlier", "row"] (spF (GG T) D_is_new_class) :=
  fn_ok (N := n_is_new_class) (ps := ["earlier", "row"]) (k := 1) (G := GG T) (body := d_is_new_class) T.F_is_new_class sc_is_new_class fun cdv A outer s H E hr => by
  unfold d_is_new_class
  exact (dss_cons (ds_if (dw_dt (dw_or (dt_not (dt_truth rfl (de_call (takes_of rfl rfl rfl rfl) (ok_is_tuple T) (hr.mono (by decide)) (by rfl) T.m_is_tuple T.F_is_tuple.kp T.b_is_tuple (da_cons (de_var 1) (da_cons de_int (da_cons de_int da_nil)))))) (dw_or (dt_not (dt_truth rfl (de_call (takes_of rfl rfl rfl rfl) (ok_is_word T) (hr.mono (by decide)) (by rfl) T.m_is_word T.F_is_word.kp T.b_is_word (da_cons (de_ix rfl hr.units (de_var 1) de_int) da_nil)))) (dw_or (dt_cmp (cmp_in rfl) (de_ix rfl hr.units (de_var 1) de_int) (de_glob (by rfl) T.m_TAKEN_NAMES T.r_TAKEN_NAMES (T.k_TAKEN_NAMES _ _ _ _)) (by rfl)) (dw_or1 (dt_cmp (cmp_in rfl) (de_ix rfl hr.units (de_var 1) de_int) (de_var 0) (by rfl))))))) (dss_one (ds_ret de_bl)) dss_nil)
    (dss_one (ds_ret (de_or (de_cmp' (cmp_eq rfl hr.units) (de_ix rfl hr.units (de_var 1) de_int) de_str (nomark _)) (de_one (de_cmp' (cmp_in rfl) (de_ix rfl hr.units (de_var 1) de_int) (de_var 0) (by rfl)))))))
def d_check_names : DenS :=
  (sSeq (sIf (bNot (bTru (dCall D_is_tuple (aCons (dVar 0) (aCons (dC (.int 1)) (aCons (dC (.int 8)) aNil)))))) sNever sNil)
  (sSeq (sAsg (dLst aNil) (gN 1))
  (sFor 4096 (iRng enumOf (aCons (dVar 0) aNil)) (gT (gsCons (gN 2) (gsCons (gN 3) gsNil))) (sSeq (sIf (bNot (bTru (dCall D_is_new_class (aCons (dVar 1) (aCons (dVar 3) aNil))))) sNever sNil)
  (sExpr (dMet isLst fAppend (dVar 1) (aCons (dBin fIx (dVar 3) (dC (.int 0))) aNil)))))))
def D_check_names : FnM := mkFn (List.length (["classes"] : List Str)) (List.length n_check_names) d_check_names
theorem ok_check_names {P : Program} {w : World} {K : PySem.W.Frag} {mg : Str → Option Value} {base : Heap} (T : Txt K mg w) : FnOk P w K mg base (L2.CX P w) 3 T.f_check_names T.d_check_names ["classes"] (spF (GG T) D_check_names) :=
  fn_ok (N := n_check_names) (ps := ["classes"]) (k := 2) (G := GG T) (body := d_check_names) T.F_check_names sc_check_names fun cdv A outer s H E hr => by
  unfold d_check_names
  exact (dss_cons (ds_if (dt_not (dt_truth rfl (de_call (takes_of rfl rfl rfl rfl) (ok_is_tuple T) (hr.mono (by decide)) (by rfl) T.m_is_tuple T.F_is_tuple.kp T.b_is_tuple (da_cons (de_var 0) (da_cons de_int (da_cons de_int da_nil)))))) (dss_one ds_never) dss_nil)
    (dss_cons (ds_set 1 sc_check_names.nd (de_lst da_nil))
    (dss_one (ds_for (f := 4096) (passes_of rfl) rfl (di_enum rfl (by rfl) T.z_enumerate (da_cons (de_var 0) da_nil)) (dg_tup rfl rfl (dgs_cons (dg_name 2 sc_check_names.nd) (dgs_cons (dg_name 3 sc_check_names.nd) dgs_nil)) (gs_len (gs_len gs_len0))) (dss_cons (ds_if (dt_not (dt_truth rfl (de_call (takes_of rfl rfl rfl rfl) (ok_is_new_class T) (hr.mono (by decide)) (by rfl) T.m_is_new_class T.F_is_new_class.kp T.b_is_new_class (da_cons (de_var 1) (da_cons (de_var 3) da_nil))))) (dss_one ds_never) dss_nil)
    (dss_one (ds_expr (de_append rfl (de_var 1) (da_cons (de_ix rfl hr.units (de_var 3) de_int) da_nil)))))))))
def d_is_told_kind : DenS :=
  (sRet (dOr (dBin fEq (dVar 1) (dC (.str "num"))) (dCall D_is_class (aCons (dVar 0) (aCons (dVar 1) aNil)))))
def D_is_told_kind : FnM := mkFn (List.length (["classes", "value"] : List Str)) (List.length n_is_told_kind) d_is_told_kind
theorem ok_is_told_kind {P : Program} {w : World} {K : PySem.W.Frag} {mg : Str → Option Value} {base : Heap} (T : Txt K mg w) : FnOk P w K mg base (L2.CX P w) 3 T.f_is_told_kind T.d_is_told_kind ["classes", "value"] (spF (GG T) D_is_told_kind) :=
  fn_ok (N := n_is_told_kind) (ps := ["classes", "value"]) (k := 2) (G := GG T) (body := d_is_told_kind) T.F_is_told_kind sc_is_told_kind fun cdv A outer s H E hr => by
  unfold d_is_told_kind
  exact (dss_one (ds_ret (de_or (de_cmp' (cmp_eq rfl hr.units) (de_var 1) de_str (nomark _)) (de_one (de_call (takes_of rfl rfl rfl rfl) (ok_is_class T) (hr.mono (by decide)) (by rfl) T.m_is_class T.F_is_class.kp T.b_is_class (da_cons (de_var 0) (da_cons (de_var 1) da_nil)))))))
def d_are_fields : DenS :=
  (sSeq (sIf (bNot (bTru (dCall D_is_tuple (aCons (dVar 2) (aCons (dC (.int 0)) (aCons (dC (.int 4)) aNil)))))) (sRet (dC (.bl false))) sNil)
  (sSeq (sAsg (dLc 4096 (iAnyD (dCall D_fields_up (aCons (dVar 0) (aCons (dVar 1) aNil)))) (gT (gsCons (gN 5) (gsCons (gN 6) gsNil))) bYes (dVar 5) [5, 6]) (gN 3))
  (sSeq (sFor 4096 (iAnyD (dVar 2)) (gN 4) (sSeq (sIf (bOr (bNot (bTru (dCall D_is_tuple (aCons (dVar 4) (aCons (dC (.int 2)) (aCons (dC (.int 2)) aNil)))))) (bOr (bNot (bTru (dCall D_is_word (aCons (dBin fIx (dVar 4) (dC (.int 0))) aNil)))) (bCmp fIn (dBin fIx (dVar 4) (dC (.int 0))) (dVar 3)))) (sRet (dC (.bl false))) sNil)
  (sSeq (sIf (bNot (bTru (dCall D_is_told_kind (aCons (dVar 0) (aCons (dBin fIx (dVar 4) (dC (.int 1))) aNil))))) (sRet (dC (.bl false))) sNil)
  (sExpr (dMet isLst fAppend (dVar 3) (aCons (dBin fIx (dVar 4) (dC (.int 0))) aNil))))))
  (sRet (dC (.bl true))))))
def D_are_fields : FnM := mkFn (List.length (["classes", "upper", "fields"] : List Str)) (List.length n_are_fields) d_are_fields
theorem ok_are_fields {P : Program} {w : World} {K : PySem.W.Frag} {mg : Str → Option Value} {base : Heap} (T : Txt K mg w) : FnOk P w K mg base (L2.CX P w) 4 T.f_are_fields T.d_are_fields ["classes", "upper", "fields"] (spF (GG T) D_are_fields) :=
  fn_ok (N := n_are_fields) (ps := ["classes", "upper", "fields"]) (k := 3) (G := GG T) (body := d_are_fields) T.F_are_fields sc_are_fields fun cdv A outer s H E hr => by
  unfold d_are_fields
  exact (dss_cons (ds_if (dt_not (dt_truth rfl (de_call (takes_of rfl rfl rfl rfl) (ok_is_tuple T) (hr.mono (by decide)) (by rfl) T.m_is_tuple T.F_is_tuple.kp T.b_is_tuple (da_cons (de_var 2) (da_cons de_int (da_cons de_int da_nil)))))) (dss_one (ds_ret de_bl)) dss_nil)
    (dss_cons (ds_setLc 3 (f := 4096) (own := [("word", 5), ("_", 6)]) rfl sc_are_fields.nd (di_any rfl (de_call (takes_of rfl rfl rfl rfl) (ok_fields_up T) (hr.mono (by decide)) (by rfl) T.m_fields_up T.F_fields_up.kp T.b_fields_up (da_cons (de_var 0) (da_cons (de_var 1) da_nil)))) (blkOk_by (own := [("word", 5), ("_", 6)]) (N := n_are_fields) (sc := defScope s_are_fields) (by decide +kernel)) (fun _ _ _ _ _ => (dg_tup rfl rfl (dgs_cons (dg_name 5 sc_are_fields.nd) (dgs_cons (dg_name 6 sc_are_fields.nd) dgs_nil)) (gs_len (gs_len gs_len0)))) (fun _ _ _ _ _ => dts_nil) (fun _ _ _ _ _ => (de_var 5)) (sw_true rfl rfl rfl (by decide +kernel)))
    (dss_cons (ds_for (f := 4096) (passes_of rfl) rfl (di_any rfl (de_var 2)) (dg_name 4 sc_are_fields.nd) (dss_cons (ds_if (dw_dt (dw_or (dt_not (dt_truth rfl (de_call (takes_of rfl rfl rfl rfl) (ok_is_tuple T) (hr.mono (by decide)) (by rfl) T.m_is_tuple T.F_is_tuple.kp T.b_is_tuple (da_cons (de_var 4) (da_cons de_int (da_cons de_int da_nil)))))) (dw_or (dt_not (dt_truth rfl (de_call (takes_of rfl rfl rfl rfl) (ok_is_word T) (hr.mono (by decide)) (by rfl) T.m_is_word T.F_is_word.kp T.b_is_word (da_cons (de_ix rfl hr.units (de_var 4) de_int) da_nil)))) (dw_or1 (dt_cmp (cmp_in rfl) (de_ix rfl hr.units (de_var 4) de_int) (de_var 3) (by rfl)))))) (dss_one (ds_ret de_bl)) dss_nil)
    (dss_cons (ds_if (dt_not (dt_truth rfl (de_call (takes_of rfl rfl rfl rfl) (ok_is_told_kind T) (hr.mono (by decide)) (by rfl) T.m_is_told_kind T.F_is_told_kind.kp T.b_is_told_kind (da_cons (de_var 0) (da_cons (de_ix rfl hr.units (de_var 4) de_int) da_nil))))) (dss_one (ds_ret de_bl)) dss_nil)
    (dss_one (ds_expr (de_append rfl (de_var 3) (da_cons (de_ix rfl hr.units (de_var 4) de_int) da_nil)))))))
    (dss_one (ds_ret de_bl)))))
def d_is_method : DenS :=
  (sSeq (sIf (bOr (bNot (bTru (dCall D_is_tuple (aCons (dVar 3) (aCons (dVar 4) (aCons (dVar 4) aNil)))))) (bOr (bNot (bTru (dCall D_is_word (aCons (dBin fIx (dVar 3) (dC (.int 0))) aNil)))) (bCmp fIn (dBin fIx (dVar 3) (dC (.int 0))) (dVar 2)))) (sRet (dC (.bl false))) sNil)
  (sSeq (sAsg (dSl (dVar 3) oNone (oSome (dC (.int 3)))) (gT (gsCons (gN 5) (gsCons (gN 6) (gsCons (gN 7) gsNil)))))
  (sSeq (sIf (bOr (bNot (bTru (dCall D_is_tuple (aCons (dVar 6) (aCons (dC (.int 0)) (aCons (dC (.int 3)) aNil)))))) (bNot (bTru (dCall (fAllAny fun bs => bs.all id) (aCons (dLc 4096 (iAnyD (dVar 6)) (gN 8) bYes (dCall D_is_told_kind (aCons (dVar 0) (aCons (dVar 8) aNil))) [8]) aNil))))) (sRet (dC (.bl false))) sNil)
  (sSeq (sIf (bNot (bTru (dCall D_is_told_kind (aCons (dVar 0) (aCons (dVar 7) aNil))))) (sRet (dC (.bl false))) sNil)
  (sSeq (sIf (bCmp fIs (dCall D_nearest (aCons (dVar 0) (aCons (dVar 1) (aCons (dVar 5) aNil)))) (dC .non)) (sRet (dC (.bl true))) sNil)
  (sRet (dBin fEq (dSl (dCall D_nearest_method (aCons (dVar 0) (aCons (dVar 1) (aCons (dVar 5) aNil)))) (oSome (dC (.int 1))) (oSome (dC (.int 3)))) (dTup (aCons (dVar 6) (aCons (dVar 7) aNil))))))))))
def D_is_method : FnM := mkFn (List.length (["classes", "upper", "words", "method", "parts"] : List Str)) (List.length n_is_method) d_is_method
theorem ok_is_method {P : Program} {w : World} {K : PySem.W.Frag} {mg : Str → Option Value} {base : Heap} (T : Txt K mg w) : FnOk P w K mg base (L2.CX P w) 5 T.f_is_method T.d_is_method ["classes", "upper", "words", "method", "parts"] (spF (GG T) D_is_method) :=
  fn_ok (N := n_is_method) (ps := ["classes", "upper", "words", "method", "parts"]) (k := 4) (G := GG T) (body := d_is_method) T.F_is_method sc_is_method fun cdv A outer s H E hr => by
  unfold d_is_method
  exact (dss_cons (ds_if (dw_dt (dw_or (dt_not (dt_truth rfl (de_call (takes_of rfl rfl rfl rfl) (ok_is_tuple T) (hr.mono (by decide)) (by rfl) T.m_is_tuple T.F_is_tuple.kp T.b_is_tuple (da_cons (de_var 3) (da_cons (de_var 4) (da_cons (de_var 4) da_nil)))))) (dw_or (dt_not (dt_truth rfl (de_call (takes_of rfl rfl rfl rfl) (ok_is_word T) (hr.mono (by decide)) (by rfl) T.m_is_word T.F_is_word.kp T.b_is_word (da_cons (de_ix rfl hr.units (de_var 3) de_int) da_nil)))) (dw_or1 (dt_cmp (cmp_in rfl) (de_ix rfl hr.units (de_var 3) de_int) (de_var 2) (by rfl)))))) (dss_one (ds_ret de_bl)) dss_nil)
    (dss_cons (ds_asg (de_sl rfl (de_var 3) do_none (do_some de_int)) (dg_tup rfl rfl (dgs_cons (dg_name 5 sc_is_method.nd) (dgs_cons (dg_name 6 sc_is_method.nd) (dgs_cons (dg_name 7 sc_is_method.nd) dgs_nil))) (gs_len (gs_len (gs_len gs_len0)))))
    (dss_cons (ds_if (dw_dt (dw_or (dt_not (dt_truth rfl (de_call (takes_of rfl rfl rfl rfl) (ok_is_tuple T) (hr.mono (by decide)) (by rfl) T.m_is_tuple T.F_is_tuple.kp T.b_is_tuple (da_cons (de_var 6) (da_cons de_int (da_cons de_int da_nil)))))) (dw_or1 (dt_not (dt_truth rfl (de_all rfl rfl (by rfl) T.z_all (da_cons (de_lc (f := 4096) (own := [("kind", 8)]) rfl sc_is_method.nd (di_any rfl (de_var 6)) (blkOk_by (own := [("kind", 8)]) (N := n_is_method) (sc := defScope s_is_method) (by decide +kernel)) (fun _ _ _ _ _ => (dg_name 8 sc_is_method.nd)) (fun _ _ _ _ _ => dts_nil) (fun _ _ _ _ _ => (de_call takes0 (ok_is_told_kind T) (hr.mono (by decide)) (by rfl) T.m_is_told_kind T.F_is_told_kind.kp T.b_is_told_kind (da_cons (de_var 0) (da_cons (de_var 8) da_nil))))) da_nil))))))) (dss_one (ds_ret de_bl)) dss_nil)
    (dss_cons (ds_if (dt_not (dt_truth rfl (de_call (takes_of rfl rfl rfl rfl) (ok_is_told_kind T) (hr.mono (by decide)) (by rfl) T.m_is_told_kind T.F_is_told_kind.kp T.b_is_told_kind (da_cons (de_var 0) (da_cons (de_var 7) da_nil))))) (dss_one (ds_ret de_bl)) dss_nil)
    (dss_cons (ds_if (dt_cmp cmp_is (de_call (takes_of rfl rfl rfl rfl) (ok_nearest T) (hr.mono (by decide)) (by rfl) T.m_nearest T.F_nearest.kp T.b_nearest (da_cons (de_var 0) (da_cons (de_var 1) (da_cons (de_var 5) da_nil)))) de_non (nomark _)) (dss_one (ds_ret de_bl)) dss_nil)
    (dss_one (ds_ret (de_cmp' (cmp_eq rfl hr.units) (de_sl rfl (de_call (takes_of rfl rfl rfl rfl) (ok_nearest_method T) (hr.mono (by decide)) (by rfl) T.m_nearest_method T.F_nearest_method.kp T.b_nearest_method (da_cons (de_var 0) (da_cons (de_var 1) (da_cons (de_var 5) da_nil)))) (do_some de_int) (do_some de_int)) (de_tup (da_cons (de_var 6) (da_cons (de_var 7) da_nil))) (nomark _)))))))))
def d_check_methods : DenS :=
  (sSeq (sAsg (dBin fIx (dVar 0) (dVar 1)) (gT (gsCons (gN 3) (gsCons (gN 4) (gsCons (gN 3) (gsCons (gN 5) gsNil))))))
  (sSeq (sIf (bNot (bTru (dCall D_is_tuple (aCons (dVar 5) (aCons (dC (.int 0)) (aCons (dC (.int 4)) aNil)))))) sNever sNil)
  (sSeq (sAsg (dLst aNil) (gN 6))
  (sFor 4096 (iRng enumOf (aCons (dVar 5) aNil)) (gT (gsCons (gN 7) (gsCons (gN 8) gsNil))) (sSeq (sIf (bNot (bTru (dCall D_is_method (aCons (dVar 0) (aCons (dVar 4) (aCons (dVar 6) (aCons (dVar 8) (aCons (dVar 2) aNil)))))))) sNever sNil)
  (sExpr (dMet isLst fAppend (dVar 6) (aCons (dBin fIx (dVar 8) (dC (.int 0))) aNil))))))))
def D_check_methods : FnM := mkFn (List.length (["classes", "index", "parts"] : List Str)) (List.length n_check_methods) d_check_methods
theorem ok_check_methods {P : Program} {w : World} {K : PySem.W.Frag} {mg : Str → Option Value} {base : Heap} (T : Txt K mg w) : FnOk P w K mg base (L2.CX P w) 6 T.f_check_methods T.d_check_methods ["classes", "index", "parts"] (spF (GG T) D_check_methods) :=
  fn_ok (N := n_check_methods) (ps := ["classes", "index", "parts"]) (k := 5) (G := GG T) (body := d_check_methods) T.F_check_methods sc_check_methods fun cdv A outer s H E hr => by
  unfold d_check_methods
  exact (dss_cons (ds_asg (de_ix rfl hr.units (de_var 0) (de_var 1)) (dg_tup rfl rfl (dgs_cons (dg_name 3 sc_check_methods.nd) (dgs_cons (dg_name 4 sc_check_methods.nd) (dgs_cons (dg_name 3 sc_check_methods.nd) (dgs_cons (dg_name 5 sc_check_methods.nd) dgs_nil)))) (gs_len (gs_len (gs_len (gs_len gs_len0))))))
    (dss_cons (ds_if (dt_not (dt_truth rfl (de_call (takes_of rfl rfl rfl rfl) (ok_is_tuple T) (hr.mono (by decide)) (by rfl) T.m_is_tuple T.F_is_tuple.kp T.b_is_tuple (da_cons (de_var 5) (da_cons de_int (da_cons de_int da_nil)))))) (dss_one ds_never) dss_nil)
    (dss_cons (ds_set 6 sc_check_methods.nd (de_lst da_nil))
    (dss_one (ds_for (f := 4096) (passes_of rfl) rfl (di_enum rfl (by rfl) T.z_enumerate (da_cons (de_var 5) da_nil)) (dg_tup rfl rfl (dgs_cons (dg_name 7 sc_check_methods.nd) (dgs_cons (dg_name 8 sc_check_methods.nd) dgs_nil)) (gs_len (gs_len gs_len0))) (dss_cons (ds_if (dt_not (dt_truth rfl (de_call (takes_of rfl rfl rfl rfl) (ok_is_method T) (hr.mono (by decide)) (by rfl) T.m_is_method T.F_is_method.kp T.b_is_method (da_cons (de_var 0) (da_cons (de_var 4) (da_cons (de_var 6) (da_cons (de_var 8) (da_cons (de_var 2) da_nil)))))))) (dss_one ds_never) dss_nil)
    (dss_one (ds_expr (de_append rfl (de_var 6) (da_cons (de_ix rfl hr.units (de_var 8) de_int) da_nil))))))))))
def d_check_code : DenS :=
  (sSeq (sAsg (dSl (dBin fIx (dBin fIx (dBin fIx (dVar 0) (dVar 1)) (dC (.int 3))) (dVar 2)) (oSome (dC (.int 3))) oNone) (gT (gsCons (gN 3) (gsCons (gN 4) gsNil))))
  (sSeq (sIf (bNot (bTru (dCall D_is_tuple (aCons (dVar 3) (aCons (dC (.int 1)) (aCons (dC (.int 20)) aNil)))))) sNever sNil)
  (sSeq (sAsg (dCall D_bad_step (aCons (dVar 0) (aCons (dVar 3) aNil))) (gN 5))
  (sSeq (sIf (bCmp fIsNot (dVar 5) (dC .non)) sNever sNil)
  (sSeq (sIf (bNot (bTru (dCall D_is_tuple (aCons (dVar 4) (aCons (dC (.int 0)) (aCons (dC (.int 4)) aNil)))))) sNever sNil)
  (sSeq (sAsg (dCall D_bad_handler (aCons (dVar 0) (aCons (dCall fLen (aCons (dVar 3) aNil)) (aCons (dVar 4) aNil)))) (gN 6))
  (sIf (bCmp fIsNot (dVar 6) (dC .non)) sNever sNil)))))))
def D_check_code : FnM := mkFn (List.length (["classes", "index", "place"] : List Str)) (List.length n_check_code) d_check_code
theorem ok_check_code {P : Program} {w : World} {K : PySem.W.Frag} {mg : Str → Option Value} {base : Heap} (T : Txt K mg w) : FnOk P w K mg base (L2.CX P w) 8 T.f_check_code T.d_check_code ["classes", "index", "place"] (spF (GG T) D_check_code) :=
  fn_ok (N := n_check_code) (ps := ["classes", "index", "place"]) (k := 7) (G := GG T) (body := d_check_code) T.F_check_code sc_check_code fun cdv A outer s H E hr => by
  unfold d_check_code
  exact (dss_cons (ds_asg (de_sl rfl (de_ix rfl hr.units (de_ix rfl hr.units (de_ix rfl hr.units (de_var 0) (de_var 1)) de_int) (de_var 2)) (do_some de_int) do_none) (dg_tup rfl rfl (dgs_cons (dg_name 3 sc_check_code.nd) (dgs_cons (dg_name 4 sc_check_code.nd) dgs_nil)) (gs_len (gs_len gs_len0))))
    (dss_cons (ds_if (dt_not (dt_truth rfl (de_call (takes_of rfl rfl rfl rfl) (ok_is_tuple T) (hr.mono (by decide)) (by rfl) T.m_is_tuple T.F_is_tuple.kp T.b_is_tuple (da_cons (de_var 3) (da_cons de_int (da_cons de_int da_nil)))))) (dss_one ds_never) dss_nil)
    (dss_cons (ds_set 5 sc_check_code.nd (de_call (takes_of rfl rfl rfl rfl) (ok_bad_step T) (hr.mono (by decide)) (by rfl) T.m_bad_step T.F_bad_step.kp T.b_bad_step (da_cons (de_var 0) (da_cons (de_var 3) da_nil))))
    (dss_cons (ds_if (dt_cmp cmp_isNot (de_var 5) de_non (nomark _)) (dss_one ds_never) dss_nil)
    (dss_cons (ds_if (dt_not (dt_truth rfl (de_call (takes_of rfl rfl rfl rfl) (ok_is_tuple T) (hr.mono (by decide)) (by rfl) T.m_is_tuple T.F_is_tuple.kp T.b_is_tuple (da_cons (de_var 4) (da_cons de_int (da_cons de_int da_nil)))))) (dss_one ds_never) dss_nil)
    (dss_cons (ds_set 6 sc_check_code.nd (de_call (takes_of rfl rfl rfl rfl) (ok_bad_handler T) (hr.mono (by decide)) (by rfl) T.m_bad_handler T.F_bad_handler.kp T.b_bad_handler (da_cons (de_var 0) (da_cons (de_len rfl (by rfl) T.z_len (da_cons (de_var 3) da_nil)) (da_cons (de_var 4) da_nil)))))
    (dss_one (ds_if (dt_cmp cmp_isNot (de_var 6) de_non (nomark _)) (dss_one ds_never) dss_nil))))))))
def d_check_shells : DenS :=
  (sSeq (sExpr (dCall D_check_names (aCons (dVar 0) aNil)))
  (sFor 4096 (iRng enumOf (aCons (dVar 0) aNil)) (gT (gsCons (gN 2) (gsCons (gN 3) gsNil))) (sSeq (sIf (bNot (bTru (dCall D_are_fields (aCons (dVar 0) (aCons (dBin fIx (dVar 3) (dC (.int 1))) (aCons (dBin fIx (dVar 3) (dC (.int 2))) aNil)))))) sNever sNil)
  (sExpr (dCall D_check_methods (aCons (dVar 0) (aCons (dVar 2) (aCons (dVar 1) aNil))))))))
def D_check_shells : FnM := mkFn (List.length (["classes", "parts"] : List Str)) (List.length n_check_shells) d_check_shells
theorem ok_check_shells {P : Program} {w : World} {K : PySem.W.Frag} {mg : Str → Option Value} {base : Heap} (T : Txt K mg w) : FnOk P w K mg base (L2.CX P w) 7 T.f_check_shells T.d_check_shells ["classes", "parts"] (spF (GG T) D_check_shells) :=
  fn_ok (N := n_check_shells) (ps := ["classes", "parts"]) (k := 6) (G := GG T) (body := d_check_shells) T.F_check_shells sc_check_shells fun cdv A outer s H E hr => by
  unfold d_check_shells
  exact (dss_cons (ds_expr (de_call (takes_of rfl rfl rfl rfl) (ok_check_names T) (hr.mono (by decide)) (by rfl) T.m_check_names T.F_check_names.kp T.b_check_names (da_cons (de_var 0) da_nil)))
    (dss_one (ds_for (f := 4096) (passes_of rfl) rfl (di_enum rfl (by rfl) T.z_enumerate (da_cons (de_var 0) da_nil)) (dg_tup rfl rfl (dgs_cons (dg_name 2 sc_check_shells.nd) (dgs_cons (dg_name 3 sc_check_shells.nd) dgs_nil)) (gs_len (gs_len gs_len0))) (dss_cons (ds_if (dt_not (dt_truth rfl (de_call (takes_of rfl rfl rfl rfl) (ok_are_fields T) (hr.mono (by decide)) (by rfl) T.m_are_fields T.F_are_fields.kp T.b_are_fields (da_cons (de_var 0) (da_cons (de_ix rfl hr.units (de_var 3) de_int) (da_cons (de_ix rfl hr.units (de_var 3) de_int) da_nil)))))) (dss_one ds_never) dss_nil)
    (dss_one (ds_expr (de_call (takes_of rfl rfl rfl rfl) (ok_check_methods T) (hr.mono (by decide)) (by rfl) T.m_check_methods T.F_check_methods.kp T.b_check_methods (da_cons (de_var 0) (da_cons (de_var 2) (da_cons (de_var 1) da_nil))))))))))
def d_check_classes : DenS :=
  (sSeq (sExpr (dCall D_check_shells (aCons (dVar 0) (aCons (dC (.int 5)) aNil))))
  (sFor 4096 (iRng enumOf (aCons (dVar 0) aNil)) (gT (gsCons (gN 1) (gsCons (gN 2) gsNil))) (sFor 4096 (iRng rng1 (aCons (dCall fLen (aCons (dBin fIx (dVar 2) (dC (.int 3))) aNil)) aNil)) (gN 3) (sExpr (dCall D_check_code (aCons (dVar 0) (aCons (dVar 1) (aCons (dVar 3) aNil))))))))
def D_check_classes : FnM := mkFn (List.length (["classes"] : List Str)) (List.length n_check_classes) d_check_classes
theorem ok_check_classes {P : Program} {w : World} {K : PySem.W.Frag} {mg : Str → Option Value} {base : Heap} (T : Txt K mg w) : FnOk P w K mg base (L2.CX P w) 9 T.f_check_classes T.d_check_classes ["classes"] (spF (GG T) D_check_classes) :=
  fn_ok (N := n_check_classes) (ps := ["classes"]) (k := 8) (G := GG T) (body := d_check_classes) T.F_check_classes sc_check_classes fun cdv A outer s H E hr => by
  unfold d_check_classes
  exact (dss_cons (ds_expr (de_call (takes_of rfl rfl rfl rfl) (ok_check_shells T) (hr.mono (by decide)) (by rfl) T.m_check_shells T.F_check_shells.kp T.b_check_shells (da_cons (de_var 0) (da_cons de_int da_nil))))
    (dss_one (ds_for (f := 4096) (passes_of rfl) rfl (di_enum rfl (by rfl) T.z_enumerate (da_cons (de_var 0) da_nil)) (dg_tup rfl rfl (dgs_cons (dg_name 1 sc_check_classes.nd) (dgs_cons (dg_name 2 sc_check_classes.nd) dgs_nil)) (gs_len (gs_len gs_len0))) (dss_one (ds_for (f := 4096) (passes_of rfl) rfl (di_rng1 (by rfl) T.z_range (da_cons (de_len rfl (by rfl) T.z_len (da_cons (de_ix rfl hr.units (de_var 2) de_int) da_nil)) da_nil)) (dg_name 3 sc_check_classes.nd) (dss_one (ds_expr (de_call (takes_of rfl rfl rfl rfl) (ok_check_code T) (hr.mono (by decide)) (by rfl) T.m_check_code T.F_check_code.kp T.b_check_code (da_cons (de_var 0) (da_cons (de_var 1) (da_cons (de_var 3) da_nil)))))))))))
def d_House___init__ : DenS :=
  (sSeq (sExpr (dCall D_check_classes (aCons (dVar 1) aNil)))
  (sFldM "House" "_classes" (dVar 0) (dVar 1)))
def D_House___init__ : FnM := mkFn (List.length (["self", "classes"] : List Str)) (List.length n_House___init__) d_House___init__
theorem ok_House___init__ {P : Program} {w : World} {K : PySem.W.Frag} {mg : Str → Option Value} {base : Heap} (T : Txt K mg w) : FnOk P w K mg base (L2.CX P w) 10 T.f_House___init__ T.d_House___init__ ["self", "classes"] (spF (GG T) D_House___init__) :=
  fn_ok (N := n_House___init__) (ps := ["self", "classes"]) (k := 9) (G := GG T) (body := d_House___init__) T.F_House___init__ sc_House___init__ fun cdv A outer s H E hr => by
  unfold d_House___init__
  exact (dss_cons (ds_expr (de_call (takes_of rfl rfl rfl rfl) (ok_check_classes T) (hr.mono (by decide)) (by rfl) T.m_check_classes T.F_check_classes.kp T.b_check_classes (da_cons (de_var 1) da_nil)))
    (dss_one (ds_fld (cn := "House") rfl (ct_House T) T.cl_House T.na_House__classes (de_var 0) (de_var 1))))
def d_House_classes : DenS :=
  (sRet (dUn (fFld "House" "_classes") (dVar 0)))
def D_House_classes : FnM := mkFn (List.length (["self"] : List Str)) (List.length n_House_classes) d_House_classes
theorem ok_House_classes {P : Program} {w : World} {K : PySem.W.Frag} {mg : Str → Option Value} {base : Heap} (T : Txt K mg w) : FnOk P w K mg base (L2.CX P w) 1 T.f_House_classes T.d_House_classes ["self"] (spF (GG T) D_House_classes) :=
  fn_ok (N := n_House_classes) (ps := ["self"]) (k := 0) (G := GG T) (body := d_House_classes) T.F_House_classes sc_House_classes fun cdv A outer s H E hr => by
  unfold d_House_classes
  exact (dss_one (ds_ret (de_fld (cn := "House") rfl (ct_House T) T.cl_House T.na_House__classes (de_var 0))))
def d_House___eq__ : DenS :=
  (sRet (dAnd (dUn (fIsOwn "House") (dVar 1)) (dBin fEq (dUn (fFld "House" "_classes") (dVar 0)) (dUn (fFld "House" "_classes") (dVar 1)))))
def D_House___eq__ : FnM := mkFn (List.length (["self", "other"] : List Str)) (List.length n_House___eq__) d_House___eq__
theorem ok_House___eq__ {P : Program} {w : World} {K : PySem.W.Frag} {mg : Str → Option Value} {base : Heap} (T : Txt K mg w) : FnOk P w K mg base (L2.CX P w) 1 T.f_House___eq__ T.d_House___eq__ ["self", "other"] (spF (GG T) D_House___eq__) :=
  fn_ok (N := n_House___eq__) (ps := ["self", "other"]) (k := 0) (G := GG T) (body := d_House___eq__) T.F_House___eq__ sc_House___eq__ fun cdv A outer s H E hr => by
  unfold d_House___eq__
  exact (dss_one (ds_ret (de_and (de_isOwn (cn := "House") rfl (ct_House T) T.oc_House (by rfl) T.z_isinstance (by rfl) T.m_House (de_var 1)) (de_one (de_cmp' (cmp_eq rfl hr.units) (de_fld (cn := "House") rfl (ct_House T) T.cl_House T.na_House__classes (de_var 0)) (de_fld (cn := "House") rfl (ct_House T) T.cl_House T.na_House__classes (de_var 1)) (nomark _))))))
def d_is_kind : DenS :=
  (sRet (dOr (dBin fIn (dVar 1) (dC c_LOOSE_KINDS)) (dCall D_is_class (aCons (dVar 0) (aCons (dVar 1) aNil)))))
def D_is_kind : FnM := mkFn (List.length (["classes", "value"] : List Str)) (List.length n_is_kind) d_is_kind
theorem ok_is_kind {P : Program} {w : World} {K : PySem.W.Frag} {mg : Str → Option Value} {base : Heap} (T : Txt K mg w) : FnOk P w K mg base (L2.CX P w) 3 T.f_is_kind T.d_is_kind ["classes", "value"] (spF (GG T) D_is_kind) :=
  fn_ok (N := n_is_kind) (ps := ["classes", "value"]) (k := 2) (G := GG T) (body := d_is_kind) T.F_is_kind sc_is_kind fun cdv A outer s H E hr => by
  unfold d_is_kind
  exact (dss_one (ds_ret (de_or (de_cmp' (cmp_in rfl) (de_var 1) (de_glob (by rfl) T.m_LOOSE_KINDS T.r_LOOSE_KINDS (T.k_LOOSE_KINDS _ _ _ _)) (by rfl)) (de_one (de_call (takes_of rfl rfl rfl rfl) (ok_is_class T) (hr.mono (by decide)) (by rfl) T.m_is_class T.F_is_class.kp T.b_is_class (da_cons (de_var 0) (da_cons (de_var 1) da_nil)))))))
def d_does_fit : DenS :=
  (sSeq (sIf (bOr (bCmp fEq (dVar 1) (dVar 2)) (bCmp fEq (dVar 2) (dC (.str "unset")))) (sRet (dC (.bl true))) sNil)
  (sSeq (sIf (bCmp fEq (dVar 1) (dC (.str "unset"))) (sRet (dC (.bl false))) sNil)
  (sSeq (sIf (bCmp fEq (dVar 2) (dC (.str "odd"))) (sRet (dC (.bl true))) sNil)
  (sSeq (sIf (bCmp fEq (dVar 1) (dC (.str "none"))) (sRet (dCall D_is_class (aCons (dVar 0) (aCons (dVar 2) aNil)))) sNil)
  (sRet (dAnd (dCall D_is_class (aCons (dVar 0) (aCons (dVar 1) aNil))) (dBin fIn (dVar 2) (dCall D_line_up (aCons (dVar 0) (aCons (dVar 1) aNil))))))))))
def D_does_fit : FnM := mkFn (List.length (["classes", "one", "other"] : List Str)) (List.length n_does_fit) d_does_fit
theorem ok_does_fit {P : Program} {w : World} {K : PySem.W.Frag} {mg : Str → Option Value} {base : Heap} (T : Txt K mg w) : FnOk P w K mg base (L2.CX P w) 3 T.f_does_fit T.d_does_fit ["classes", "one", "other"] (spF (GG T) D_does_fit) :=
  fn_ok (N := n_does_fit) (ps := ["classes", "one", "other"]) (k := 2) (G := GG T) (body := d_does_fit) T.F_does_fit sc_does_fit fun cdv A outer s H E hr => by
  unfold d_does_fit
  exact (dss_cons (ds_if (dw_dt (dw_or (dt_cmp (cmp_eq rfl hr.units) (de_var 1) (de_var 2) (nomark _)) (dw_or1 (dt_cmp (cmp_eq rfl hr.units) (de_var 2) de_str (nomark _))))) (dss_one (ds_ret de_bl)) dss_nil)
    (dss_cons (ds_if (dt_cmp (cmp_eq rfl hr.units) (de_var 1) de_str (nomark _)) (dss_one (ds_ret de_bl)) dss_nil)
    (dss_cons (ds_if (dt_cmp (cmp_eq rfl hr.units) (de_var 2) de_str (nomark _)) (dss_one (ds_ret de_bl)) dss_nil)
    (dss_cons (ds_if (dt_cmp (cmp_eq rfl hr.units) (de_var 1) de_str (nomark _)) (dss_one (ds_ret (de_call (takes_of rfl rfl rfl rfl) (ok_is_class T) (hr.mono (by decide)) (by rfl) T.m_is_class T.F_is_class.kp T.b_is_class (da_cons (de_var 0) (da_cons (de_var 2) da_nil))))) dss_nil)
    (dss_one (ds_ret (de_and (de_call (takes_of rfl rfl rfl rfl) (ok_is_class T) (hr.mono (by decide)) (by rfl) T.m_is_class T.F_is_class.kp T.b_is_class (da_cons (de_var 0) (da_cons (de_var 1) da_nil))) (de_one (de_cmp' (cmp_in rfl) (de_var 2) (de_call (takes_of rfl rfl rfl rfl) (ok_line_up T) (hr.mono (by decide)) (by rfl) T.m_line_up T.F_line_up.kp T.b_line_up (da_cons (de_var 0) (da_cons (de_var 1) da_nil))) (by rfl))))))))))
def d_first_common : DenS :=
  (sSeq (sAsg (dCall D_line_up (aCons (dVar 0) (aCons (dVar 2) aNil))) (gN 3))
  (sRet (dBin fIx (dLc 4096 (iAnyD (dCall D_line_up (aCons (dVar 0) (aCons (dVar 1) aNil)))) (gN 4) (bCmp fIn (dVar 4) (dVar 3)) (dVar 4) [4]) (dC (.int 0)))))
def D_first_common : FnM := mkFn (List.length (["classes", "one", "other"] : List Str)) (List.length n_first_common) d_first_common
theorem ok_first_common {P : Program} {w : World} {K : PySem.W.Frag} {mg : Str → Option Value} {base : Heap} (T : Txt K mg w) : FnOk P w K mg base (L2.CX P w) 3 T.f_first_common T.d_first_common ["classes", "one", "other"] (spF (GG T) D_first_common) :=
  fn_ok (N := n_first_common) (ps := ["classes", "one", "other"]) (k := 2) (G := GG T) (body := d_first_common) T.F_first_common sc_first_common fun cdv A outer s H E hr => by
  unfold d_first_common
  exact (dss_cons (ds_set 3 sc_first_common.nd (de_call (takes_of rfl rfl rfl rfl) (ok_line_up T) (hr.mono (by decide)) (by rfl) T.m_line_up T.F_line_up.kp T.b_line_up (da_cons (de_var 0) (da_cons (de_var 2) da_nil))))
    (dss_one (ds_ret (de_ix rfl hr.units (de_lc (f := 4096) (own := [("name", 4)]) rfl sc_first_common.nd (di_any rfl (de_call (takes_of rfl rfl rfl rfl) (ok_line_up T) (hr.mono (by decide)) (by rfl) T.m_line_up T.F_line_up.kp T.b_line_up (da_cons (de_var 0) (da_cons (de_var 1) da_nil)))) (blkOk_by (own := [("name", 4)]) (N := n_first_common) (sc := defScope s_first_common) (by decide +kernel)) (fun _ _ _ _ _ => (dg_name 4 sc_first_common.nd)) (fun _ _ _ _ _ => (dts_one (dt_cmp (cmp_in rfl) (de_var 4) (de_var 3) (by rfl)))) (fun _ _ _ _ _ => (de_var 4))) de_int))))
def d_join_of : DenS :=
  (sSeq (sIf (bTru (dCall D_does_fit (aCons (dVar 0) (aCons (dVar 1) (aCons (dVar 2) aNil))))) (sRet (dVar 2)) sNil)
  (sSeq (sIf (bTru (dCall D_does_fit (aCons (dVar 0) (aCons (dVar 2) (aCons (dVar 1) aNil))))) (sRet (dVar 1)) sNil)
  (sSeq (sIf (bAnd (bTru (dCall D_is_class (aCons (dVar 0) (aCons (dVar 1) aNil)))) (bTru (dCall D_is_class (aCons (dVar 0) (aCons (dVar 2) aNil))))) (sRet (dCall D_first_common (aCons (dVar 0) (aCons (dVar 1) (aCons (dVar 2) aNil))))) sNil)
  (sRet (dC (.str "odd"))))))
def D_join_of : FnM := mkFn (List.length (["classes", "one", "other"] : List Str)) (List.length n_join_of) d_join_of
theorem ok_join_of {P : Program} {w : World} {K : PySem.W.Frag} {mg : Str → Option Value} {base : Heap} (T : Txt K mg w) : FnOk P w K mg base (L2.CX P w) 4 T.f_join_of T.d_join_of ["classes", "one", "other"] (spF (GG T) D_join_of) :=
  fn_ok (N := n_join_of) (ps := ["classes", "one", "other"]) (k := 3) (G := GG T) (body := d_join_of) T.F_join_of sc_join_of fun cdv A outer s H E hr => by
  unfold d_join_of
  exact (dss_cons (ds_if (dt_truth rfl (de_call (takes_of rfl rfl rfl rfl) (ok_does_fit T) (hr.mono (by decide)) (by rfl) T.m_does_fit T.F_does_fit.kp T.b_does_fit (da_cons (de_var 0) (da_cons (de_var 1) (da_cons (de_var 2) da_nil))))) (dss_one (ds_ret (de_var 2))) dss_nil)
    (dss_cons (ds_if (dt_truth rfl (de_call (takes_of rfl rfl rfl rfl) (ok_does_fit T) (hr.mono (by decide)) (by rfl) T.m_does_fit T.F_does_fit.kp T.b_does_fit (da_cons (de_var 0) (da_cons (de_var 2) (da_cons (de_var 1) da_nil))))) (dss_one (ds_ret (de_var 1))) dss_nil)
    (dss_cons (ds_if (dw_dt (dw_and (dt_truth rfl (de_call (takes_of rfl rfl rfl rfl) (ok_is_class T) (hr.mono (by decide)) (by rfl) T.m_is_class T.F_is_class.kp T.b_is_class (da_cons (de_var 0) (da_cons (de_var 1) da_nil)))) (dw_and1 (dt_truth rfl (de_call (takes_of rfl rfl rfl rfl) (ok_is_class T) (hr.mono (by decide)) (by rfl) T.m_is_class T.F_is_class.kp T.b_is_class (da_cons (de_var 0) (da_cons (de_var 2) da_nil))))))) (dss_one (ds_ret (de_call (takes_of rfl rfl rfl rfl) (ok_first_common T) (hr.mono (by decide)) (by rfl) T.m_first_common T.F_first_common.kp T.b_first_common (da_cons (de_var 0) (da_cons (de_var 1) (da_cons (de_var 2) da_nil)))))) dss_nil)
    (dss_one (ds_ret de_str)))))
def d_check_house : DenS :=
  (sIf (bNot (bTru (dUn (fIsOwn "House") (dVar 0)))) sNever sNil)
def D_check_house : FnM := mkFn (List.length (["house"] : List Str)) (List.length n_check_house) d_check_house
theorem ok_check_house {P : Program} {w : World} {K : PySem.W.Frag} {mg : Str → Option Value} {base : Heap} (T : Txt K mg w) : FnOk P w K mg base (L2.CX P w) 1 T.f_check_house T.d_check_house ["house"] (spF (GG T) D_check_house) :=
  fn_ok (N := n_check_house) (ps := ["house"]) (k := 0) (G := GG T) (body := d_check_house) T.F_check_house sc_check_house fun cdv A outer s H E hr => by
  unfold d_check_house
  exact (dss_one (ds_if (dt_not (dt_truth rfl (de_isOwn (cn := "House") rfl (ct_House T) T.oc_House (by rfl) T.z_isinstance (by rfl) T.m_House (de_var 0)))) (dss_one ds_never) dss_nil))
def d_check_name : DenS :=
  (sSeq (sExpr (dCall D_check_house (aCons (dVar 0) aNil)))
  (sIf (bNot (bTru (dCall D_is_class (aCons (dUn (fProp "House" D_House_classes) (dVar 0)) (aCons (dVar 1) aNil))))) sNever sNil))
def D_check_name : FnM := mkFn (List.length (["house", "name"] : List Str)) (List.length n_check_name) d_check_name
theorem ok_check_name {P : Program} {w : World} {K : PySem.W.Frag} {mg : Str → Option Value} {base : Heap} (T : Txt K mg w) : FnOk P w K mg base (L2.CX P w) 3 T.f_check_name T.d_check_name ["house", "name"] (spF (GG T) D_check_name) :=
  fn_ok (N := n_check_name) (ps := ["house", "name"]) (k := 2) (G := GG T) (body := d_check_name) T.F_check_name sc_check_name fun cdv A outer s H E hr => by
  unfold d_check_name
  exact (dss_cons (ds_expr (de_call (takes_of rfl rfl rfl rfl) (ok_check_house T) (hr.mono (by decide)) (by rfl) T.m_check_house T.F_check_house.kp T.b_check_house (da_cons (de_var 0) da_nil)))
    (dss_one (ds_if (dt_not (dt_truth rfl (de_call (takes_of rfl rfl rfl rfl) (ok_is_class T) (hr.mono (by decide)) (by rfl) T.m_is_class T.F_is_class.kp T.b_is_class (da_cons (de_prop (cn := "House") rfl (ct_House T) T.cl_House T.pr_House_classes (ok_House_classes T) (hr.mono (by decide)) T.b_House_classes (de_var 0)) (da_cons (de_var 1) da_nil))))) (dss_one ds_never) dss_nil)))
def d_check_kind : DenS :=
  (sSeq (sExpr (dCall D_check_house (aCons (dVar 0) aNil)))
  (sIf (bNot (bTru (dCall D_is_kind (aCons (dUn (fProp "House" D_House_classes) (dVar 0)) (aCons (dVar 1) aNil))))) sNever sNil))
def D_check_kind : FnM := mkFn (List.length (["house", "kind"] : List Str)) (List.length n_check_kind) d_check_kind
theorem ok_check_kind {P : Program} {w : World} {K : PySem.W.Frag} {mg : Str → Option Value} {base : Heap} (T : Txt K mg w) : FnOk P w K mg base (L2.CX P w) 4 T.f_check_kind T.d_check_kind ["house", "kind"] (spF (GG T) D_check_kind) :=
  fn_ok (N := n_check_kind) (ps := ["house", "kind"]) (k := 3) (G := GG T) (body := d_check_kind) T.F_check_kind sc_check_kind fun cdv A outer s H E hr => by
  unfold d_check_kind
  exact (dss_cons (ds_expr (de_call (takes_of rfl rfl rfl rfl) (ok_check_house T) (hr.mono (by decide)) (by rfl) T.m_check_house T.F_check_house.kp T.b_check_house (da_cons (de_var 0) da_nil)))
    (dss_one (ds_if (dt_not (dt_truth rfl (de_call (takes_of rfl rfl rfl rfl) (ok_is_kind T) (hr.mono (by decide)) (by rfl) T.m_is_kind T.F_is_kind.kp T.b_is_kind (da_cons (de_prop (cn := "House") rfl (ct_House T) T.cl_House T.pr_House_classes (ok_House_classes T) (hr.mono (by decide)) T.b_House_classes (de_var 0)) (da_cons (de_var 1) da_nil))))) (dss_one ds_never) dss_nil)))
def d_check_word : DenS :=
  (sSeq (sExpr (dCall D_check_name (aCons (dVar 0) (aCons (dVar 1) aNil))))
  (sIf (bNot (bTru (dCall D_is_word (aCons (dVar 2) aNil)))) sNever sNil))
def D_check_word : FnM := mkFn (List.length (["house", "name", "word"] : List Str)) (List.length n_check_word) d_check_word
theorem ok_check_word {P : Program} {w : World} {K : PySem.W.Frag} {mg : Str → Option Value} {base : Heap} (T : Txt K mg w) : FnOk P w K mg base (L2.CX P w) 4 T.f_check_word T.d_check_word ["house", "name", "word"] (spF (GG T) D_check_word) :=
  fn_ok (N := n_check_word) (ps := ["house", "name", "word"]) (k := 3) (G := GG T) (body := d_check_word) T.F_check_word sc_check_word fun cdv A outer s H E hr => by
  unfold d_check_word
  exact (dss_cons (ds_expr (de_call (takes_of rfl rfl rfl rfl) (ok_check_name T) (hr.mono (by decide)) (by rfl) T.m_check_name T.F_check_name.kp T.b_check_name (da_cons (de_var 0) (da_cons (de_var 1) da_nil))))
    (dss_one (ds_if (dt_not (dt_truth rfl (de_call (takes_of rfl rfl rfl rfl) (ok_is_word T) (hr.mono (by decide)) (by rfl) T.m_is_word T.F_is_word.kp T.b_is_word (da_cons (de_var 2) da_nil)))) (dss_one ds_never) dss_nil)))
def d_upward : DenS :=
  (sSeq (sExpr (dCall D_check_name (aCons (dVar 0) (aCons (dVar 1) aNil))))
  (sRet (dCall D_line_up (aCons (dUn (fProp "House" D_House_classes) (dVar 0)) (aCons (dVar 1) aNil)))))
def D_upward : FnM := mkFn (List.length (["house", "name"] : List Str)) (List.length n_upward) d_upward
theorem ok_upward {P : Program} {w : World} {K : PySem.W.Frag} {mg : Str → Option Value} {base : Heap} (T : Txt K mg w) : FnOk P w K mg base (L2.CX P w) 4 T.f_upward T.d_upward ["house", "name"] (spF (GG T) D_upward) :=
  fn_ok (N := n_upward) (ps := ["house", "name"]) (k := 3) (G := GG T) (body := d_upward) T.F_upward sc_upward fun cdv A outer s H E hr => by
  unfold d_upward
  exact (dss_cons (ds_expr (de_call (takes_of rfl rfl rfl rfl) (ok_check_name T) (hr.mono (by decide)) (by rfl) T.m_check_name T.F_check_name.kp T.b_check_name (da_cons (de_var 0) (da_cons (de_var 1) da_nil))))
    (dss_one (ds_ret (de_call (takes_of rfl rfl rfl rfl) (ok_line_up T) (hr.mono (by decide)) (by rfl) T.m_line_up T.F_line_up.kp T.b_line_up (da_cons (de_prop (cn := "House") rfl (ct_House T) T.cl_House T.pr_House_classes (ok_House_classes T) (hr.mono (by decide)) T.b_House_classes (de_var 0)) (da_cons (de_var 1) da_nil))))))
def d_downward : DenS :=
  (sSeq (sExpr (dCall D_check_name (aCons (dVar 0) (aCons (dVar 1) aNil))))
  (sRet (dCall D_line_down (aCons (dUn (fProp "House" D_House_classes) (dVar 0)) (aCons (dVar 1) aNil)))))
def D_downward : FnM := mkFn (List.length (["house", "name"] : List Str)) (List.length n_downward) d_downward
theorem ok_downward {P : Program} {w : World} {K : PySem.W.Frag} {mg : Str → Option Value} {base : Heap} (T : Txt K mg w) : FnOk P w K mg base (L2.CX P w) 4 T.f_downward T.d_downward ["house", "name"] (spF (GG T) D_downward) :=
  fn_ok (N := n_downward) (ps := ["house", "name"]) (k := 3) (G := GG T) (body := d_downward) T.F_downward sc_downward fun cdv A outer s H E hr => by
  unfold d_downward
  exact (dss_cons (ds_expr (de_call (takes_of rfl rfl rfl rfl) (ok_check_name T) (hr.mono (by decide)) (by rfl) T.m_check_name T.F_check_name.kp T.b_check_name (da_cons (de_var 0) (da_cons (de_var 1) da_nil))))
    (dss_one (ds_ret (de_call (takes_of rfl rfl rfl rfl) (ok_line_down T) (hr.mono (by decide)) (by rfl) T.m_line_down T.F_line_down.kp T.b_line_down (da_cons (de_prop (cn := "House") rfl (ct_House T) T.cl_House T.pr_House_classes (ok_House_classes T) (hr.mono (by decide)) T.b_House_classes (de_var 0)) (da_cons (de_var 1) da_nil))))))
def d_common : DenS :=
  (sSeq (sExpr (dCall D_check_name (aCons (dVar 0) (aCons (dVar 1) aNil))))
  (sSeq (sExpr (dCall D_check_name (aCons (dVar 0) (aCons (dVar 2) aNil))))
  (sRet (dCall D_first_common (aCons (dUn (fProp "House" D_House_classes) (dVar 0)) (aCons (dVar 1) (aCons (dVar 2) aNil)))))))
def D_common : FnM := mkFn (List.length (["house", "one", "other"] : List Str)) (List.length n_common) d_common
theorem ok_common {P : Program} {w : World} {K : PySem.W.Frag} {mg : Str → Option Value} {base : Heap} (T : Txt K mg w) : FnOk P w K mg base (L2.CX P w) 4 T.f_common T.d_common ["house", "one", "other"] (spF (GG T) D_common) :=
  fn_ok (N := n_common) (ps := ["house", "one", "other"]) (k := 3) (G := GG T) (body := d_common) T.F_common sc_common fun cdv A outer s H E hr => by
  unfold d_common
  exact (dss_cons (ds_expr (de_call (takes_of rfl rfl rfl rfl) (ok_check_name T) (hr.mono (by decide)) (by rfl) T.m_check_name T.F_check_name.kp T.b_check_name (da_cons (de_var 0) (da_cons (de_var 1) da_nil))))
    (dss_cons (ds_expr (de_call (takes_of rfl rfl rfl rfl) (ok_check_name T) (hr.mono (by decide)) (by rfl) T.m_check_name T.F_check_name.kp T.b_check_name (da_cons (de_var 0) (da_cons (de_var 2) da_nil))))
    (dss_one (ds_ret (de_call (takes_of rfl rfl rfl rfl) (ok_first_common T) (hr.mono (by decide)) (by rfl) T.m_first_common T.F_first_common.kp T.b_first_common (da_cons (de_prop (cn := "House") rfl (ct_House T) T.cl_House T.pr_House_classes (ok_House_classes T) (hr.mono (by decide)) T.b_House_classes (de_var 0)) (da_cons (de_var 1) (da_cons (de_var 2) da_nil))))))))
def d_fits : DenS :=
  (sSeq (sExpr (dCall D_check_kind (aCons (dVar 0) (aCons (dVar 1) aNil))))
  (sSeq (sExpr (dCall D_check_kind (aCons (dVar 0) (aCons (dVar 2) aNil))))
  (sRet (dCall D_does_fit (aCons (dUn (fProp "House" D_House_classes) (dVar 0)) (aCons (dVar 1) (aCons (dVar 2) aNil)))))))
def D_fits : FnM := mkFn (List.length (["house", "one", "other"] : List Str)) (List.length n_fits) d_fits
theorem ok_fits {P : Program} {w : World} {K : PySem.W.Frag} {mg : Str → Option Value} {base : Heap} (T : Txt K mg w) : FnOk P w K mg base (L2.CX P w) 5 T.f_fits T.d_fits ["house", "one", "other"] (spF (GG T) D_fits) :=
  fn_ok (N := n_fits) (ps := ["house", "one", "other"]) (k := 4) (G := GG T) (body := d_fits) T.F_fits sc_fits fun cdv A outer s H E hr => by
  unfold d_fits
  exact (dss_cons (ds_expr (de_call (takes_of rfl rfl rfl rfl) (ok_check_kind T) (hr.mono (by decide)) (by rfl) T.m_check_kind T.F_check_kind.kp T.b_check_kind (da_cons (de_var 0) (da_cons (de_var 1) da_nil))))
    (dss_cons (ds_expr (de_call (takes_of rfl rfl rfl rfl) (ok_check_kind T) (hr.mono (by decide)) (by rfl) T.m_check_kind T.F_check_kind.kp T.b_check_kind (da_cons (de_var 0) (da_cons (de_var 2) da_nil))))
    (dss_one (ds_ret (de_call (takes_of rfl rfl rfl rfl) (ok_does_fit T) (hr.mono (by decide)) (by rfl) T.m_does_fit T.F_does_fit.kp T.b_does_fit (da_cons (de_prop (cn := "House") rfl (ct_House T) T.cl_House T.pr_House_classes (ok_House_classes T) (hr.mono (by decide)) T.b_House_classes (de_var 0)) (da_cons (de_var 1) (da_cons (de_var 2) da_nil))))))))
def d_joined : DenS :=
  (sSeq (sExpr (dCall D_check_kind (aCons (dVar 0) (aCons (dVar 1) aNil))))
  (sSeq (sExpr (dCall D_check_kind (aCons (dVar 0) (aCons (dVar 2) aNil))))
  (sRet (dCall D_join_of (aCons (dUn (fProp "House" D_House_classes) (dVar 0)) (aCons (dVar 1) (aCons (dVar 2) aNil)))))))
def D_joined : FnM := mkFn (List.length (["house", "one", "other"] : List Str)) (List.length n_joined) d_joined
theorem ok_joined {P : Program} {w : World} {K : PySem.W.Frag} {mg : Str → Option Value} {base : Heap} (T : Txt K mg w) : FnOk P w K mg base (L2.CX P w) 5 T.f_joined T.d_joined ["house", "one", "other"] (spF (GG T) D_joined) :=
  fn_ok (N := n_joined) (ps := ["house", "one", "other"]) (k := 4) (G := GG T) (body := d_joined) T.F_joined sc_joined fun cdv A outer s H E hr => by
  unfold d_joined
  exact (dss_cons (ds_expr (de_call (takes_of rfl rfl rfl rfl) (ok_check_kind T) (hr.mono (by decide)) (by rfl) T.m_check_kind T.F_check_kind.kp T.b_check_kind (da_cons (de_var 0) (da_cons (de_var 1) da_nil))))
    (dss_cons (ds_expr (de_call (takes_of rfl rfl rfl rfl) (ok_check_kind T) (hr.mono (by decide)) (by rfl) T.m_check_kind T.F_check_kind.kp T.b_check_kind (da_cons (de_var 0) (da_cons (de_var 2) da_nil))))
    (dss_one (ds_ret (de_call (takes_of rfl rfl rfl rfl) (ok_join_of T) (hr.mono (by decide)) (by rfl) T.m_join_of T.F_join_of.kp T.b_join_of (da_cons (de_prop (cn := "House") rfl (ct_House T) T.cl_House T.pr_House_classes (ok_House_classes T) (hr.mono (by decide)) T.b_House_classes (de_var 0)) (da_cons (de_var 1) (da_cons (de_var 2) da_nil))))))))
def d_fields_of : DenS :=
  (sSeq (sExpr (dCall D_check_name (aCons (dVar 0) (aCons (dVar 1) aNil))))
  (sRet (dCall D_fields_up (aCons (dUn (fProp "House" D_House_classes) (dVar 0)) (aCons (dVar 1) aNil)))))
def D_fields_of : FnM := mkFn (List.length (["house", "name"] : List Str)) (List.length n_fields_of) d_fields_of
theorem ok_fields_of {P : Program} {w : World} {K : PySem.W.Frag} {mg : Str → Option Value} {base : Heap} (T : Txt K mg w) : FnOk P w K mg base (L2.CX P w) 4 T.f_fields_of T.d_fields_of ["house", "name"] (spF (GG T) D_fields_of) :=
  fn_ok (N := n_fields_of) (ps := ["house", "name"]) (k := 3) (G := GG T) (body := d_fields_of) T.F_fields_of sc_fields_of fun cdv A outer s H E hr => by
  unfold d_fields_of
  exact (dss_cons (ds_expr (de_call (takes_of rfl rfl rfl rfl) (ok_check_name T) (hr.mono (by decide)) (by rfl) T.m_check_name T.F_check_name.kp T.b_check_name (da_cons (de_var 0) (da_cons (de_var 1) da_nil))))
    (dss_one (ds_ret (de_call (takes_of rfl rfl rfl rfl) (ok_fields_up T) (hr.mono (by decide)) (by rfl) T.m_fields_up T.F_fields_up.kp T.b_fields_up (da_cons (de_prop (cn := "House") rfl (ct_House T) T.cl_House T.pr_House_classes (ok_House_classes T) (hr.mono (by decide)) T.b_House_classes (de_var 0)) (da_cons (de_var 1) da_nil))))))
def d_method_of : DenS :=
  (sSeq (sExpr (dCall D_check_word (aCons (dVar 0) (aCons (dVar 1) (aCons (dVar 2) aNil)))))
  (sRet (dCall D_nearest (aCons (dUn (fProp "House" D_House_classes) (dVar 0)) (aCons (dVar 1) (aCons (dVar 2) aNil))))))
def D_method_of : FnM := mkFn (List.length (["house", "name", "word"] : List Str)) (List.length n_method_of) d_method_of
theorem ok_method_of {P : Program} {w : World} {K : PySem.W.Frag} {mg : Str → Option Value} {base : Heap} (T : Txt K mg w) : FnOk P w K mg base (L2.CX P w) 5 T.f_method_of T.d_method_of ["house", "name", "word"] (spF (GG T) D_method_of) :=
  fn_ok (N := n_method_of) (ps := ["house", "name", "word"]) (k := 4) (G := GG T) (body := d_method_of) T.F_method_of sc_method_of fun cdv A outer s H E hr => by
  unfold d_method_of
  exact (dss_cons (ds_expr (de_call (takes_of rfl rfl rfl rfl) (ok_check_word T) (hr.mono (by decide)) (by rfl) T.m_check_word T.F_check_word.kp T.b_check_word (da_cons (de_var 0) (da_cons (de_var 1) (da_cons (de_var 2) da_nil)))))
    (dss_one (ds_ret (de_call (takes_of rfl rfl rfl rfl) (ok_nearest T) (hr.mono (by decide)) (by rfl) T.m_nearest T.F_nearest.kp T.b_nearest (da_cons (de_prop (cn := "House") rfl (ct_House T) T.cl_House T.pr_House_classes (ok_House_classes T) (hr.mono (by decide)) T.b_House_classes (de_var 0)) (da_cons (de_var 1) (da_cons (de_var 2) da_nil)))))))
def d_methods_of : DenS :=
  (sSeq (sExpr (dCall D_check_name (aCons (dVar 0) (aCons (dVar 1) aNil))))
  (sSeq (sAsg dDic0 (gN 2))
  (sSeq (sFor 4096 (iAnyD (dCall D_line_up (aCons (dUn (fProp "House" D_House_classes) (dVar 0)) (aCons (dVar 1) aNil)))) (gN 3) (sFor 4096 (iAnyD (dBin fIx (dCall D_class_of (aCons (dUn (fProp "House" D_House_classes) (dVar 0)) (aCons (dVar 3) aNil))) (dC (.int 3)))) (gN 4) (sExpr (dSetd (dVar 2) (dBin fIx (dVar 4) (dC (.int 0))) (dVar 3)))))
  (sRet (dUn fTupOf (dUn fSortIt (dVar 2)))))))
def D_methods_of : FnM := mkFn (List.length (["house", "name"] : List Str)) (List.length n_methods_of) d_methods_of
theorem ok_methods_of {P : Program} {w : World} {K : PySem.W.Frag} {mg : Str → Option Value} {base : Heap} (T : Txt K mg w) : FnOk P w K mg base (L2.CX P w) 4 T.f_methods_of T.d_methods_of ["house", "name"] (spF (GG T) D_methods_of) :=
  fn_ok (N := n_methods_of) (ps := ["house", "name"]) (k := 3) (G := GG T) (body := d_methods_of) T.F_methods_of sc_methods_of fun cdv A outer s H E hr => by
  unfold d_methods_of
  exact (dss_cons (ds_expr (de_call (takes_of rfl rfl rfl rfl) (ok_check_name T) (hr.mono (by decide)) (by rfl) T.m_check_name T.F_check_name.kp T.b_check_name (da_cons (de_var 0) (da_cons (de_var 1) da_nil))))
    (dss_cons (ds_set 2 sc_methods_of.nd de_dic0)
    (dss_cons (ds_for (f := 4096) (passes_of rfl) rfl (di_any rfl (de_call (takes_of rfl rfl rfl rfl) (ok_line_up T) (hr.mono (by decide)) (by rfl) T.m_line_up T.F_line_up.kp T.b_line_up (da_cons (de_prop (cn := "House") rfl (ct_House T) T.cl_House T.pr_House_classes (ok_House_classes T) (hr.mono (by decide)) T.b_House_classes (de_var 0)) (da_cons (de_var 1) da_nil)))) (dg_name 3 sc_methods_of.nd) (dss_one (ds_for (f := 4096) (passes_of rfl) rfl (di_any rfl (de_ix rfl hr.units (de_call (takes_of rfl rfl rfl rfl) (ok_class_of T) (hr.mono (by decide)) (by rfl) T.m_class_of T.F_class_of.kp T.b_class_of (da_cons (de_prop (cn := "House") rfl (ct_House T) T.cl_House T.pr_House_classes (ok_House_classes T) (hr.mono (by decide)) T.b_House_classes (de_var 0)) (da_cons (de_var 3) da_nil))) de_int)) (dg_name 4 sc_methods_of.nd) (dss_one (ds_expr (de_setd (de_var 2) (de_ix rfl hr.units (de_var 4) de_int) (de_var 3) ⟨by rfl, by rfl, by rfl, by rfl⟩))))))
    (dss_one (ds_ret (de_tupOf rfl (by rfl) T.z_tuple (de_sortIt rfl (by rfl) T.z_sorted (de_var 2))))))))
def d_overrides : DenS :=
  (sSeq (sExpr (dCall D_check_house (aCons (dVar 0) aNil)))
  (sSeq (sAsg (dLst aNil) (gN 1))
  (sSeq (sFor 4096 (iAnyD (dUn (fProp "House" D_House_classes) (dVar 0))) (gT (gsCons (gN 2) (gsCons (gN 3) (gsCons (gN 4) (gsCons (gN 5) gsNil))))) (sFor 4096 (iAnyD (dVar 5)) (gN 6) (sSeq (sAsg (dCall D_nearest (aCons (dUn (fProp "House" D_House_classes) (dVar 0)) (aCons (dVar 3) (aCons (dBin fIx (dVar 6) (dC (.int 0))) aNil)))) (gN 7))
  (sIf (bCmp fIsNot (dVar 7) (dC .non)) (sExpr (dMet isLst fAppend (dVar 1) (aCons (dTup (aCons (dVar 2) (aCons (dBin fIx (dVar 6) (dC (.int 0))) (aCons (dBin fIx (dVar 7) (dC (.int 0))) aNil)))) aNil))) sNil))))
  (sRet (dVar 1)))))
def D_overrides : FnM := mkFn (List.length (["house"] : List Str)) (List.length n_overrides) d_overrides
theorem ok_overrides {P : Program} {w : World} {K : PySem.W.Frag} {mg : Str → Option Value} {base : Heap} (T : Txt K mg w) : FnOk P w K mg base (L2.CX P w) 4 T.f_overrides T.d_overrides ["house"] (spF (GG T) D_overrides) :=
  fn_ok (N := n_overrides) (ps := ["house"]) (k := 3) (G := GG T) (body := d_overrides) T.F_overrides sc_overrides fun cdv A outer s H E hr => by
  unfold d_overrides
  exact (dss_cons (ds_expr (de_call (takes_of rfl rfl rfl rfl) (ok_check_house T) (hr.mono (by decide)) (by rfl) T.m_check_house T.F_check_house.kp T.b_check_house (da_cons (de_var 0) da_nil)))
    (dss_cons (ds_set 1 sc_overrides.nd (de_lst da_nil))
    (dss_cons (ds_for (f := 4096) (passes_of rfl) rfl (di_any rfl (de_prop (cn := "House") rfl (ct_House T) T.cl_House T.pr_House_classes (ok_House_classes T) (hr.mono (by decide)) T.b_House_classes (de_var 0))) (dg_tup rfl rfl (dgs_cons (dg_name 2 sc_overrides.nd) (dgs_cons (dg_name 3 sc_overrides.nd) (dgs_cons (dg_name 4 sc_overrides.nd) (dgs_cons (dg_name 5 sc_overrides.nd) dgs_nil)))) (gs_len (gs_len (gs_len (gs_len gs_len0))))) (dss_one (ds_for (f := 4096) (passes_of rfl) rfl (di_any rfl (de_var 5)) (dg_name 6 sc_overrides.nd) (dss_cons (ds_set 7 sc_overrides.nd (de_call (takes_of rfl rfl rfl rfl) (ok_nearest T) (hr.mono (by decide)) (by rfl) T.m_nearest T.F_nearest.kp T.b_nearest (da_cons (de_prop (cn := "House") rfl (ct_House T) T.cl_House T.pr_House_classes (ok_House_classes T) (hr.mono (by decide)) T.b_House_classes (de_var 0)) (da_cons (de_var 3) (da_cons (de_ix rfl hr.units (de_var 6) de_int) da_nil)))))
    (dss_one (ds_if (dt_cmp cmp_isNot (de_var 7) de_non (nomark _)) (dss_one (ds_expr (de_append rfl (de_var 1) (da_cons (de_tup (da_cons (de_var 2) (da_cons (de_ix rfl hr.units (de_var 6) de_int) (da_cons (de_ix rfl hr.units (de_var 7) de_int) da_nil)))) da_nil)))) dss_nil))))))
    (dss_one (ds_ret (de_var 1))))))
def d_told : DenS :=
  (sRet (dTx fJoinB (dC (.str " ")) (dLc 4096 (iAnyD (dVar 0)) (gN 1) bYes (dCall fStrOf (aCons (dVar 1) aNil)) [1])))
def D_told : FnM := mkFnS (List.length n_told) d_told
theorem ok_told {P : Program} {w : World} {K : PySem.W.Frag} {mg : Str → Option Value} {base : Heap} (T : Txt K mg w) : FnR P w K mg base (L2.CX P w) 1 T.f_told (spF (GG T) D_told) :=
  fn_okS (N := n_told) (pv := "parts") (k := 0) (G := GG T) (body := d_told) T.F_told sc_told (fun _ _ _ _ _ _ us rest hl => by cases us with | nil => cases rest <;> rfl | cons _ _ => cases hl) fun cdv A outer s H E hr => by
  unfold d_told
  exact (dss_one (ds_ret (de_join rfl de_str (de_lc (f := 4096) (own := [("part", 1)]) rfl sc_told.nd (di_any rfl (de_var 0)) (blkOk_by (own := [("part", 1)]) (N := n_told) (sc := defScope s_told) (by decide +kernel)) (fun _ _ _ _ _ => (dg_name 1 sc_told.nd)) (fun _ _ _ _ _ => dts_nil) (fun _ _ _ _ _ => (de_strOf (by rfl) T.z_str (da_cons (de_var 1) da_nil)))))))
def d_shell_lines : DenS :=
  (sSeq (sAsg (dVar 0) (gT (gsCons (gN 1) (gsCons (gN 2) (gsCons (gN 3) (gsCons (gN 4) gsNil))))))
  (sRet (dBin fAdd (dLst (aCons (dCallR D_told (aCons (dC (.str "class")) (aCons (dVar 1) (aCons (dC (.str "under")) (aCons (dVar 2) aNil))))) aNil)) (dLc 4096 (iAnyD (dVar 3)) (gN 5) bYes (dCallR D_told (aCons (dC (.str "field")) (aStar (dVar 5) aNil))) [5]))))
def D_shell_lines : FnM := mkFn (List.length (["row"] : List Str)) (List.length n_shell_lines) d_shell_lines
theorem ok_shell_lines {P : Program} {w : World} {K : PySem.W.Frag} {mg : Str → Option Value} {base : Heap} (T : Txt K mg w) : FnOk P w K mg base (L2.CX P w) 2 T.f_shell_lines T.d_shell_lines ["row"] (spF (GG T) D_shell_lines) :=
  fn_ok (N := n_shell_lines) (ps := ["row"]) (k := 1) (G := GG T) (body := d_shell_lines) T.F_shell_lines sc_shell_lines fun cdv A outer s H E hr => by
  unfold d_shell_lines
  exact (dss_cons (ds_asg (de_var 0) (dg_tup rfl rfl (dgs_cons (dg_name 1 sc_shell_lines.nd) (dgs_cons (dg_name 2 sc_shell_lines.nd) (dgs_cons (dg_name 3 sc_shell_lines.nd) (dgs_cons (dg_name 4 sc_shell_lines.nd) dgs_nil)))) (gs_len (gs_len (gs_len (gs_len gs_len0))))))
    (dss_one (ds_ret (de_add rfl (de_lst (da_cons (de_callR0 (ok_told T) (hr.mono (by decide)) (by rfl) T.m_told T.F_told.kp passL (da_cons de_str (da_cons (de_var 1) (da_cons de_str (da_cons (de_var 2) da_nil))))) da_nil)) (de_lc (f := 4096) (own := [("pair", 5)]) rfl sc_shell_lines.nd (di_any rfl (de_var 3)) (blkOk_by (own := [("pair", 5)]) (N := n_shell_lines) (sc := defScope s_shell_lines) (by decide +kernel)) (fun _ _ _ _ _ => (dg_name 5 sc_shell_lines.nd)) (fun _ _ _ _ _ => dts_nil) (fun _ _ _ _ _ => (de_callR2 (ok_told T) (hr.mono (by decide)) (by rfl) T.m_told T.F_told.kp passL (da_cons de_str (da_star rfl (de_var 5) da_nil)))))))))
def d_head_line : DenS :=
  (sSeq (sAsg (dSl (dVar 0) oNone (oSome (dC (.int 3)))) (gT (gsCons (gN 1) (gsCons (gN 2) (gsCons (gN 3) gsNil)))))
  (sRet (dCallR D_told (aCons (dC (.str "method")) (aCons (dVar 1) (aCons (dVar 3) (aStar (dVar 2) aNil)))))))
def D_head_line : FnM := mkFn (List.length (["method"] : List Str)) (List.length n_head_line) d_head_line
theorem ok_head_line {P : Program} {w : World} {K : PySem.W.Frag} {mg : Str → Option Value} {base : Heap} (T : Txt K mg w) : FnOk P w K mg base (L2.CX P w) 2 T.f_head_line T.d_head_line ["method"] (spF (GG T) D_head_line) :=
  fn_ok (N := n_head_line) (ps := ["method"]) (k := 1) (G := GG T) (body := d_head_line) T.F_head_line sc_head_line fun cdv A outer s H E hr => by
  unfold d_head_line
  exact (dss_cons (ds_asg (de_sl rfl (de_var 0) do_none (do_some de_int)) (dg_tup rfl rfl (dgs_cons (dg_name 1 sc_head_line.nd) (dgs_cons (dg_name 2 sc_head_line.nd) (dgs_cons (dg_name 3 sc_head_line.nd) dgs_nil))) (gs_len (gs_len (gs_len gs_len0)))))
    (dss_one (ds_ret (de_callR2 (ok_told T) (hr.mono (by decide)) (by rfl) T.m_told T.F_told.kp passL (da_cons de_str (da_cons (de_var 1) (da_cons (de_var 3) (da_star rfl (de_var 2) da_nil))))))))
def d_method_lines : DenS :=
  (sSeq (sAsg (dLst (aCons (dCall D_head_line (aCons (dVar 0) aNil)) aNil)) (gN 1))
  (sSeq (sExpr (dMet isLst fExtend (dVar 1) (aCons (dLc 4096 (iAnyD (dBin fIx (dVar 0) (dC (.int 3)))) (gN 2) bYes (dCallR1 D_told (dVar 2)) [2]) aNil)))
  (sSeq (sExpr (dMet isLst fExtend (dVar 1) (aCons (dLc 4096 (iAnyD (dBin fIx (dVar 0) (dC (.int 4)))) (gN 3) bYes (dCallR D_told (aCons (dC (.str "catch")) (aStar (dVar 3) aNil))) [3]) aNil)))
  (sRet (dVar 1)))))
def D_method_lines : FnM := mkFn (List.length (["method"] : List Str)) (List.length n_method_lines) d_method_lines
theorem ok_method_lines {P : Program} {w : World} {K : PySem.W.Frag} {mg : Str → Option Value} {base : Heap} (T : Txt K mg w) : FnOk P w K mg base (L2.CX P w) 3 T.f_method_lines T.d_method_lines ["method"] (spF (GG T) D_method_lines) :=
  fn_ok (N := n_method_lines) (ps := ["method"]) (k := 2) (G := GG T) (body := d_method_lines) T.F_method_lines sc_method_lines fun cdv A outer s H E hr => by
  unfold d_method_lines
  exact (dss_cons (ds_set 1 sc_method_lines.nd (de_lst (da_cons (de_call (takes_of rfl rfl rfl rfl) (ok_head_line T) (hr.mono (by decide)) (by rfl) T.m_head_line T.F_head_line.kp T.b_head_line (da_cons (de_var 0) da_nil)) da_nil)))
    (dss_cons (ds_expr (de_extend rfl (de_var 1) (da_cons (de_lc (f := 4096) (own := [("step", 2)]) rfl sc_method_lines.nd (di_any rfl (de_ix rfl hr.units (de_var 0) de_int)) (blkOk_by (own := [("step", 2)]) (N := n_method_lines) (sc := defScope s_method_lines) (by decide +kernel)) (fun _ _ _ _ _ => (dg_name 2 sc_method_lines.nd)) (fun _ _ _ _ _ => dts_nil) (fun _ _ _ _ _ => (de_callR1 rfl (ok_told T) (hr.mono (by decide)) (by rfl) T.m_told T.F_told.kp passL (de_var 2)))) da_nil)))
    (dss_cons (ds_expr (de_extend rfl (de_var 1) (da_cons (de_lc (f := 4096) (own := [("row", 3)]) rfl sc_method_lines.nd (di_any rfl (de_ix rfl hr.units (de_var 0) de_int)) (blkOk_by (own := [("row", 3)]) (N := n_method_lines) (sc := defScope s_method_lines) (by decide +kernel)) (fun _ _ _ _ _ => (dg_name 3 sc_method_lines.nd)) (fun _ _ _ _ _ => dts_nil) (fun _ _ _ _ _ => (de_callR2 (ok_told T) (hr.mono (by decide)) (by rfl) T.m_told T.F_told.kp passL (da_cons de_str (da_star rfl (de_var 3) da_nil))))) da_nil)))
    (dss_one (ds_ret (de_var 1))))))
def d_write : DenS :=
  (sSeq (sExpr (dCall D_check_house (aCons (dVar 0) aNil)))
  (sSeq (sAsg (dLst aNil) (gN 1))
  (sSeq (sFor 4096 (iAnyD (dUn (fProp "House" D_House_classes) (dVar 0))) (gN 2) (sSeq (sExpr (dMet isLst fExtend (dVar 1) (aCons (dCall D_shell_lines (aCons (dVar 2) aNil)) aNil)))
  (sFor 4096 (iAnyD (dBin fIx (dVar 2) (dC (.int 3)))) (gN 3) (sExpr (dMet isLst fExtend (dVar 1) (aCons (dCall D_method_lines (aCons (dVar 3) aNil)) aNil))))))
  (sRet (dTx fJoinB (dC (.str "
")) (dVar 1))))))
def D_write : FnM := mkFn (List.length (["house"] : List Str)) (List.length n_write) d_write
theorem ok_write {P : Program} {w : World} {K : PySem.W.Frag} {mg : Str → Option Value} {base : Heap} (T : Txt K mg w) : FnOk P w K mg base (L2.CX P w) 4 T.f_write T.d_write ["house"] (spF (GG T) D_write) :=
  fn_ok (N := n_write) (ps := ["house"]) (k := 3) (G := GG T) (body := d_write) T.F_write sc_write fun cdv A outer s H E hr => by
  unfold d_write
  exact (dss_cons (ds_expr (de_call (takes_of rfl rfl rfl rfl) (ok_check_house T) (hr.mono (by decide)) (by rfl) T.m_check_house T.F_check_house.kp T.b_check_house (da_cons (de_var 0) da_nil)))
    (dss_cons (ds_set 1 sc_write.nd (de_lst da_nil))
    (dss_cons (ds_for (f := 4096) (passes_of rfl) rfl (di_any rfl (de_prop (cn := "House") rfl (ct_House T) T.cl_House T.pr_House_classes (ok_House_classes T) (hr.mono (by decide)) T.b_House_classes (de_var 0))) (dg_name 2 sc_write.nd) (dss_cons (ds_expr (de_extend rfl (de_var 1) (da_cons (de_call (takes_of rfl rfl rfl rfl) (ok_shell_lines T) (hr.mono (by decide)) (by rfl) T.m_shell_lines T.F_shell_lines.kp T.b_shell_lines (da_cons (de_var 2) da_nil)) da_nil)))
    (dss_one (ds_for (f := 4096) (passes_of rfl) rfl (di_any rfl (de_ix rfl hr.units (de_var 2) de_int)) (dg_name 3 sc_write.nd) (dss_one (ds_expr (de_extend rfl (de_var 1) (da_cons (de_call (takes_of rfl rfl rfl rfl) (ok_method_lines T) (hr.mono (by decide)) (by rfl) T.m_method_lines T.F_method_lines.kp T.b_method_lines (da_cons (de_var 3) da_nil)) da_nil))))))))
    (dss_one (ds_ret (de_join rfl de_str (de_var 1)))))))
def d_is_whole : DenS :=
  (sRet (dOr (dNotT (dVar 0)) (dAnd (dCall fBoolL (aCons (dBin fIx (dBin fIx (dVar 0) (dUn fNeg (dC (.int 1)))) (dC (.int 3))) aNil)) (dBin fIn (dBin fIx (dBin fIx (dBin fIx (dBin fIx (dVar 0) (dUn fNeg (dC (.int 1)))) (dC (.int 3))) (dUn fNeg (dC (.int 1)))) (dC (.int 0))) (dC c_LAST)))))
def D_is_whole : FnM := mkFn (List.length (["methods"] : List Str)) (List.length n_is_whole) d_is_whole
theorem ok_is_whole {P : Program} {w : World} {K : PySem.W.Frag} {mg : Str → Option Value} {base : Heap} (T : Txt K mg w) : FnOk P w K mg base (L2.CX P w) 1 T.f_is_whole T.d_is_whole ["methods"] (spF (GG T) D_is_whole) :=
  fn_ok (N := n_is_whole) (ps := ["methods"]) (k := 0) (G := GG T) (body := d_is_whole) T.F_is_whole sc_is_whole fun cdv A outer s H E hr => by
  unfold d_is_whole
  exact (dss_one (ds_ret (de_or (de_notT rfl (de_var 0)) (de_one (de_and (de_boolL rfl (by rfl) T.z_bool (da_cons (de_ix rfl hr.units (de_ix rfl hr.units (de_var 0) (de_neg de_int)) de_int) da_nil)) (de_one (de_cmp' (cmp_in rfl) (de_ix rfl hr.units (de_ix rfl hr.units (de_ix rfl hr.units (de_ix rfl hr.units (de_var 0) (de_neg de_int)) de_int) (de_neg de_int)) de_int) (de_glob (by rfl) T.m_LAST T.r_LAST (T.k_LAST _ _ _ _)) (by rfl))))))))
def d_may_stand : DenS :=
  (sSeq (sIf (bCmp fEq (dVar 1) (dC (.str "class"))) (sRet (dOr (dNotT (dVar 0)) (dAnd (dBin fLt (dCall fLen (aCons (dVar 0) aNil)) (dC (.int 8))) (dCall D_is_whole (aCons (dBin fIx (dBin fIx (dVar 0) (dUn fNeg (dC (.int 1)))) (dC (.int 3))) aNil))))) sNil)
  (sSeq (sIf (bNot (bTru (dVar 0))) (sRet (dC (.bl false))) sNil)
  (sSeq (sAsg (dSl (dBin fIx (dVar 0) (dUn fNeg (dC (.int 1)))) (oSome (dC (.int 2))) oNone) (gT (gsCons (gN 2) (gsCons (gN 3) gsNil))))
  (sSeq (sIf (bCmp fEq (dVar 1) (dC (.str "field"))) (sRet (dAnd (dNotT (dVar 3)) (dBin fLt (dCall fLen (aCons (dVar 2) aNil)) (dC (.int 4))))) sNil)
  (sSeq (sIf (bCmp fEq (dVar 1) (dC (.str "method"))) (sRet (dAnd (dCall D_is_whole (aCons (dVar 3) aNil)) (dBin fLt (dCall fLen (aCons (dVar 3) aNil)) (dC (.int 4))))) sNil)
  (sSeq (sIf (bNot (bTru (dVar 3))) (sRet (dC (.bl false))) sNil)
  (sSeq (sAsg (dSl (dBin fIx (dVar 3) (dUn fNeg (dC (.int 1)))) (oSome (dC (.int 3))) oNone) (gT (gsCons (gN 4) (gsCons (gN 5) gsNil))))
  (sSeq (sIf (bCmp fEq (dVar 1) (dC (.str "catch"))) (sRet (dAnd (dCall D_is_whole (aCons (dVar 3) aNil)) (dBin fLt (dCall fLen (aCons (dVar 5) aNil)) (dC (.int 4))))) sNil)
  (sRet (dAnd (dUn (fInK tb_PARTS) (dVar 1)) (dAnd (dNotT (dVar 5)) (dBin fLt (dCall fLen (aCons (dVar 4) aNil)) (dC (.int 20))))))))))))))
def D_may_stand : FnM := mkFn (List.length (["rows", "first"] : List Str)) (List.length n_may_stand) d_may_stand
theorem ok_may_stand {P : Program} {w : World} {K : PySem.W.Frag} {mg : Str → Option Value} {base : Heap} (T : Txt K mg w) : FnOk P w K mg base (L2.CX P w) 2 T.f_may_stand T.d_may_stand ["rows", "first"] (spF (GG T) D_may_stand) :=
  fn_ok (N := n_may_stand) (ps := ["rows", "first"]) (k := 1) (G := GG T) (body := d_may_stand) T.F_may_stand sc_may_stand fun cdv A outer s H E hr => by
  unfold d_may_stand
  exact (dss_cons (ds_if (dt_cmp (cmp_eq rfl hr.units) (de_var 1) de_str (nomark _)) (dss_one (ds_ret (de_or (de_notT rfl (de_var 0)) (de_one (de_and (de_cmp' cmp_lt (de_len rfl (by rfl) T.z_len (da_cons (de_var 0) da_nil)) de_int (nomark _)) (de_one (de_call (takes_of rfl rfl rfl rfl) (ok_is_whole T) (hr.mono (by decide)) (by rfl) T.m_is_whole T.F_is_whole.kp T.b_is_whole (da_cons (de_ix rfl hr.units (de_ix rfl hr.units (de_var 0) (de_neg de_int)) de_int) da_nil)))))))) dss_nil)
    (dss_cons (ds_if (dt_not (dt_truth rfl (de_var 0))) (dss_one (ds_ret de_bl)) dss_nil)
    (dss_cons (ds_asg (de_sl rfl (de_ix rfl hr.units (de_var 0) (de_neg de_int)) (do_some de_int) do_none) (dg_tup rfl rfl (dgs_cons (dg_name 2 sc_may_stand.nd) (dgs_cons (dg_name 3 sc_may_stand.nd) dgs_nil)) (gs_len (gs_len gs_len0))))
    (dss_cons (ds_if (dt_cmp (cmp_eq rfl hr.units) (de_var 1) de_str (nomark _)) (dss_one (ds_ret (de_and (de_notT rfl (de_var 3)) (de_one (de_cmp' cmp_lt (de_len rfl (by rfl) T.z_len (da_cons (de_var 2) da_nil)) de_int (nomark _)))))) dss_nil)
    (dss_cons (ds_if (dt_cmp (cmp_eq rfl hr.units) (de_var 1) de_str (nomark _)) (dss_one (ds_ret (de_and (de_call (takes_of rfl rfl rfl rfl) (ok_is_whole T) (hr.mono (by decide)) (by rfl) T.m_is_whole T.F_is_whole.kp T.b_is_whole (da_cons (de_var 3) da_nil)) (de_one (de_cmp' cmp_lt (de_len rfl (by rfl) T.z_len (da_cons (de_var 3) da_nil)) de_int (nomark _)))))) dss_nil)
    (dss_cons (ds_if (dt_not (dt_truth rfl (de_var 3))) (dss_one (ds_ret de_bl)) dss_nil)
    (dss_cons (ds_asg (de_sl rfl (de_ix rfl hr.units (de_var 3) (de_neg de_int)) (do_some de_int) do_none) (dg_tup rfl rfl (dgs_cons (dg_name 4 sc_may_stand.nd) (dgs_cons (dg_name 5 sc_may_stand.nd) dgs_nil)) (gs_len (gs_len gs_len0))))
    (dss_cons (ds_if (dt_cmp (cmp_eq rfl hr.units) (de_var 1) de_str (nomark _)) (dss_one (ds_ret (de_and (de_call (takes_of rfl rfl rfl rfl) (ok_is_whole T) (hr.mono (by decide)) (by rfl) T.m_is_whole T.F_is_whole.kp T.b_is_whole (da_cons (de_var 3) da_nil)) (de_one (de_cmp' cmp_lt (de_len rfl (by rfl) T.z_len (da_cons (de_var 5) da_nil)) de_int (nomark _)))))) dss_nil)
    (dss_one (ds_ret (de_and (de_inK rfl (T.t_PARTS _ _ _ _) (by rfl) T.m_PARTS (de_var 1)) (de_and (de_notT rfl (de_var 5)) (de_one (de_cmp' cmp_lt (de_len rfl (by rfl) T.z_len (da_cons (de_var 4) da_nil)) de_int (nomark _)))))))))))))))
def d_form_of : DenS :=
  (sSeq (sAsg (dBin fIx (dVar 0) (dC (.int 0))) (gN 1))
  (sSeq (sIf (bCmp fEq (dVar 1) (dC (.str "method"))) (sSeq (sAsg (dCall fMin2 (aCons (dCall fMax2 (aCons (dC (.int 0)) (aCons (dBin fSub (dCall fLen (aCons (dVar 0) aNil)) (dC (.int 3))) aNil))) (aCons (dC (.int 3)) aNil))) (gN 2))
  (sRet (dBin fAdd (dUn (fIxK tb_FORMS) (dVar 1)) (dBin fMulX (dTup (aCons (dC (.str "word")) aNil)) (dVar 2))))) sNil)
  (sRet (dIf (fun ρ S => ((dUn (fInK tb_FORMS) (dVar 1)) ρ S).bind boolOf) (dUn (fIxK tb_FORMS) (dVar 1)) (dUn (fIxK tb_PARTS) (dVar 1))))))
def D_form_of : FnM := mkFn (List.length (["words"] : List Str)) (List.length n_form_of) d_form_of
theorem ok_form_of {P : Program} {w : World} {K : PySem.W.Frag} {mg : Str → Option Value} {base : Heap} (T : Txt K mg w) : FnOk P w K mg base (L2.CX P w) 1 T.f_form_of T.d_form_of ["words"] (spF (GG T) D_form_of) :=
  fn_ok (N := n_form_of) (ps := ["words"]) (k := 0) (G := GG T) (body := d_form_of) T.F_form_of sc_form_of fun cdv A outer s H E hr => by
  unfold d_form_of
  exact (dss_cons (ds_set 1 sc_form_of.nd (de_ix rfl hr.units (de_var 0) de_int))
    (dss_cons (ds_if (dt_cmp (cmp_eq rfl hr.units) (de_var 1) de_str (nomark _)) (dss_cons (ds_set 2 sc_form_of.nd (de_min2 rfl (by rfl) T.z_min (da_cons (de_max2 rfl (by rfl) T.z_max (da_cons de_int (da_cons (de_sub (de_len rfl (by rfl) T.z_len (da_cons (de_var 0) da_nil)) de_int) da_nil))) (da_cons de_int da_nil))))
    (dss_one (ds_ret (de_add rfl (de_ixK rfl (T.t_FORMS _ _ _ _) (by rfl) T.m_FORMS (de_var 1)) (de_mulX rfl (de_tup (da_cons de_str da_nil)) (de_var 2)))))) dss_nil)
    (dss_one (ds_ret (de_if (dt_inK rfl (T.t_FORMS _ _ _ _) (by rfl) T.m_FORMS (de_var 1)) (de_ixK rfl (T.t_FORMS _ _ _ _) (by rfl) T.m_FORMS (de_var 1)) (de_ixK rfl (T.t_PARTS _ _ _ _) (by rfl) T.m_PARTS (de_var 1)))))))
def d_can_be : DenS :=
  (sSeq (sIf (bCmp fEq (dVar 1) (dC (.str "under"))) (sRet (dBin fEq (dVar 0) (dC (.str "under")))) sNil)
  (sSeq (sIf (fun ρ S => ((dUn (fInK tb_GREATEST) (dVar 1)) ρ S).bind boolOf) (sRet (dBin fIn (dVar 0) (dLc 4096 (iRng rng1 (aCons (dBin fAdd (dUn (fIxK tb_GREATEST) (dVar 1)) (dC (.int 1))) aNil)) (gN 2) bYes (dCall fStrOf (aCons (dVar 2) aNil)) [2]))) sNil)
  (sRet (dCall D_is_word (aCons (dVar 0) aNil)))))
def D_can_be : FnM := mkFn (List.length (["word", "part"] : List Str)) (List.length n_can_be) d_can_be
theorem ok_can_be {P : Program} {w : World} {K : PySem.W.Frag} {mg : Str → Option Value} {base : Heap} (T : Txt K mg w) : FnOk P w K mg base (L2.CX P w) 2 T.f_can_be T.d_can_be ["word", "part"] (spF (GG T) D_can_be) :=
  fn_ok (N := n_can_be) (ps := ["word", "part"]) (k := 1) (G := GG T) (body := d_can_be) T.F_can_be sc_can_be fun cdv A outer s H E hr => by
  unfold d_can_be
  exact (dss_cons (ds_if (dt_cmp (cmp_eq rfl hr.units) (de_var 1) de_str (nomark _)) (dss_one (ds_ret (de_cmp' (cmp_eq rfl hr.units) (de_var 0) de_str (nomark _)))) dss_nil)
    (dss_cons (ds_if (dt_inK rfl (T.t_GREATEST _ _ _ _) (by rfl) T.m_GREATEST (de_var 1)) (dss_one (ds_ret (de_cmp' (cmp_in rfl) (de_var 0) (de_lc (f := 4096) (own := [("number", 2)]) rfl sc_can_be.nd (di_rng1 (by rfl) T.z_range (da_cons (de_add rfl (de_ixK rfl (T.t_GREATEST _ _ _ _) (by rfl) T.m_GREATEST (de_var 1)) de_int) da_nil)) (blkOk_by (own := [("number", 2)]) (N := n_can_be) (sc := defScope s_can_be) (by decide +kernel)) (fun _ _ _ _ _ => (dg_name 2 sc_can_be.nd)) (fun _ _ _ _ _ => dts_nil) (fun _ _ _ _ _ => (de_strOf (by rfl) T.z_str (da_cons (de_var 2) da_nil)))) (by rfl)))) dss_nil)
    (dss_one (ds_ret (de_call (takes_of rfl rfl rfl rfl) (ok_is_word T) (hr.mono (by decide)) (by rfl) T.m_is_word T.F_is_word.kp T.b_is_word (da_cons (de_var 0) da_nil))))))
def d_bad_word : DenS :=
  (sSeq (sIf (bOr (bNot (bTru (dVar 1))) (bNot (bTru (dCall D_may_stand (aCons (dVar 0) (aCons (dBin fIx (dVar 1) (dC (.int 0))) aNil)))))) (sRet (dC (.int 1))) sNil)
  (sSeq (sAsg (dCall D_form_of (aCons (dVar 1) aNil)) (gN 2))
  (sSeq (sFor 4096 (iEnumK 1 (dVar 2)) (gT (gsCons (gN 3) (gsCons (gN 4) gsNil))) (sIf (bOr (bCmp fEq (dVar 3) (dCall fLen (aCons (dVar 1) aNil))) (bNot (bTru (dCall D_can_be (aCons (dBin fIx (dVar 1) (dVar 3)) (aCons (dVar 4) aNil)))))) (sRet (dBin fAdd (dVar 3) (dC (.int 1)))) sNil))
  (sRet (dIf (bCmp fGt (dCall fLen (aCons (dVar 1) aNil)) (dBin fAdd (dCall fLen (aCons (dVar 2) aNil)) (dC (.int 1)))) (dBin fAdd (dCall fLen (aCons (dVar 2) aNil)) (dC (.int 2))) (dC .non))))))
def D_bad_word : FnM := mkFn (List.length (["rows", "words"] : List Str)) (List.length n_bad_word) d_bad_word
theorem ok_bad_word {P : Program} {w : World} {K : PySem.W.Frag} {mg : Str → Option Value} {base : Heap} (T : Txt K mg w) : FnOk P w K mg base (L2.CX P w) 3 T.f_bad_word T.d_bad_word ["rows", "words"] (spF (GG T) D_bad_word) :=
  fn_ok (N := n_bad_word) (ps := ["rows", "words"]) (k := 2) (G := GG T) (body := d_bad_word) T.F_bad_word sc_bad_word fun cdv A outer s H E hr => by
  unfold d_bad_word
  exact (dss_cons (ds_if (dw_dt (dw_or (dt_not (dt_truth rfl (de_var 1))) (dw_or1 (dt_not (dt_truth rfl (de_call (takes_of rfl rfl rfl rfl) (ok_may_stand T) (hr.mono (by decide)) (by rfl) T.m_may_stand T.F_may_stand.kp T.b_may_stand (da_cons (de_var 0) (da_cons (de_ix rfl hr.units (de_var 1) de_int) da_nil)))))))) (dss_one (ds_ret de_int)) dss_nil)
    (dss_cons (ds_set 2 sc_bad_word.nd (de_call (takes_of rfl rfl rfl rfl) (ok_form_of T) (hr.mono (by decide)) (by rfl) T.m_form_of T.F_form_of.kp T.b_form_of (da_cons (de_var 1) da_nil)))
    (dss_cons (ds_for (f := 4096) (passes_of rfl) rfl (di_enumK rfl (by rfl) T.z_enumerate (by decide) (by decide) (de_var 2)) (dg_tup rfl rfl (dgs_cons (dg_name 3 sc_bad_word.nd) (dgs_cons (dg_name 4 sc_bad_word.nd) dgs_nil)) (gs_len (gs_len gs_len0))) (dss_one (ds_if (dw_dt (dw_or (dt_cmp (cmp_eq rfl hr.units) (de_var 3) (de_len rfl (by rfl) T.z_len (da_cons (de_var 1) da_nil)) (nomark _)) (dw_or1 (dt_not (dt_truth rfl (de_call (takes_of rfl rfl rfl rfl) (ok_can_be T) (hr.mono (by decide)) (by rfl) T.m_can_be T.F_can_be.kp T.b_can_be (da_cons (de_ix rfl hr.units (de_var 1) (de_var 3)) (da_cons (de_var 4) da_nil)))))))) (dss_one (ds_ret (de_add rfl (de_var 3) de_int))) dss_nil)))
    (dss_one (ds_ret (de_if (dt_cmp cmp_gt (de_len rfl (by rfl) T.z_len (da_cons (de_var 1) da_nil)) (de_add rfl (de_len rfl (by rfl) T.z_len (da_cons (de_var 2) da_nil)) de_int) (nomark _)) (de_add rfl (de_len rfl (by rfl) T.z_len (da_cons (de_var 2) da_nil)) de_int) de_non))))))
def d_part_of : DenS :=
  (sRet (dIf (fun ρ S => ((dUn (fInK tb_GREATEST) (dVar 1)) ρ S).bind boolOf) (dCall fIntS (aCons (dVar 0) aNil)) (dVar 0)))
def D_part_of : FnM := mkFn (List.length (["word", "part"] : List Str)) (List.length n_part_of) d_part_of
theorem ok_part_of {P : Program} {w : World} {K : PySem.W.Frag} {mg : Str → Option Value} {base : Heap} (T : Txt K mg w) : FnOk P w K mg base (L2.CX P w) 1 T.f_part_of T.d_part_of ["word", "part"] (spF (GG T) D_part_of) :=
  fn_ok (N := n_part_of) (ps := ["word", "part"]) (k := 0) (G := GG T) (body := d_part_of) T.F_part_of sc_part_of fun cdv A outer s H E hr => by
  unfold d_part_of
  exact (dss_one (ds_ret (de_if (dt_inK rfl (T.t_GREATEST _ _ _ _) (by rfl) T.m_GREATEST (de_var 1)) (de_intS (by rfl) T.z_int (da_cons (de_var 0) da_nil)) (de_var 0))))
def d_add_line : DenS :=
  (sSeq (sAsg (dBin fIx (dVar 1) (dC (.int 0))) (gN 2))
  (sSeq (sAsg (dLc 4096 (iRng zipM (aCons (dSl (dVar 1) (oSome (dC (.int 1))) oNone) (aCons (dCall D_form_of (aCons (dVar 1) aNil)) aNil))) (gT (gsCons (gN 4) (gsCons (gN 5) gsNil))) bYes (dCall D_part_of (aCons (dVar 4) (aCons (dVar 5) aNil))) [4, 5]) (gN 3))
  (sIf (bCmp fEq (dVar 2) (dC (.str "class"))) (sExpr (dMet isLst fAppend (dVar 0) (aCons (dTup (aCons (dBin fIx (dVar 3) (dC (.int 0))) (aCons (dBin fIx (dVar 3) (dC (.int 2))) (aCons (dLst aNil) (aCons (dLst aNil) aNil))))) aNil))) (sIf (bCmp fEq (dVar 2) (dC (.str "field"))) (sExpr (dMet isLst fAppend (dBin fIx (dBin fIx (dVar 0) (dUn fNeg (dC (.int 1)))) (dC (.int 2))) (aCons (dUn fTupOf (dVar 3)) aNil))) (sIf (bCmp fEq (dVar 2) (dC (.str "method"))) (sExpr (dMet isLst fAppend (dBin fIx (dBin fIx (dVar 0) (dUn fNeg (dC (.int 1)))) (dC (.int 3))) (aCons (dTup (aCons (dBin fIx (dVar 3) (dC (.int 0))) (aCons (dUn fTupOf (dSl (dVar 3) (oSome (dC (.int 2))) oNone)) (aCons (dBin fIx (dVar 3) (dC (.int 1))) (aCons (dLst aNil) (aCons (dLst aNil) aNil)))))) aNil))) (sIf (bCmp fEq (dVar 2) (dC (.str "catch"))) (sExpr (dMet isLst fAppend (dBin fIx (dBin fIx (dBin fIx (dBin fIx (dVar 0) (dUn fNeg (dC (.int 1)))) (dC (.int 3))) (dUn fNeg (dC (.int 1)))) (dC (.int 4))) (aCons (dUn fTupOf (dVar 3)) aNil))) (sExpr (dMet isLst fAppend (dBin fIx (dBin fIx (dBin fIx (dBin fIx (dVar 0) (dUn fNeg (dC (.int 1)))) (dC (.int 3))) (dUn fNeg (dC (.int 1)))) (dC (.int 3))) (aCons (dTup (aCons (dVar 2) (aStar (dVar 3) aNil))) aNil)))))))))
def D_add_line : FnM := mkFn (List.length (["rows", "words"] : List Str)) (List.length n_add_line) d_add_line
theorem ok_add_line {P : Program} {w : World} {K : PySem.W.Frag} {mg : Str → Option Value} {base : Heap} (T : Txt K mg w) : FnOk P w K mg base (L2.CX P w) 2 T.f_add_line T.d_add_line ["rows", "words"] (spF (GG T) D_add_line) :=
  fn_ok (N := n_add_line) (ps := ["rows", "words"]) (k := 1) (G := GG T) (body := d_add_line) T.F_add_line sc_add_line fun cdv A outer s H E hr => by
  unfold d_add_line
  exact (dss_cons (ds_set 2 sc_add_line.nd (de_ix rfl hr.units (de_var 1) de_int))
    (dss_cons (ds_setLc 3 (f := 4096) (own := [("word", 4), ("part", 5)]) rfl sc_add_line.nd (di_zipM rfl (by rfl) T.z_zip (da_cons (de_sl rfl (de_var 1) (do_some de_int) do_none) (da_cons (de_call (takes_of rfl rfl rfl rfl) (ok_form_of T) (hr.mono (by decide)) (by rfl) T.m_form_of T.F_form_of.kp T.b_form_of (da_cons (de_var 1) da_nil)) da_nil))) (blkOk_by (own := [("word", 4), ("part", 5)]) (N := n_add_line) (sc := defScope s_add_line) (by decide +kernel)) (fun _ _ _ _ _ => (dg_tup rfl rfl (dgs_cons (dg_name 4 sc_add_line.nd) (dgs_cons (dg_name 5 sc_add_line.nd) dgs_nil)) (gs_len (gs_len gs_len0)))) (fun _ _ _ _ _ => dts_nil) (fun _ _ _ _ _ => (de_call takes0 (ok_part_of T) (hr.mono (by decide)) (by rfl) T.m_part_of T.F_part_of.kp T.b_part_of (da_cons (de_var 4) (da_cons (de_var 5) da_nil)))) (sw_true rfl rfl rfl (by decide +kernel)))
    (dss_one (ds_if (dt_cmp (cmp_eq rfl hr.units) (de_var 2) de_str (nomark _)) (dss_one (ds_expr (de_append rfl (de_var 0) (da_cons (de_tup (da_cons (de_ix rfl hr.units (de_var 3) de_int) (da_cons (de_ix rfl hr.units (de_var 3) de_int) (da_cons (de_lst da_nil) (da_cons (de_lst da_nil) da_nil))))) da_nil)))) (dss_one (ds_if (dt_cmp (cmp_eq rfl hr.units) (de_var 2) de_str (nomark _)) (dss_one (ds_expr (de_append rfl (de_ix rfl hr.units (de_ix rfl hr.units (de_var 0) (de_neg de_int)) de_int) (da_cons (de_tupOf rfl (by rfl) T.z_tuple (de_var 3)) da_nil)))) (dss_one (ds_if (dt_cmp (cmp_eq rfl hr.units) (de_var 2) de_str (nomark _)) (dss_one (ds_expr (de_append rfl (de_ix rfl hr.units (de_ix rfl hr.units (de_var 0) (de_neg de_int)) de_int) (da_cons (de_tup (da_cons (de_ix rfl hr.units (de_var 3) de_int) (da_cons (de_tupOf rfl (by rfl) T.z_tuple (de_sl rfl (de_var 3) (do_some de_int) do_none)) (da_cons (de_ix rfl hr.units (de_var 3) de_int) (da_cons (de_lst da_nil) (da_cons (de_lst da_nil) da_nil)))))) da_nil)))) (dss_one (ds_if (dt_cmp (cmp_eq rfl hr.units) (de_var 2) de_str (nomark _)) (dss_one (ds_expr (de_append rfl (de_ix rfl hr.units (de_ix rfl hr.units (de_ix rfl hr.units (de_ix rfl hr.units (de_var 0) (de_neg de_int)) de_int) (de_neg de_int)) de_int) (da_cons (de_tupOf rfl (by rfl) T.z_tuple (de_var 3)) da_nil)))) (dss_one (ds_expr (de_append rfl (de_ix rfl hr.units (de_ix rfl hr.units (de_ix rfl hr.units (de_ix rfl hr.units (de_var 0) (de_neg de_int)) de_int) (de_neg de_int)) de_int) (da_cons (de_tup (da_cons (de_var 2) (da_star rfl (de_var 3) da_nil))) da_nil))))))))))))))
def d_method_made : DenS :=
  (sSeq (sAsg (dVar 0) (gT (gsCons (gN 1) (gsCons (gN 2) (gsCons (gN 3) (gsCons (gN 4) (gsCons (gN 5) gsNil)))))))
  (sRet (dTup (aCons (dVar 1) (aCons (dVar 2) (aCons (dVar 3) (aCons (dUn fTupOf (dVar 4)) (aCons (dUn fTupOf (dVar 5)) aNil))))))))
def D_method_made : FnM := mkFn (List.length (["method"] : List Str)) (List.length n_method_made) d_method_made
theorem ok_method_made {P : Program} {w : World} {K : PySem.W.Frag} {mg : Str → Option Value} {base : Heap} (T : Txt K mg w) : FnOk P w K mg base (L2.CX P w) 1 T.f_method_made T.d_method_made ["method"] (spF (GG T) D_method_made) :=
  fn_ok (N := n_method_made) (ps := ["method"]) (k := 0) (G := GG T) (body := d_method_made) T.F_method_made sc_method_made fun cdv A outer s H E hr => by
  unfold d_method_made
  exact (dss_cons (ds_asg (de_var 0) (dg_tup rfl rfl (dgs_cons (dg_name 1 sc_method_made.nd) (dgs_cons (dg_name 2 sc_method_made.nd) (dgs_cons (dg_name 3 sc_method_made.nd) (dgs_cons (dg_name 4 sc_method_made.nd) (dgs_cons (dg_name 5 sc_method_made.nd) dgs_nil))))) (gs_len (gs_len (gs_len (gs_len (gs_len gs_len0)))))))
    (dss_one (ds_ret (de_tup (da_cons (de_var 1) (da_cons (de_var 2) (da_cons (de_var 3) (da_cons (de_tupOf rfl (by rfl) T.z_tuple (de_var 4)) (da_cons (de_tupOf rfl (by rfl) T.z_tuple (de_var 5)) da_nil)))))))))
def d_class_made : DenS :=
  (sSeq (sAsg (dVar 0) (gT (gsCons (gN 1) (gsCons (gN 2) (gsCons (gN 3) (gsCons (gN 4) gsNil))))))
  (sRet (dTup (aCons (dVar 1) (aCons (dVar 2) (aCons (dUn fTupOf (dVar 3)) (aCons (dUn fTupOf (dLc 4096 (iAnyD (dVar 4)) (gN 5) bYes (dCall D_method_made (aCons (dVar 5) aNil)) [5])) aNil)))))))
def D_class_made : FnM := mkFn (List.length (["row"] : List Str)) (List.length n_class_made) d_class_made
theorem ok_class_made {P : Program} {w : World} {K : PySem.W.Frag} {mg : Str → Option Value} {base : Heap} (T : Txt K mg w) : FnOk P w K mg base (L2.CX P w) 2 T.f_class_made T.d_class_made ["row"] (spF (GG T) D_class_made) :=
  fn_ok (N := n_class_made) (ps := ["row"]) (k := 1) (G := GG T) (body := d_class_made) T.F_class_made sc_class_made fun cdv A outer s H E hr => by
  unfold d_class_made
  exact (dss_cons (ds_asg (de_var 0) (dg_tup rfl rfl (dgs_cons (dg_name 1 sc_class_made.nd) (dgs_cons (dg_name 2 sc_class_made.nd) (dgs_cons (dg_name 3 sc_class_made.nd) (dgs_cons (dg_name 4 sc_class_made.nd) dgs_nil)))) (gs_len (gs_len (gs_len (gs_len gs_len0))))))
    (dss_one (ds_ret (de_tup (da_cons (de_var 1) (da_cons (de_var 2) (da_cons (de_tupOf rfl (by rfl) T.z_tuple (de_var 3)) (da_cons (de_tupOf rfl (by rfl) T.z_tuple (de_lc (f := 4096) (own := [("method", 5)]) rfl sc_class_made.nd (di_any rfl (de_var 4)) (blkOk_by (own := [("method", 5)]) (N := n_class_made) (sc := defScope s_class_made) (by decide +kernel)) (fun _ _ _ _ _ => (dg_name 5 sc_class_made.nd)) (fun _ _ _ _ _ => dts_nil) (fun _ _ _ _ _ => (de_call takes0 (ok_method_made T) (hr.mono (by decide)) (by rfl) T.m_method_made T.F_method_made.kp T.b_method_made (da_cons (de_var 5) da_nil))))) da_nil))))))))
def d_read : DenS :=
  (sSeq (sIf (bNot (bTru (dUn (fIsT "str") (dVar 0)))) sNever sNil)
  (sSeq (sAsg (dLst aNil) (gN 1))
  (sSeq (sAsg (dTx fSplitB (dVar 0) (dC (.str "
"))) (gN 2))
  (sSeq (sFor 4096 (iEnumK 1 (dVar 2)) (gT (gsCons (gN 3) (gsCons (gN 4) gsNil))) (sSeq (sAsg (dLc 4096 (iAnyD (dTx fSplitB (dVar 4) (dC (.str " ")))) (gN 6) (bTru (dVar 6)) (dVar 6) [6]) (gN 5))
  (sSeq (sAsg (dCall D_bad_word (aCons (dVar 1) (aCons (dVar 5) aNil))) (gN 6))
  (sSeq (sIf (bCmp fIsNot (dVar 6) (dC .non)) sNever sNil)
  (sExpr (dCall D_add_line (aCons (dVar 1) (aCons (dVar 5) aNil))))))))
  (sSeq (sIf (bNot (bTru (dCall D_is_whole (aCons (dBin fIx (dBin fIx (dVar 1) (dUn fNeg (dC (.int 1)))) (dC (.int 3))) aNil)))) sNever sNil)
  (sRet (dMake "House" D_House___init__ (aCons (dUn fTupOf (dLc 4096 (iAnyD (dVar 1)) (gN 4) bYes (dCall D_class_made (aCons (dVar 4) aNil)) [4])) aNil))))))))
def D_read : FnM := mkFn (List.length (["text"] : List Str)) (List.length n_read) d_read
theorem ok_read {P : Program} {w : World} {K : PySem.W.Frag} {mg : Str → Option Value} {base : Heap} (T : Txt K mg w) : FnOk P w K mg base (L2.CX P w) 12 T.f_read T.d_read ["text"] (spF (GG T) D_read) :=
  fn_ok (N := n_read) (ps := ["text"]) (k := 11) (G := GG T) (body := d_read) T.F_read sc_read fun cdv A outer s H E hr => by
  unfold d_read
  exact (dss_cons (ds_if (dt_not (dt_truth rfl (de_isT (T := "str") rfl (by rfl) T.z_isinstance (by rfl) T.z_str (by decide +kernel) kit_str (by decide) (by decide) (de_var 0)))) (dss_one ds_never) dss_nil)
    (dss_cons (ds_set 1 sc_read.nd (de_lst da_nil))
    (dss_cons (ds_set 2 sc_read.nd (de_split (de_var 0) de_str))
    (dss_cons (ds_for (f := 4096) (passes_of rfl) rfl (di_enumK rfl (by rfl) T.z_enumerate (by decide) (by decide) (de_var 2)) (dg_tup rfl rfl (dgs_cons (dg_name 3 sc_read.nd) (dgs_cons (dg_name 4 sc_read.nd) dgs_nil)) (gs_len (gs_len gs_len0))) (dss_cons (ds_setLc 5 (f := 4096) (own := [("word", 6)]) rfl sc_read.nd (di_any rfl (de_split (de_var 4) de_str)) (blkOk_by (own := [("word", 6)]) (N := n_read) (sc := defScope s_read) (by decide +kernel)) (fun _ _ _ _ _ => (dg_name 6 sc_read.nd)) (fun _ _ _ _ _ => (dts_one (dt_truth rfl (de_var 6)))) (fun _ _ _ _ _ => (de_var 6)) (sw_true rfl rfl rfl (by decide +kernel)))
    (dss_cons (ds_set 6 sc_read.nd (de_call (takes_of rfl rfl rfl rfl) (ok_bad_word T) (hr.mono (by decide)) (by rfl) T.m_bad_word T.F_bad_word.kp T.b_bad_word (da_cons (de_var 1) (da_cons (de_var 5) da_nil))))
    (dss_cons (ds_if (dt_cmp cmp_isNot (de_var 6) de_non (nomark _)) (dss_one ds_never) dss_nil)
    (dss_one (ds_expr (de_call (takes_of rfl rfl rfl rfl) (ok_add_line T) (hr.mono (by decide)) (by rfl) T.m_add_line T.F_add_line.kp T.b_add_line (da_cons (de_var 1) (da_cons (de_var 5) da_nil)))))))))
    (dss_cons (ds_if (dt_not (dt_truth rfl (de_call (takes_of rfl rfl rfl rfl) (ok_is_whole T) (hr.mono (by decide)) (by rfl) T.m_is_whole T.F_is_whole.kp T.b_is_whole (da_cons (de_ix rfl hr.units (de_ix rfl hr.units (de_var 1) (de_neg de_int)) de_int) da_nil)))) (dss_one ds_never) dss_nil)
    (dss_one (ds_ret (de_make (ct_House T) T.mk_House (ok_House___init__ T) (hr.mono (by decide)) (by rfl) T.m_House T.b_House___init__ (takes_of rfl rfl rfl rfl) rfl (da_cons (de_tupOf rfl (by rfl) T.z_tuple (de_lc (f := 4096) (own := [("row", 4)]) rfl sc_read.nd (di_any rfl (de_var 1)) (blkOk_by (own := [("row", 4)]) (N := n_read) (sc := defScope s_read) (by decide +kernel)) (fun _ _ _ _ _ => (dg_name 4 sc_read.nd)) (fun _ _ _ _ _ => dts_nil) (fun _ _ _ _ _ => (de_call takes0 (ok_class_made T) (hr.mono (by decide)) (by rfl) T.m_class_made T.F_class_made.kp T.b_class_made (da_cons (de_var 4) da_nil))))) da_nil)))))))))
def d__law_taken : DenS :=
  (sSeq (sIf (bCmp fGt (dBin fIx (dVar 0) (dC (.int 3))) (dC (.int 0))) (sSeq (sAsg (dBin fMod (dCall fIntOf (aCons (dBin fIx (dVar 0) (dC (.int 3))) aNil)) (dVar 1)) (gN 3))
  (sSeq (sAsg (dBin fDiv (dBin fIx (dVar 0) (dC (.int 3))) (dVar 1)) (gS (dVar 0) (dC (.int 3))))
  (sRet (dVar 3)))) sNil)
  (sSeq (sAsg (dBin fAdd (dBin fIx (dVar 0) (dC (.int 1))) (dC (.int 1))) (gS (dVar 0) (dC (.int 1))))
  (sSeq (sIf (bCmp fGt (dBin fIx (dVar 0) (dC (.int 1))) (dCall fLen (aCons (dBin fIx (dVar 0) (dC (.int 0))) aNil))) (sSeq (sAsg (dBin fMod (dCall fIntOf (aCons (dBin fAdd (dBin fMul (dBin fIx (dVar 0) (dC (.int 2))) (dC (.int 48271))) (dC (.int 11))) aNil)) (dC (.int 2147483647))) (gS (dVar 0) (dC (.int 2))))
  (sRet (dBin fMod (dCall fIntOf (aCons (dBin fDiv (dBin fIx (dVar 0) (dC (.int 2))) (dC (.int 7))) aNil)) (dVar 1)))) sNil)
  (sSeq (sAsg (dBin fIx (dBin fIx (dVar 0) (dC (.int 0))) (dBin fSub (dBin fIx (dVar 0) (dC (.int 1))) (dC (.int 1)))) (gN 2))
  (sSeq (sAsg (dBin fMod (dCall fIntOf (aCons (dBin fAdd (dBin fAdd (dBin fMul (dBin fIx (dVar 0) (dC (.int 2))) (dC (.int 48271))) (dVar 2)) (dC (.int 11))) aNil)) (dC (.int 2147483647))) (gS (dVar 0) (dC (.int 2))))
  (sSeq (sIf (bCmp fGe (dVar 2) (dBin fPow (dC (.int 10)) (dC (.int 18)))) (sAsg (dBin fDiv (dVar 2) (dVar 1)) (gS (dVar 0) (dC (.int 3)))) sNil)
  (sRet (dBin fMod (dCall fIntOf (aCons (dVar 2) aNil)) (dVar 1)))))))))
def D__law_taken : FnM := mkFn (List.length (["row", "many"] : List Str)) (List.length n__law_taken) d__law_taken
theorem ok__law_taken {P : Program} {w : World} {K : PySem.W.Frag} {mg : Str → Option Value} {base : Heap} (T : Txt K mg w) : FnOk P w K mg base (L2.CX P w) 1 T.f__law_taken T.d__law_taken ["row", "many"] (spF (GG T) D__law_taken) :=
  fn_ok (N := n__law_taken) (ps := ["row", "many"]) (k := 0) (G := GG T) (body := d__law_taken) T.F__law_taken sc__law_taken fun cdv A outer s H E hr => by
  unfold d__law_taken
  exact (dss_cons (ds_if (dt_cmp cmp_gt (de_ix rfl hr.units (de_var 0) de_int) de_int (nomark _)) (dss_cons (ds_set 3 sc__law_taken.nd (de_mod (de_intOf (by rfl) T.z_int (da_cons (de_ix rfl hr.units (de_var 0) de_int) da_nil)) (de_var 1)))
    (dss_cons (ds_asg (de_div (de_ix rfl hr.units (de_var 0) de_int) (de_var 1)) (dg_sub (W := fun _ _ _ _ => False) hr.units (de_var 0) de_int))
    (dss_one (ds_ret (de_var 3))))) dss_nil)
    (dss_cons (ds_asg (de_add rfl (de_ix rfl hr.units (de_var 0) de_int) de_int) (dg_sub (W := fun _ _ _ _ => False) hr.units (de_var 0) de_int))
    (dss_cons (ds_if (dt_cmp cmp_gt (de_ix rfl hr.units (de_var 0) de_int) (de_len rfl (by rfl) T.z_len (da_cons (de_ix rfl hr.units (de_var 0) de_int) da_nil)) (nomark _)) (dss_cons (ds_asg (de_mod (de_intOf (by rfl) T.z_int (da_cons (de_add rfl (de_mul rfl (de_ix rfl hr.units (de_var 0) de_int) de_int) de_int) da_nil)) de_int) (dg_sub (W := fun _ _ _ _ => False) hr.units (de_var 0) de_int))
    (dss_one (ds_ret (de_mod (de_intOf (by rfl) T.z_int (da_cons (de_div (de_ix rfl hr.units (de_var 0) de_int) de_int) da_nil)) (de_var 1))))) dss_nil)
    (dss_cons (ds_set 2 sc__law_taken.nd (de_ix rfl hr.units (de_ix rfl hr.units (de_var 0) de_int) (de_sub (de_ix rfl hr.units (de_var 0) de_int) de_int)))
    (dss_cons (ds_asg (de_mod (de_intOf (by rfl) T.z_int (da_cons (de_add rfl (de_add rfl (de_mul rfl (de_ix rfl hr.units (de_var 0) de_int) de_int) (de_var 2)) de_int) da_nil)) de_int) (dg_sub (W := fun _ _ _ _ => False) hr.units (de_var 0) de_int))
    (dss_cons (ds_if (dt_cmp cmp_ge (de_var 2) (de_pow de_int de_int) (nomark _)) (dss_one (ds_asg (de_div (de_var 2) (de_var 1)) (dg_sub (W := fun _ _ _ _ => False) hr.units (de_var 0) de_int))) dss_nil)
    (dss_one (ds_ret (de_mod (de_intOf (by rfl) T.z_int (da_cons (de_var 2) da_nil)) (de_var 1))))))))))
def d_law : DenS :=
  (sSeq (sAsg (dLst (aCons (dVar 0) (aCons (dC (.int 0)) (aCons (dC (.int 2911)) (aCons (dC (.int 0)) aNil))))) (gN 1))
  (sSeq (sAsg (dBin fAdd (dC (.int 1)) (dCall D__law_taken (aCons (dVar 1) (aCons (dC (.int 8)) aNil)))) (gN 2))
  (sSeq (sAsg (dSl (dLst (aCons (dC (.str "a")) (aCons (dC (.str "b")) (aCons (dC (.str "c")) (aCons (dC (.str "d")) (aCons (dC (.str "e")) (aCons (dC (.str "f")) (aCons (dC (.str "g")) (aCons (dC (.str "h")) aNil))))))))) oNone (oSome (dVar 2))) (gN 3))
  (sSeq (sAsg (dMake "House" D_House___init__ (aCons (dUn fTupOf (dLc 4096 (iRng rng1 (aCons (dVar 2) aNil)) (gN 10) bYes (dTup (aCons (dBin fIx (dVar 3) (dVar 10)) (aCons (dBin fIx (dBin fAdd (dLst (aCons (dC (.str "top")) aNil)) (dVar 3)) (dVar 10)) (aCons (dTup aNil) (aCons (dTup aNil) aNil))))) [10])) aNil)) (gN 4))
  (sSeq (sAsg (dMake "House" D_House___init__ (aCons (dUn fTupOf (dLc 4096 (iAnyD (dVar 3)) (gN 11) bYes (dTup (aCons (dVar 11) (aCons (dC (.str "top")) (aCons (dTup aNil) (aCons (dTup aNil) aNil))))) [11])) aNil)) (gN 5))
  (sSeq (sAsg (dBin fIx (dVar 3) (dUn fNeg (dC (.int 1)))) (gN 6))
  (sSeq (sIf (bOr (bCmp fNe (dCall D_upward (aCons (dVar 4) (aCons (dVar 6) aNil))) (dBin fAdd (dUn fTupOf (dUn fBack (dVar 3))) (dTup (aCons (dC (.str "top")) aNil)))) (bCmp fNe (dCall D_upward (aCons (dVar 5) (aCons (dVar 6) aNil))) (dTup (aCons (dVar 6) (aCons (dC (.str "top")) aNil))))) (sRet (dC (.bl false))) sNil)
  (sSeq (sIf (bOr (bCmp fNe (dCall D_downward (aCons (dVar 4) (aCons (dC (.str "a")) aNil))) (dUn fTupOf (dVar 3))) (bCmp fNe (dCall D_downward (aCons (dVar 5) (aCons (dC (.str "top")) aNil))) (dBin fAdd (dTup (aCons (dC (.str "top")) aNil)) (dUn fTupOf (dVar 3))))) (sRet (dC (.bl false))) sNil)
  (sSeq (sIf (bOr (bCmp fNe (dCall D_common (aCons (dVar 4) (aCons (dC (.str "a")) (aCons (dVar 6) aNil)))) (dC (.str "a"))) (bCmp fNe (dCall D_common (aCons (dVar 5) (aCons (dC (.str "a")) (aCons (dVar 6) aNil)))) (dIf (bCmp fEq (dVar 2) (dC (.int 1))) (dC (.str "a")) (dC (.str "top"))))) (sRet (dC (.bl false))) sNil)
  (sSeq (sIf (bOr (bCmp fNe (dCall D_joined (aCons (dVar 4) (aCons (dVar 6) (aCons (dC (.str "a")) aNil)))) (dC (.str "a"))) (bOr (bCmp fNe (dCall D_joined (aCons (dVar 5) (aCons (dVar 6) (aCons (dC (.str "none")) aNil)))) (dVar 6)) (bCmp fNe (dCall D_joined (aCons (dVar 5) (aCons (dVar 6) (aCons (dC (.str "num")) aNil)))) (dC (.str "odd"))))) (sRet (dC (.bl false))) sNil)
  (sSeq (sIf (bOr (bNot (bTru (dCall D_fits (aCons (dVar 4) (aCons (dVar 6) (aCons (dC (.str "a")) aNil)))))) (bOr (bCmp fNe (dCall D_fits (aCons (dVar 4) (aCons (dC (.str "a")) (aCons (dVar 6) aNil)))) (dBin fEq (dVar 2) (dC (.int 1)))) (bTru (dCall D_fits (aCons (dVar 4) (aCons (dC (.str "num")) (aCons (dC (.str "top")) aNil))))))) (sRet (dC (.bl false))) sNil)
  (sSeq (sAsg (dTup (aCons (dC (.str "ma")) (aCons (dTup (aCons (dC (.str "num")) aNil)) (aCons (dC (.str "a")) (aCons (dTup (aCons (dTup (aCons (dC (.str "none")) aNil)) (aCons (dTup (aCons (dC (.str "give")) aNil)) aNil))) (aCons (dTup aNil) aNil)))))) (gN 7))
  (sSeq (sAsg (dMake "House" D_House___init__ (aCons (dTup (aCons (dTup (aCons (dC (.str "a")) (aCons (dC (.str "top")) (aCons (dTup (aCons (dTup (aCons (dC (.str "x")) (aCons (dC (.str "num")) aNil))) aNil)) (aCons (dTup (aCons (dVar 7) aNil)) aNil))))) (aCons (dTup (aCons (dC (.str "b")) (aCons (dC (.str "a")) (aCons (dTup (aCons (dTup (aCons (dC (.str "y")) (aCons (dC (.str "a")) aNil))) aNil)) (aCons (dTup aNil) aNil))))) (aCons (dTup (aCons (dC (.str "c")) (aCons (dC (.str "b")) (aCons (dTup aNil) (aCons (dTup (aCons (dVar 7) aNil)) aNil))))) aNil)))) aNil)) (gN 8))
  (sSeq (sIf (bOr (bCmp fNe (dCall D_fields_of (aCons (dVar 8) (aCons (dC (.str "c")) aNil))) (dTup (aCons (dTup (aCons (dC (.str "x")) (aCons (dC (.str "num")) aNil))) (aCons (dTup (aCons (dC (.str "y")) (aCons (dC (.str "a")) aNil))) aNil)))) (bCmp fNe (dCall D_method_of (aCons (dVar 8) (aCons (dC (.str "b")) (aCons (dC (.str "ma")) aNil)))) (dTup (aCons (dC (.str "a")) (aCons (dC (.int 0)) aNil))))) (sRet (dC (.bl false))) sNil)
  (sSeq (sIf (bOr (bCmp fNe (dCall D_methods_of (aCons (dVar 8) (aCons (dC (.str "c")) aNil))) (dTup (aCons (dTup (aCons (dC (.str "ma")) (aCons (dC (.str "c")) aNil))) aNil))) (bCmp fNe (dCall D_overrides (aCons (dVar 8) aNil)) (dLst (aCons (dTup (aCons (dC (.str "c")) (aCons (dC (.str "ma")) (aCons (dC (.str "a")) aNil)))) aNil)))) (sRet (dC (.bl false))) sNil)
  (sSeq (sAsg (dLst (aCons (dC (.str "class a under top")) (aCons (dC (.str "field x num")) (aCons (dC (.str "method ma a num")) (aCons (dC (.str "none")) (aCons (dC (.str "give")) (aCons (dC (.str "class b under a")) (aCons (dC (.str "field y a")) aNil)))))))) (gN 9))
  (sSeq (sAsg (dBin fAdd (dVar 9) (dLst (aCons (dC (.str "class c under b")) (aCons (dC (.str "method ma a num")) (aCons (dC (.str "none")) (aCons (dC (.str "give")) aNil)))))) (gN 9))
  (sRet (dAnd (dBin fEq (dCall D_write (aCons (dVar 8) aNil)) (dTx fJoinB (dC (.str "
")) (dVar 9))) (dBin (fEqO "House" D_House___eq__) (dCall D_read (aCons (dBin fAdd (dC (.str " ")) (dTx fJoinB (dC (.str "  
 ")) (dVar 9))) aNil)) (dVar 8)))))))))))))))))))))
def D_law : FnM := mkFn (List.length (["script"] : List Str)) (List.length n_law) d_law
theorem ok_law {P : Program} {w : World} {K : PySem.W.Frag} {mg : Str → Option Value} {base : Heap} (T : Txt K mg w) : FnOk P w K mg base (L2.CX P w) 13 T.f_law T.d_law ["script"] (spF (GG T) D_law) :=
  fn_ok (N := n_law) (ps := ["script"]) (k := 12) (G := GG T) (body := d_law) T.F_law sc_law fun cdv A outer s H E hr => by
  unfold d_law
  exact (dss_cons (ds_set 1 sc_law.nd (de_lst (da_cons (de_var 0) (da_cons de_int (da_cons de_int (da_cons de_int da_nil))))))
    (dss_cons (ds_set 2 sc_law.nd (de_add rfl de_int (de_call (takes_of rfl rfl rfl rfl) (ok__law_taken T) (hr.mono (by decide)) (by rfl) T.m__law_taken T.F__law_taken.kp T.b__law_taken (da_cons (de_var 1) (da_cons de_int da_nil)))))
    (dss_cons (ds_set 3 sc_law.nd (de_sl rfl (de_lst (da_cons de_str (da_cons de_str (da_cons de_str (da_cons de_str (da_cons de_str (da_cons de_str (da_cons de_str (da_cons de_str da_nil))))))))) do_none (do_some (de_var 2))))
    (dss_cons (ds_set 4 sc_law.nd (de_make (ct_House T) T.mk_House (ok_House___init__ T) (hr.mono (by decide)) (by rfl) T.m_House T.b_House___init__ (takes_of rfl rfl rfl rfl) rfl (da_cons (de_tupOf rfl (by rfl) T.z_tuple (de_lc (f := 4096) (own := [("at", 10)]) rfl sc_law.nd (di_rng1 (by rfl) T.z_range (da_cons (de_var 2) da_nil)) (blkOk_by (own := [("at", 10)]) (N := n_law) (sc := defScope s_law) (by decide +kernel)) (fun _ _ _ _ _ => (dg_name 10 sc_law.nd)) (fun _ _ _ _ _ => dts_nil) (fun _ _ _ _ _ => (de_tup (da_cons (de_ix rfl hr.units (de_var 3) (de_var 10)) (da_cons (de_ix rfl hr.units (de_add rfl (de_lst (da_cons de_str da_nil)) (de_var 3)) (de_var 10)) (da_cons (de_tup da_nil) (da_cons (de_tup da_nil) da_nil)))))))) da_nil)))
    (dss_cons (ds_set 5 sc_law.nd (de_make (ct_House T) T.mk_House (ok_House___init__ T) (hr.mono (by decide)) (by rfl) T.m_House T.b_House___init__ (takes_of rfl rfl rfl rfl) rfl (da_cons (de_tupOf rfl (by rfl) T.z_tuple (de_lc (f := 4096) (own := [("name", 11)]) rfl sc_law.nd (di_any rfl (de_var 3)) (blkOk_by (own := [("name", 11)]) (N := n_law) (sc := defScope s_law) (by decide +kernel)) (fun _ _ _ _ _ => (dg_name 11 sc_law.nd)) (fun _ _ _ _ _ => dts_nil) (fun _ _ _ _ _ => (de_tup (da_cons (de_var 11) (da_cons de_str (da_cons (de_tup da_nil) (da_cons (de_tup da_nil) da_nil)))))))) da_nil)))
    (dss_cons (ds_set 6 sc_law.nd (de_ix rfl hr.units (de_var 3) (de_neg de_int)))
    (dss_cons (ds_if (dw_dt (dw_or (dt_cmp (cmp_ne rfl hr.units) (de_call (takes_of rfl rfl rfl rfl) (ok_upward T) (hr.mono (by decide)) (by rfl) T.m_upward T.F_upward.kp T.b_upward (da_cons (de_var 4) (da_cons (de_var 6) da_nil))) (de_add rfl (de_tupOf rfl (by rfl) T.z_tuple (de_back rfl (de_var 3))) (de_tup (da_cons de_str da_nil))) (nomark _)) (dw_or1 (dt_cmp (cmp_ne rfl hr.units) (de_call (takes_of rfl rfl rfl rfl) (ok_upward T) (hr.mono (by decide)) (by rfl) T.m_upward T.F_upward.kp T.b_upward (da_cons (de_var 5) (da_cons (de_var 6) da_nil))) (de_tup (da_cons (de_var 6) (da_cons de_str da_nil))) (nomark _))))) (dss_one (ds_ret de_bl)) dss_nil)
    (dss_cons (ds_if (dw_dt (dw_or (dt_cmp (cmp_ne rfl hr.units) (de_call (takes_of rfl rfl rfl rfl) (ok_downward T) (hr.mono (by decide)) (by rfl) T.m_downward T.F_downward.kp T.b_downward (da_cons (de_var 4) (da_cons de_str da_nil))) (de_tupOf rfl (by rfl) T.z_tuple (de_var 3)) (nomark _)) (dw_or1 (dt_cmp (cmp_ne rfl hr.units) (de_call (takes_of rfl rfl rfl rfl) (ok_downward T) (hr.mono (by decide)) (by rfl) T.m_downward T.F_downward.kp T.b_downward (da_cons (de_var 5) (da_cons de_str da_nil))) (de_add rfl (de_tup (da_cons de_str da_nil)) (de_tupOf rfl (by rfl) T.z_tuple (de_var 3))) (nomark _))))) (dss_one (ds_ret de_bl)) dss_nil)
    (dss_cons (ds_if (dw_dt (dw_or (dt_cmp (cmp_ne rfl hr.units) (de_call (takes_of rfl rfl rfl rfl) (ok_common T) (hr.mono (by decide)) (by rfl) T.m_common T.F_common.kp T.b_common (da_cons (de_var 4) (da_cons de_str (da_cons (de_var 6) da_nil)))) de_str (nomark _)) (dw_or1 (dt_cmp (cmp_ne rfl hr.units) (de_call (takes_of rfl rfl rfl rfl) (ok_common T) (hr.mono (by decide)) (by rfl) T.m_common T.F_common.kp T.b_common (da_cons (de_var 5) (da_cons de_str (da_cons (de_var 6) da_nil)))) (de_if (dt_cmp (cmp_eq rfl hr.units) (de_var 2) de_int (nomark _)) de_str de_str) (nomark _))))) (dss_one (ds_ret de_bl)) dss_nil)
    (dss_cons (ds_if (dw_dt (dw_or (dt_cmp (cmp_ne rfl hr.units) (de_call (takes_of rfl rfl rfl rfl) (ok_joined T) (hr.mono (by decide)) (by rfl) T.m_joined T.F_joined.kp T.b_joined (da_cons (de_var 4) (da_cons (de_var 6) (da_cons de_str da_nil)))) de_str (nomark _)) (dw_or (dt_cmp (cmp_ne rfl hr.units) (de_call (takes_of rfl rfl rfl rfl) (ok_joined T) (hr.mono (by decide)) (by rfl) T.m_joined T.F_joined.kp T.b_joined (da_cons (de_var 5) (da_cons (de_var 6) (da_cons de_str da_nil)))) (de_var 6) (nomark _)) (dw_or1 (dt_cmp (cmp_ne rfl hr.units) (de_call (takes_of rfl rfl rfl rfl) (ok_joined T) (hr.mono (by decide)) (by rfl) T.m_joined T.F_joined.kp T.b_joined (da_cons (de_var 5) (da_cons (de_var 6) (da_cons de_str da_nil)))) de_str (nomark _)))))) (dss_one (ds_ret de_bl)) dss_nil)
    (dss_cons (ds_if (dw_dt (dw_or (dt_not (dt_truth rfl (de_call (takes_of rfl rfl rfl rfl) (ok_fits T) (hr.mono (by decide)) (by rfl) T.m_fits T.F_fits.kp T.b_fits (da_cons (de_var 4) (da_cons (de_var 6) (da_cons de_str da_nil)))))) (dw_or (dt_cmp (cmp_ne rfl hr.units) (de_call (takes_of rfl rfl rfl rfl) (ok_fits T) (hr.mono (by decide)) (by rfl) T.m_fits T.F_fits.kp T.b_fits (da_cons (de_var 4) (da_cons de_str (da_cons (de_var 6) da_nil)))) (de_cmp' (cmp_eq rfl hr.units) (de_var 2) de_int (nomark _)) (nomark _)) (dw_or1 (dt_truth rfl (de_call (takes_of rfl rfl rfl rfl) (ok_fits T) (hr.mono (by decide)) (by rfl) T.m_fits T.F_fits.kp T.b_fits (da_cons (de_var 4) (da_cons de_str (da_cons de_str da_nil))))))))) (dss_one (ds_ret de_bl)) dss_nil)
    (dss_cons (ds_set 7 sc_law.nd (de_tup (da_cons de_str (da_cons (de_tup (da_cons de_str da_nil)) (da_cons de_str (da_cons (de_tup (da_cons (de_tup (da_cons de_str da_nil)) (da_cons (de_tup (da_cons de_str da_nil)) da_nil))) (da_cons (de_tup da_nil) da_nil)))))))
    (dss_cons (ds_set 8 sc_law.nd (de_make (ct_House T) T.mk_House (ok_House___init__ T) (hr.mono (by decide)) (by rfl) T.m_House T.b_House___init__ (takes_of rfl rfl rfl rfl) rfl (da_cons (de_tup (da_cons (de_tup (da_cons de_str (da_cons de_str (da_cons (de_tup (da_cons (de_tup (da_cons de_str (da_cons de_str da_nil))) da_nil)) (da_cons (de_tup (da_cons (de_var 7) da_nil)) da_nil))))) (da_cons (de_tup (da_cons de_str (da_cons de_str (da_cons (de_tup (da_cons (de_tup (da_cons de_str (da_cons de_str da_nil))) da_nil)) (da_cons (de_tup da_nil) da_nil))))) (da_cons (de_tup (da_cons de_str (da_cons de_str (da_cons (de_tup da_nil) (da_cons (de_tup (da_cons (de_var 7) da_nil)) da_nil))))) da_nil)))) da_nil)))
    (dss_cons (ds_if (dw_dt (dw_or (dt_cmp (cmp_ne rfl hr.units) (de_call (takes_of rfl rfl rfl rfl) (ok_fields_of T) (hr.mono (by decide)) (by rfl) T.m_fields_of T.F_fields_of.kp T.b_fields_of (da_cons (de_var 8) (da_cons de_str da_nil))) (de_tup (da_cons (de_tup (da_cons de_str (da_cons de_str da_nil))) (da_cons (de_tup (da_cons de_str (da_cons de_str da_nil))) da_nil))) (nomark _)) (dw_or1 (dt_cmp (cmp_ne rfl hr.units) (de_call (takes_of rfl rfl rfl rfl) (ok_method_of T) (hr.mono (by decide)) (by rfl) T.m_method_of T.F_method_of.kp T.b_method_of (da_cons (de_var 8) (da_cons de_str (da_cons de_str da_nil)))) (de_tup (da_cons de_str (da_cons de_int da_nil))) (nomark _))))) (dss_one (ds_ret de_bl)) dss_nil)
    (dss_cons (ds_if (dw_dt (dw_or (dt_cmp (cmp_ne rfl hr.units) (de_call (takes_of rfl rfl rfl rfl) (ok_methods_of T) (hr.mono (by decide)) (by rfl) T.m_methods_of T.F_methods_of.kp T.b_methods_of (da_cons (de_var 8) (da_cons de_str da_nil))) (de_tup (da_cons (de_tup (da_cons de_str (da_cons de_str da_nil))) da_nil)) (nomark _)) (dw_or1 (dt_cmp (cmp_ne rfl hr.units) (de_call (takes_of rfl rfl rfl rfl) (ok_overrides T) (hr.mono (by decide)) (by rfl) T.m_overrides T.F_overrides.kp T.b_overrides (da_cons (de_var 8) da_nil)) (de_lst (da_cons (de_tup (da_cons de_str (da_cons de_str (da_cons de_str da_nil)))) da_nil)) (nomark _))))) (dss_one (ds_ret de_bl)) dss_nil)
    (dss_cons (ds_set 9 sc_law.nd (de_lst (da_cons de_str (da_cons de_str (da_cons de_str (da_cons de_str (da_cons de_str (da_cons de_str (da_cons de_str da_nil)))))))))
    (dss_cons (ds_set 9 sc_law.nd (de_add rfl (de_var 9) (de_lst (da_cons de_str (da_cons de_str (da_cons de_str (da_cons de_str da_nil)))))))
    (dss_one (ds_ret (de_and (de_cmp' (cmp_eq rfl hr.units) (de_call (takes_of rfl rfl rfl rfl) (ok_write T) (hr.mono (by decide)) (by rfl) T.m_write T.F_write.kp T.b_write (da_cons (de_var 8) da_nil)) (de_join rfl de_str (de_var 9)) (nomark _)) (de_one (de_cmp' (cmp_eqO (ct_House T) T.eq_House (ok_House___eq__ T) (hr.mono (by decide)) T.b_House___eq__ passL) (de_call (takes_of rfl rfl rfl rfl) (ok_read T) (hr.mono (by decide)) (by rfl) T.m_read T.F_read.kp T.b_read (da_cons (de_add rfl de_str (de_join rfl de_str (de_var 9))) da_nil)) (de_var 8) (nomark _)))))))))))))))))))))))
end K11
set_option Elab.async false
set_option linter.all false
set_option maxRecDepth 100000
set_option maxHeartbeats 1000000
namespace K11
open PySem PySem.Spec PyProof.Rows L2 MI
structure S3 where
  p : Nat
  x : Int
  y : Int
def rowO (s : S3) : MO := .lst [.ref 0, .int s.p, .int s.x, .int s.y]
abbrev mk (l : List Int) (s : S3) (r : Store) : Store := .rol (l.map MV.int) :: rowO s :: r
theorem wp_set {n j : Nat} {k : Int} {w : MV} {S : Store} {l : List MV} (h : S[n]? = some (.lst l)) (hk : ixN l.length k = some j) : fSet (.ref n) (.int k) w S = some (S.set n (.lst (l.set j w))) := by
  unfold fSet
  simp only [h, hk]
section
variable {l : List Int} {p : Nat} {x y : Int} {r : Store} {E : EX} {Q : MV → Store → Prop}
theorem at_row : (mk l ⟨p, x, y⟩ r)[1]? = some (.lst [.ref 0, .int p, .int x, .int y]) := rfl
theorem row0 : wp (fIx (.ref 1) (.int 0) (mk l ⟨p, x, y⟩ r)) E Q = Q (.ref 0) (mk l ⟨p, x, y⟩ r) := by
  rw [wp_ixL at_row]; simp [atI, ixN]
theorem row1 : wp (fIx (.ref 1) (.int 1) (mk l ⟨p, x, y⟩ r)) E Q = Q (.int p) (mk l ⟨p, x, y⟩ r) := by
  rw [wp_ixL at_row]; simp [atI, ixN]
theorem row2 : wp (fIx (.ref 1) (.int 2) (mk l ⟨p, x, y⟩ r)) E Q = Q (.int x) (mk l ⟨p, x, y⟩ r) := by
  rw [wp_ixL at_row]; simp [atI, ixN]
theorem row3 : wp (fIx (.ref 1) (.int 3) (mk l ⟨p, x, y⟩ r)) E Q = Q (.int y) (mk l ⟨p, x, y⟩ r) := by
  rw [wp_ixL at_row]; simp [atI, ixN]
theorem put1 : fSet (.ref 1) (.int 1) (.int (p + 1)) (mk l ⟨p, x, y⟩ r) = some (mk l ⟨p + 1, x, y⟩ r) := by
  rw [wp_set (l := [.ref 0, .int p, .int x, .int y]) at_row (j := 1) rfl]; rfl
theorem put2 {v : Int} : fSet (.ref 1) (.int 2) (.int v) (mk l ⟨p, x, y⟩ r) = some (mk l ⟨p, v, y⟩ r) := by
  rw [wp_set (l := [.ref 0, .int p, .int x, .int y]) at_row (j := 2) rfl]; rfl
theorem put3 {v : Int} : fSet (.ref 1) (.int 3) (.int v) (mk l ⟨p, x, y⟩ r) = some (mk l ⟨p, x, v⟩ r) := by
  rw [wp_set (l := [.ref 0, .int p, .int x, .int y]) at_row (j := 3) rfl]; rfl
theorem cell {i : Int} : wp (fIx (.ref 0) (.int i) (mk l ⟨p, x, y⟩ r)) E Q = ∃ w, atI (l.map MV.int) i = some w ∧ Q w (mk l ⟨p, x, y⟩ r) := wp_ixR rfl
theorem rlen : lenM (.ref 0) (mk l ⟨p, x, y⟩ r) = some l.length := by
  show ((some (l.map MV.int)).map List.length) = _
  simp
theorem wp_addI {i j : Int} {S : Store} : wp (fAdd (.int i) (.int j) S) E Q = Q (.int (i + j)) S := rfl
theorem wp_mulI {i j : Int} {S : Store} (hj : -(2 ^ 64) < j) (hk : j < 2 ^ 64) : wp (fMul (.int i) (.int j) S) E Q = Q (.int (i * j)) S := by
  unfold fMul
  dsimp only
  rw [if_pos (by rw [decide_eq_true hj, decide_eq_true hk]; simp)]
  rfl
theorem gc_row {w : MV} : wp (gc (r.length + 1 + 1) w (mk l ⟨p, x, y⟩ r)) E Q = Q w (mk l ⟨p, x, y⟩ r) := by
  rw [show gc (r.length + 1 + 1) w (mk l ⟨p, x, y⟩ r) = .ok w (mk l ⟨p, x, y⟩ r) from gc_same rfl]; rfl
theorem mulc {i : Int} {S : Store} : wp (fMul (.int i) (.int 48271) S) E Q = Q (.int (i * 48271)) S := wp_mulI (by decide) (by decide)
end
end K11
open PySem PySem.Spec PyProof.Rows L2 MI K11
local macro_rules | `(tactic| walk_at "run2") => `(tactic| simp only [wp_rng1, wp_rng2, wp_met, wp_neg, wp_bYes, if_true, row0, row1, row2, row3, put1, put2, put3, cell, rlen, wp_addI, mulc, wp_var, wp_c, wp_bin, wp_un, wp_call, wp_nil, wp_cons, wp_tup, wp_lst, wp_dic0, wp_int, wp_bcmp, wp_boolOf, wp_btru, wp_truB, wp_bnot, wp_band, wp_bor, wp_dif, wp_dand, wp_dor, wp_dnot, wp_len, wp_intOf, wp_ixT, wp_gN, wp_gS, wp_seq, wp_snil, wp_sexpr, wp_sret, wp_sif, wp_asg, wp_par, wp_par3, wp_for, wp_iany, wp_irng, wp_ok, wp_ite, wp_iteR,
  true_and, decide_eq_true_eq, Bool.and_eq_true, List.getElem?_cons_zero, List.getElem?_cons_succ, Option.some.injEq, exists_eq_left', List.set_cons_zero, List.set_cons_succ, List.map_cons, List.map_nil, List.cons_append, List.nil_append, List.replicate_succ, List.replicate_zero, List.length_cons, List.length_nil])
namespace K11
open PySem PySem.Spec PyProof.Rows L2 MI
theorem taken (l : List Int) (s : S3) (r : Store) {m : Int} (h0 : 0 < m) (h1 : m < 1073741824) {E : EX} {Q : MV → Store → Prop} (h : ∀ (k : Int) (s' : S3), 0 ≤ k → k < m → Q (.int k) (mk l s' r)) : wp (D__law_taken [.ref 1, .int m] (mk l s r)) E Q := by
  obtain ⟨p, x, y⟩ := s
  unfold D__law_taken
  rw [wp_fn (n := List.length [PySem.Str.ofString "row", PySem.Str.ofString "many"]) (ws := [MV.ref 1, MV.int m]) rfl]
  unfold d__law_taken
  simp only [List.map_cons, List.map_nil, n__law_taken, List.length_cons, List.length_nil]
  walk_at "run2"
  split
  · exact ⟨h0, ⟨h0, h1⟩, by rw [gc_row]; exact h _ _ (Int.emod_nonneg _ (by omega)) (Int.emod_lt_of_pos _ h0)⟩
  · split
    · exact ⟨by decide, by decide, h0, by rw [gc_row]; exact h _ _ (Int.emod_nonneg _ (by omega)) (Int.emod_lt_of_pos _ h0)⟩
    · rename_i hp
      have hlt : p < l.length := by omega
      refine ⟨.int l[p], ?_, ?_⟩
      · have e : ixN (l.map MV.int).length (((p + 1 : Nat) : Int) - 1) = some p := by
          unfold ixN
          rw [if_pos (by omega), if_pos (by rw [List.length_map]; omega)]
          congr 1
          omega
        unfold atI
        rw [e]
        show (l.map MV.int)[p]? = _
        rw [List.getElem?_map, List.getElem?_eq_getElem hlt]
        rfl
      · walk_at "run2"
        refine ⟨by decide, by decide, ?_⟩
        split
        · exact ⟨⟨h0, h1⟩, h0, by rw [gc_row]; exact h _ _ (Int.emod_nonneg _ (by omega)) (Int.emod_lt_of_pos _ h0)⟩
        · exact ⟨h0, by rw [gc_row]; exact h _ _ (Int.emod_nonneg _ (by omega)) (Int.emod_lt_of_pos _ h0)⟩
end K11
set_option Elab.async false
set_option linter.all false
set_option maxRecDepth 100000
set_option maxHeartbeats 0
namespace K11
open PySem PySem.Spec PyProof.Rows L2 MI
def rest : DenS :=
  (sSeq (sAsg (dSl (dLst (aCons (dC (.str "a")) (aCons (dC (.str "b")) (aCons (dC (.str "c")) (aCons (dC (.str "d")) (aCons (dC (.str "e")) (aCons (dC (.str "f")) (aCons (dC (.str "g")) (aCons (dC (.str "h")) aNil))))))))) oNone (oSome (dVar 2))) (gN 3))
  (sSeq (sAsg (dMake "House" D_House___init__ (aCons (dUn fTupOf (dLc 4096 (iRng rng1 (aCons (dVar 2) aNil)) (gN 10) bYes (dTup (aCons (dBin fIx (dVar 3) (dVar 10)) (aCons (dBin fIx (dBin fAdd (dLst (aCons (dC (.str "top")) aNil)) (dVar 3)) (dVar 10)) (aCons (dTup aNil) (aCons (dTup aNil) aNil))))) [10])) aNil)) (gN 4))
  (sSeq (sAsg (dMake "House" D_House___init__ (aCons (dUn fTupOf (dLc 4096 (iAnyD (dVar 3)) (gN 11) bYes (dTup (aCons (dVar 11) (aCons (dC (.str "top")) (aCons (dTup aNil) (aCons (dTup aNil) aNil))))) [11])) aNil)) (gN 5))
  (sSeq (sAsg (dBin fIx (dVar 3) (dUn fNeg (dC (.int 1)))) (gN 6))
  (sSeq (sIf (bOr (bCmp fNe (dCall D_upward (aCons (dVar 4) (aCons (dVar 6) aNil))) (dBin fAdd (dUn fTupOf (dUn fBack (dVar 3))) (dTup (aCons (dC (.str "top")) aNil)))) (bCmp fNe (dCall D_upward (aCons (dVar 5) (aCons (dVar 6) aNil))) (dTup (aCons (dVar 6) (aCons (dC (.str "top")) aNil))))) (sRet (dC (.bl false))) sNil)
  (sSeq (sIf (bOr (bCmp fNe (dCall D_downward (aCons (dVar 4) (aCons (dC (.str "a")) aNil))) (dUn fTupOf (dVar 3))) (bCmp fNe (dCall D_downward (aCons (dVar 5) (aCons (dC (.str "top")) aNil))) (dBin fAdd (dTup (aCons (dC (.str "top")) aNil)) (dUn fTupOf (dVar 3))))) (sRet (dC (.bl false))) sNil)
  (sSeq (sIf (bOr (bCmp fNe (dCall D_common (aCons (dVar 4) (aCons (dC (.str "a")) (aCons (dVar 6) aNil)))) (dC (.str "a"))) (bCmp fNe (dCall D_common (aCons (dVar 5) (aCons (dC (.str "a")) (aCons (dVar 6) aNil)))) (dIf (bCmp fEq (dVar 2) (dC (.int 1))) (dC (.str "a")) (dC (.str "top"))))) (sRet (dC (.bl false))) sNil)
  (sSeq (sIf (bOr (bCmp fNe (dCall D_joined (aCons (dVar 4) (aCons (dVar 6) (aCons (dC (.str "a")) aNil)))) (dC (.str "a"))) (bOr (bCmp fNe (dCall D_joined (aCons (dVar 5) (aCons (dVar 6) (aCons (dC (.str "none")) aNil)))) (dVar 6)) (bCmp fNe (dCall D_joined (aCons (dVar 5) (aCons (dVar 6) (aCons (dC (.str "num")) aNil)))) (dC (.str "odd"))))) (sRet (dC (.bl false))) sNil)
  (sSeq (sIf (bOr (bNot (bTru (dCall D_fits (aCons (dVar 4) (aCons (dVar 6) (aCons (dC (.str "a")) aNil)))))) (bOr (bCmp fNe (dCall D_fits (aCons (dVar 4) (aCons (dC (.str "a")) (aCons (dVar 6) aNil)))) (dBin fEq (dVar 2) (dC (.int 1)))) (bTru (dCall D_fits (aCons (dVar 4) (aCons (dC (.str "num")) (aCons (dC (.str "top")) aNil))))))) (sRet (dC (.bl false))) sNil)
  (sSeq (sAsg (dTup (aCons (dC (.str "ma")) (aCons (dTup (aCons (dC (.str "num")) aNil)) (aCons (dC (.str "a")) (aCons (dTup (aCons (dTup (aCons (dC (.str "none")) aNil)) (aCons (dTup (aCons (dC (.str "give")) aNil)) aNil))) (aCons (dTup aNil) aNil)))))) (gN 7))
  (sSeq (sAsg (dMake "House" D_House___init__ (aCons (dTup (aCons (dTup (aCons (dC (.str "a")) (aCons (dC (.str "top")) (aCons (dTup (aCons (dTup (aCons (dC (.str "x")) (aCons (dC (.str "num")) aNil))) aNil)) (aCons (dTup (aCons (dVar 7) aNil)) aNil))))) (aCons (dTup (aCons (dC (.str "b")) (aCons (dC (.str "a")) (aCons (dTup (aCons (dTup (aCons (dC (.str "y")) (aCons (dC (.str "a")) aNil))) aNil)) (aCons (dTup aNil) aNil))))) (aCons (dTup (aCons (dC (.str "c")) (aCons (dC (.str "b")) (aCons (dTup aNil) (aCons (dTup (aCons (dVar 7) aNil)) aNil))))) aNil)))) aNil)) (gN 8))
  (sSeq (sIf (bOr (bCmp fNe (dCall D_fields_of (aCons (dVar 8) (aCons (dC (.str "c")) aNil))) (dTup (aCons (dTup (aCons (dC (.str "x")) (aCons (dC (.str "num")) aNil))) (aCons (dTup (aCons (dC (.str "y")) (aCons (dC (.str "a")) aNil))) aNil)))) (bCmp fNe (dCall D_method_of (aCons (dVar 8) (aCons (dC (.str "b")) (aCons (dC (.str "ma")) aNil)))) (dTup (aCons (dC (.str "a")) (aCons (dC (.int 0)) aNil))))) (sRet (dC (.bl false))) sNil)
  (sSeq (sIf (bOr (bCmp fNe (dCall D_methods_of (aCons (dVar 8) (aCons (dC (.str "c")) aNil))) (dTup (aCons (dTup (aCons (dC (.str "ma")) (aCons (dC (.str "c")) aNil))) aNil))) (bCmp fNe (dCall D_overrides (aCons (dVar 8) aNil)) (dLst (aCons (dTup (aCons (dC (.str "c")) (aCons (dC (.str "ma")) (aCons (dC (.str "a")) aNil)))) aNil)))) (sRet (dC (.bl false))) sNil)
  (sSeq (sAsg (dLst (aCons (dC (.str "class a under top")) (aCons (dC (.str "field x num")) (aCons (dC (.str "method ma a num")) (aCons (dC (.str "none")) (aCons (dC (.str "give")) (aCons (dC (.str "class b under a")) (aCons (dC (.str "field y a")) aNil)))))))) (gN 9))
  (sSeq (sAsg (dBin fAdd (dVar 9) (dLst (aCons (dC (.str "class c under b")) (aCons (dC (.str "method ma a num")) (aCons (dC (.str "none")) (aCons (dC (.str "give")) aNil)))))) (gN 9))
  (sRet (dAnd (dBin fEq (dCall D_write (aCons (dVar 8) aNil)) (dTx fJoinB (dC (.str "
")) (dVar 9))) (dBin (fEqO "House" D_House___eq__) (dCall D_read (aCons (dBin fAdd (dC (.str " ")) (dTx fJoinB (dC (.str "  
 ")) (dVar 9))) aNil)) (dVar 8)))))))))))))))))))
def isT (r : Res Fl) : Bool := match r with
  | .ok (.ret (.bl true)) _ => true
  | _ => false
abbrev rho (k : Int) : Env' := [some (.ref 0), some (.ref 1), some (.int k), none, none, none, none, none, none, none, none, none]
end K11
set_option Elab.async false
set_option linter.all false
set_option maxRecDepth 100000
set_option maxHeartbeats 0
namespace K11
open PySem PySem.Spec PyProof.Rows L2 MI
theorem rest_1 (L : List MV) (a b c : Int) : isT (rest (rho 1) [.rol L, .lst [.ref 0, .int a, .int b, .int c]]) = true := by kernel_rfl
theorem rest_2 (L : List MV) (a b c : Int) : isT (rest (rho 2) [.rol L, .lst [.ref 0, .int a, .int b, .int c]]) = true := by kernel_rfl
theorem rest_3 (L : List MV) (a b c : Int) : isT (rest (rho 3) [.rol L, .lst [.ref 0, .int a, .int b, .int c]]) = true := by kernel_rfl
end K11
set_option Elab.async false
set_option linter.all false
set_option maxRecDepth 100000
set_option maxHeartbeats 0
namespace K11
open PySem PySem.Spec PyProof.Rows L2 MI
theorem rest_4 (L : List MV) (a b c : Int) : isT (rest (rho 4) [.rol L, .lst [.ref 0, .int a, .int b, .int c]]) = true := by kernel_rfl
theorem rest_5 (L : List MV) (a b c : Int) : isT (rest (rho 5) [.rol L, .lst [.ref 0, .int a, .int b, .int c]]) = true := by kernel_rfl
theorem rest_6 (L : List MV) (a b c : Int) : isT (rest (rho 6) [.rol L, .lst [.ref 0, .int a, .int b, .int c]]) = true := by kernel_rfl
end K11
set_option Elab.async false
set_option linter.all false
set_option maxRecDepth 100000
set_option maxHeartbeats 0
namespace K11
open PySem PySem.Spec PyProof.Rows L2 MI
theorem rest_7 (L : List MV) (a b c : Int) : isT (rest (rho 7) [.rol L, .lst [.ref 0, .int a, .int b, .int c]]) = true := by kernel_rfl
theorem rest_8 (L : List MV) (a b c : Int) : isT (rest (rho 8) [.rol L, .lst [.ref 0, .int a, .int b, .int c]]) = true := by kernel_rfl
end K11
set_option Elab.async false
set_option linter.all false
set_option maxRecDepth 100000
set_option maxHeartbeats 1000000
namespace K11
open PySem PySem.Spec PyProof.Rows L2 MI
theorem rest_any {k : Int} (h0 : 0 ≤ k) (h1 : k < 8) (L : List MV) (a b c : Int) : isT (rest (rho (1 + k)) [.rol L, .lst [.ref 0, .int a, .int b, .int c]]) = true := by
  have z : k = 0 ∨ k = 1 ∨ k = 2 ∨ k = 3 ∨ k = 4 ∨ k = 5 ∨ k = 6 ∨ k = 7 := by omega
  rcases z with e | e | e | e | e | e | e | e <;> subst e
  · rw [show (1 + 0 : Int) = 1 by decide]; exact rest_1 L a b c
  · rw [show (1 + 1 : Int) = 2 by decide]; exact rest_2 L a b c
  · rw [show (1 + 2 : Int) = 3 by decide]; exact rest_3 L a b c
  · rw [show (1 + 3 : Int) = 4 by decide]; exact rest_4 L a b c
  · rw [show (1 + 4 : Int) = 5 by decide]; exact rest_5 L a b c
  · rw [show (1 + 5 : Int) = 6 by decide]; exact rest_6 L a b c
  · rw [show (1 + 6 : Int) = 7 by decide]; exact rest_7 L a b c
  · rw [show (1 + 7 : Int) = 8 by decide]; exact rest_8 L a b c
theorem isT_ok {r : Res Fl} (h : isT r = true) : ∃ S', r = .ok (.ret (.bl true)) S' := by
  unfold isT at h
  split at h
  · exact ⟨_, rfl⟩
  · cases h
section
variable {S : Store} {E : EX} {Q : MV → Store → Prop}
theorem gc_bl {n : Nat} {b : Bool} (h : ∀ S', Q (.bl b) S') : wp (gc n (.bl b) S) E Q := by
  unfold gc
  split
  · exact h _
  · split
    · exact h _
    · exact h _
end
theorem d_split : d_law = sSeq (sAsg (dLst (aCons (dVar 0) (aCons (dC (.int 0)) (aCons (dC (.int 2911)) (aCons (dC (.int 0)) aNil))))) (gN 1)) (sSeq (sAsg (dBin fAdd (dC (.int 1)) (dCall D__law_taken (aCons (dVar 1) (aCons (dC (.int 8)) aNil)))) (gN 2)) rest) := rfl
theorem law_all (ns : List Int) : ∃ S', D_law [.ref 0] [.rol (ns.map MV.int)] = .ok (.bl true) S' := by
  have key : wp (D_law [.ref 0] [.rol (ns.map MV.int)]) NE fun w _ => w = .bl true := by
    unfold D_law
    rw [wp_fn (n := List.length [PySem.Str.ofString "script"]) (ws := [MV.ref 0]) rfl, d_split]
    simp only [List.map_cons, List.map_nil, n_law, List.length_cons, List.length_nil]
    walk_at "run2"
    refine ⟨by decide, taken ns ⟨0, 2911, 0⟩ [] (m := 8) (by decide) (by decide) fun k s' h0 h1 => ?_⟩
    rw [wp_addI]
    obtain ⟨S', e⟩ := isT_ok (rest_any h0 h1 (ns.map MV.int) s'.p s'.x s'.y)
    show wp (rest (rho (1 + k)) [.rol (ns.map MV.int), .lst [.ref 0, .int s'.p, .int s'.x, .int s'.y]]) _ _
    rw [e]
    show wp (gc 1 (.bl true) S') _ _
    exact gc_bl fun _ => rfl
  obtain ⟨a, S', e, rfl⟩ := key.ex
  exact ⟨S', e⟩
end K11
set_option Elab.async false
set_option linter.all false
set_option maxRecDepth 100000
set_option maxHeartbeats 0
namespace K11
open PySem PySem.Spec PyProof.Rows L2 MI
theorem law_true (ns : List Int) (h : ns.length ≤ 63) : ∃ S', D_law [.ref 0] [.rol (ns.map MV.int)] = .ok (.bl true) S' := by
  exact law_all ns
end K11
open PySem PySem.W PySem.Calls PyProof.Rows
theorem PySem.Challenge.cw_classhouse_k11_known_houses_holds : PySem.Challenge.rw_classhouse_k11_known_houses.Holds := by
  w_on; o_law
  refine HandSHeadRun.head_any (r := K11.R) (q := K11.qv) (H := K11.hk) (ob := K11.lk) (M := 7000) (loose := K11.tnames) (d := HandSHeadRun.topDef K11.R.prog 92) (kwd := []) (MI.lookL_eq _ _ _ _ _)
    (by kernel_rfl) (fun s => by kernel_rfl) K11.run (by kernel_rfl) (by kernel_rfl) (by kernel_rfl) (by rfl) (by first | assumption | decide +kernel) (by decide +kernel) ⟨rfl, rfl, rfl, rfl, rfl, by decide +kernel⟩ ?hw ?hc
  case hw => w_witness2
  case hc =>
    refine MI.walkM (l := PySem.Challenge.rw_classhouse_k11_known_houses) (n := 63) (k := 13) (x := "script") rfl (by decide) (by kernel_rfl) ⟨rfl, by decide, by decide⟩ K11.D_law K11.law_true ?F
    intro w mg f h Y G hm0
    obtain ⟨K, KX, c⟩ := Y
    have hm : mg ("law" : PySem.Str) = some (.ref f) := by
      have e : (HandSHeadRun.topDef K11.R.prog 92).name = ("law" : PySem.Str) := by kernel_rfl
      rw [← e]
      exact hm0
    obtain ⟨T, e⟩ := K11.all_txt KX G c
    have e2 : f = T.f_law := by
      have z := T.m_law
      rw [hm] at z
      cases z
      rfl
    subst e2
    exact ⟨K, (K11.GG T).ct, (K11.GG T).outs, (K11.GG T).ow, T.d_law, KX, c.no, MI.fun_bindsA (ps := ["script"]) T.F_law fun _ _ _ _ _ _ us hl => match us, hl with | [_], _ => rfl, fun base => K11.ok_law T⟩
