import PyProof.Rows.All
import Wide.All
import OpenK.AllK
import Wide.FinOn
import HandS.ForMost
import HandS.ForExc
import HandS.Conv
import HandS.More
import KE.SortData
import KE.DataCmp
import KE.KDictSum
import HandS.Zip
import KE.GoesZip
import KE.GoesEnum
import HandS.Text
import HandS.Deep
import HandS.TupAny
import HandS.TupMul
import HandS.IsInst
import HandS.Flow
import HandS.Wide
import HandS.TupLen
import HandS.CallSlots
import HandS.RevRange
import HandS.TryOnly
import HandS.Style
import HandS.Small
import HandS.ExcInit
import HandS.ExcValue
import HandS.ExcIs
import HandS.ExcField
import HandS.Defaults
import KE.KExcIs
import HandS.CallRecv
import HandS.Property
import HandS.MapJoin
import HandS.RaiseMore
import HandS.FStr
import HandS.ReplaceLit
import HandS.Ends
import HandS.HeadHook4
import HandS.Head0
import HandS.Head1
import HandS.Head2
import HandS.HeadEnd
import PySem.Challenge.RW_letahead_k01_pairs_queues_and_orders_rea
set_option Elab.async false
set_option linter.all false
set_option maxRecDepth 100000
set_option maxHeartbeats 4100000
/-! PI1: data without addresses (D), slots (W), a store of the objects that may still change (O), and what they say of the abstract heap. -/
namespace PI
open PySem PySem.Spec PyProof.Rows L2

inductive D where
  | non | bl (b : Bool) | int (i : Int) | str (s : Str)
  | tup (xs : List D) | lst (xs : List D)
  | dic (t : Bool) (ks vs : List D)
  | ins (c : Str) (ns : List Str) (vs : List D)
  | exc (c : Str) (ns : List Str) (vs : List D)
  | fn (f : Str)
  | scr (xs : List D)
deriving Inhabited

/-- a slot's value: data, or an object of the store -/
inductive W where
  | d (x : D) | r (k : Nat)
deriving Inhabited
/-- an object of the store: a list or a dict that may still change; one that does no more -/
inductive O where
  | lst (xs : List D) | dic (t : Bool) (ks vs : List D) | fz (x : D) | ins (c : Str) (ns : List Str) (vs : List D)
deriving Inhabited
abbrev Mu := List O
abbrev Env := List (Option W)

/-- where the text's defs and classes stand -/
structure Tb where
  K : PySem.W.Frag
  fa : Str → Option Addr
  ca : Str → Option Addr
  cb : Str → Option Addr

/-- a key of a dict: an int, a text, or a tuple of such -/
def keyD : D → Option Key
  | .int i => some (.inl i)
  | .str s => some (.inr s)
  | _ => none
def keysD : List D → Option (List Key)
  | [] => some []
  | x :: r => match keyD x, keysD r with
    | some k, some ks => some (k :: ks)
    | _, _ => none
/-- a key that is a tuple of these -/
def keyT : D → Option (List Key)
  | .tup xs => keysD xs
  | _ => none
def keysT : List D → Option (List (List Key))
  | [] => some []
  | x :: r => match keyT x, keysT r with
    | some k, some ks => some (k :: ks)
    | _, _ => none
/-- a dict's object, by P: with tuples as keys (t) or not -/
def DicH (P : HO → Prop) : Bool → List D → List V → Prop
  | true, ks, vs => ∃ kl : List (List Key), keysT ks = some kl ∧ kl.length = vs.length ∧ kl.Nodup ∧ P (.dT (kl.zip vs))
  | false, ks, vs => ∃ kl : List Key, keysD ks = some kl ∧ kl.length = vs.length ∧ kl.Nodup ∧ P (.dK (kl.zip vs))
theorem DicH.imp {P Q : HO → Prop} {t : Bool} {ks : List D} {vs : List V} (h : DicH P t ks vs) (hk : ∀ u, Mut (some u) → P u → Q u) : DicH Q t ks vs := by
  cases t with
  | true => obtain ⟨kl, a, b, n, c⟩ := h; exact ⟨kl, a, b, n, hk _ trivial c⟩
  | false => obtain ⟨kl, a, b, n, c⟩ := h; exact ⟨kl, a, b, n, hk _ trivial c⟩
theorem DicH.get {P : HO → Prop} {t : Bool} {ks : List D} {vs : List V} (h : DicH P t ks vs) : ∃ u : HO, Mut (Option.some u) ∧ (∀ xs, u ≠ .tup xs) ∧ P u ∧ ∀ Q : HO → Prop, Q u → DicH Q t ks vs := by
  cases t with
  | true => obtain ⟨kl, a, b, n, c⟩ := h; exact ⟨.dT (kl.zip vs), trivial, (fun _ z => nomatch z), c, fun Q q => ⟨kl, a, b, n, q⟩⟩
  | false => obtain ⟨kl, a, b, n, c⟩ := h; exact ⟨.dK (kl.zip vs), trivial, (fun _ z => nomatch z), c, fun Q q => ⟨kl, a, b, n, q⟩⟩
theorem keysD_len : ∀ {ks : List D} {kl : List Key}, keysD ks = some kl → kl.length = ks.length
  | [], kl, h => by simp only [keysD] at h; cases h; rfl
  | k :: ks, kl, h => by
    simp only [keysD] at h
    split at h
    · rename_i a b h5 h6
      cases h
      simp [keysD_len h6]
    · cases h
theorem keysT_len : ∀ {ks : List D} {kl : List (List Key)}, keysT ks = some kl → kl.length = ks.length
  | [], kl, h => by simp only [keysT] at h; cases h; rfl
  | k :: ks, kl, h => by
    simp only [keysT] at h
    split at h
    · rename_i a b h5 h6
      cases h
      simp [keysT_len h6]
    · cases h
theorem DicH.len {P : HO → Prop} {t : Bool} {ks : List D} {vs : List V} (h : DicH P t ks vs) : ks.length = vs.length := by
  cases t with
  | true => obtain ⟨kl, a, b, n, c⟩ := h; rw [← keysT_len a, b]
  | false => obtain ⟨kl, a, b, n, c⟩ := h; rw [← keysD_len a, b]

/-- an exception's object at a -/
def exAt (a : Addr) (cls : Value) (d : Option Addr) : HO := .ext fun h => ∃ (oe : Obj) (vs : Array Value), h.get? a = some oe ∧ Zc cls d oe ∧ oe.data = .fields vs
mutual
/-- v stands for the data d, by the objects of F, that don't change any more -/
def Rep (T : Tb) (F : Hp) : D → V → Prop
  | .non, v => v = .non
  | .bl b, v => v = .bl b
  | .int i, v => v = .int i
  | .str s, v => v = .str s
  | .tup ds, v => ∃ a vs, v = .ref a ∧ F a = some (.tup vs) ∧ Reps T F ds vs
  | .lst ds, v => ∃ a vs, v = .ref a ∧ F a = some (.lst vs) ∧ Reps T F ds vs
  | .scr ds, v => ∃ a vs, v = .ref a ∧ SqL T.K F a vs ∧ Reps T F ds vs
  | .dic t ks ds, v => ∃ a vs, v = .ref a ∧ Reps T F ds vs ∧ DicH (fun u => ∃ o, F a = some (.frz o u)) t ks vs
  | .ins c ns ds, v => ∃ a C dx vs, v = .ref a ∧ T.cb c = some C ∧ F a = some (.ins C dx (ns.zip vs)) ∧ ns.length = vs.length ∧ Reps T F ds vs
  | .exc c ns ds, v => ∃ a C od vs, v = .ref a ∧ T.ca c = some C ∧ F a = some (exAt a (.ref C) od) ∧ ns.length = vs.length ∧ Reps T F ds vs ∧ ((od = none ∧ ns = []) ∨ ∃ dx, od = some dx ∧ F dx = some (.xd (ns.zip vs)))
  | .fn f, v => ∃ a, v = .ref a ∧ T.fa f = some a
def Reps (T : Tb) (F : Hp) : List D → List V → Prop
  | [], vs => vs = []
  | d :: ds, vs => ∃ v r, vs = v :: r ∧ Rep T F d v ∧ Reps T F ds r
end

/-- F grows -/
abbrev Sub (F F' : Hp) : Prop := Same F F'
theorem sub_sqL {K : PySem.W.Frag} {F F' : Hp} {a : Addr} {xs : List V} (e : Sub F F') (h : SqL K F a xs) : SqL K F' a xs := Same.seq e h
theorem sub_sqT {K : PySem.W.Frag} {F F' : Hp} {a : Addr} {xs : List V} (e : Sub F F') (h : F a = some (.tup xs)) : SqT K F' a xs := .inl (.inl (e _ _ h))
mutual
theorem Rep.mono {T : Tb} {F F' : Hp} (e : Sub F F') : ∀ (d : D) (v : V), Rep T F d v → Rep T F' d v
  | .non, v, h => by simpa only [Rep] using h
  | .bl b, v, h => by simpa only [Rep] using h
  | .int i, v, h => by simpa only [Rep] using h
  | .str s, v, h => by simpa only [Rep] using h
  | .fn f, v, h => by simpa only [Rep] using h
  | .exc c ns ds, v, h => by
    simp only [Rep] at h ⊢
    obtain ⟨a, C, od, vs, rfl, h1, h2, h3, r, h4⟩ := h
    refine ⟨a, C, od, vs, rfl, h1, e _ _ h2, h3, Reps.mono e ds vs r, ?_⟩
    rcases h4 with z | ⟨dx, z1, z2⟩
    · exact .inl z
    · exact .inr ⟨dx, z1, e _ _ z2⟩
  | .tup ds, v, h => by
    simp only [Rep] at h ⊢
    obtain ⟨a, vs, rfl, s, r⟩ := h
    exact ⟨a, vs, rfl, e _ _ s, Reps.mono e ds vs r⟩
  | .lst ds, v, h => by
    simp only [Rep] at h ⊢
    obtain ⟨a, vs, rfl, s, r⟩ := h
    exact ⟨a, vs, rfl, e _ _ s, Reps.mono e ds vs r⟩
  | .scr ds, v, h => by
    simp only [Rep] at h ⊢
    obtain ⟨a, vs, rfl, s, r⟩ := h
    exact ⟨a, vs, rfl, sub_sqL e s, Reps.mono e ds vs r⟩
  | .dic t ks ds, v, h => by
    simp only [Rep] at h ⊢
    obtain ⟨a, vs, rfl, r, h3⟩ := h
    exact ⟨a, vs, rfl, Reps.mono e ds vs r, h3.imp fun u _ ⟨o, z⟩ => ⟨o, e _ _ z⟩⟩
  | .ins c ns ds, v, h => by
    simp only [Rep] at h ⊢
    obtain ⟨a, C, dx, vs, rfl, h1, h2, h3, r⟩ := h
    exact ⟨a, C, dx, vs, rfl, h1, e _ _ h2, h3, Reps.mono e ds vs r⟩
theorem Reps.mono {T : Tb} {F F' : Hp} (e : Sub F F') : ∀ (ds : List D) (vs : List V), Reps T F ds vs → Reps T F' ds vs
  | [], vs, h => by simpa only [Reps] using h
  | d :: ds, vs, h => by
    simp only [Reps] at h ⊢
    obtain ⟨v, r, rfl, h1, h2⟩ := h
    exact ⟨v, r, rfl, Rep.mono e d v h1, Reps.mono e ds r h2⟩
end

section
variable {T : Tb} {F F' : Hp} {A A' : List Addr}
theorem Reps.len : ∀ {ds : List D} {vs : List V}, Reps T F ds vs → ds.length = vs.length
  | [], vs, h => by
    simp only [Reps] at h
    subst h
    rfl
  | d :: ds, vs, h => by
    simp only [Reps] at h
    obtain ⟨v, r, rfl, _, h2⟩ := h
    simp [Reps.len h2]
theorem Reps.nil : Reps T F [] [] := by simp only [Reps]
theorem Reps.cons {d : D} {ds : List D} {v : V} {vs : List V} (h : Rep T F d v) (r : Reps T F ds vs) : Reps T F (d :: ds) (v :: vs) := by
  simp only [Reps]
  exact ⟨v, vs, rfl, h, r⟩
theorem Reps.get : ∀ {ds : List D} {vs : List V} {i : Nat} {d : D}, Reps T F ds vs → ds[i]? = some d → ∃ v, vs[i]? = some v ∧ Rep T F d v
  | [], vs, i, d, h, e => by simp at e
  | x :: ds, vs, i, d, h, e => by
    simp only [Reps] at h
    obtain ⟨v, r, rfl, h1, h2⟩ := h
    cases i with
    | zero =>
      simp at e
      subst e
      exact ⟨v, by simp, h1⟩
    | succ i =>
      obtain ⟨u, a, b⟩ := Reps.get (i := i) (d := d) h2 (by simpa using e)
      exact ⟨u, by simpa using a, b⟩
theorem Reps.getV {ds : List D} {vs : List V} {i : Nat} {v : V} (h : Reps T F ds vs) (e : vs[i]? = some v) : ∃ d, ds[i]? = some d ∧ Rep T F d v := by
  have hl := h.len
  have hi : i < ds.length := by
    have := (List.getElem?_eq_some_iff.mp e).1
    omega
  obtain ⟨u, a, b⟩ := h.get (i := i) (d := ds[i]) (by simp [hi])
  rw [e] at a
  cases a
  exact ⟨ds[i], by simp [hi], b⟩
theorem Reps.app : ∀ {ds es : List D} {vs us : List V}, Reps T F ds vs → Reps T F es us → Reps T F (ds ++ es) (vs ++ us)
  | [], es, vs, us, h, k => by
    simp only [Reps] at h
    subst h
    simpa using k
  | d :: ds, es, vs, us, h, k => by
    simp only [Reps] at h
    obtain ⟨v, r, rfl, h1, h2⟩ := h
    exact Reps.cons h1 (Reps.app h2 k)
theorem Reps.drop : ∀ {ds : List D} {vs : List V} (n : Nat), Reps T F ds vs → Reps T F (ds.drop n) (vs.drop n)
  | ds, vs, 0, h => by simpa using h
  | [], vs, n + 1, h => by
    simp only [Reps] at h
    subst h
    simp [Reps]
  | d :: ds, vs, n + 1, h => by
    simp only [Reps] at h
    obtain ⟨v, r, rfl, _, h2⟩ := h
    exact Reps.drop n h2
theorem Reps.take : ∀ {ds : List D} {vs : List V} (n : Nat), Reps T F ds vs → Reps T F (ds.take n) (vs.take n)
  | ds, vs, 0, h => by simp [Reps]
  | [], vs, n + 1, h => by
    simp only [Reps] at h
    subst h
    simp [Reps]
  | d :: ds, vs, n + 1, h => by
    simp only [Reps] at h
    obtain ⟨v, r, rfl, h1, h2⟩ := h
    exact Reps.cons h1 (Reps.take n h2)
theorem Reps.set : ∀ {ds : List D} {vs : List V} (i : Nat) {d : D} {v : V}, Reps T F ds vs → Rep T F d v → Reps T F (ds.set i d) (vs.set i v)
  | [], vs, i, d, v, h, k => by
    simp only [Reps] at h
    subst h
    simp [Reps]
  | x :: ds, vs, 0, d, v, h, k => by
    simp only [Reps] at h
    obtain ⟨u, r, rfl, h1, h2⟩ := h
    exact Reps.cons k h2
  | x :: ds, vs, i + 1, d, v, h, k => by
    simp only [Reps] at h
    obtain ⟨u, r, rfl, h1, h2⟩ := h
    exact Reps.cons h1 (Reps.set i h2 k)
theorem Reps.erase : ∀ {ds : List D} {vs : List V} (i : Nat), Reps T F ds vs → Reps T F (ds.eraseIdx i) (vs.eraseIdx i)
  | [], vs, i, h => by
    simp only [Reps] at h
    subst h
    simp [Reps]
  | x :: ds, vs, 0, h => by
    simp only [Reps] at h
    obtain ⟨u, r, rfl, h1, h2⟩ := h
    exact h2
  | x :: ds, vs, i + 1, h => by
    simp only [Reps] at h
    obtain ⟨u, r, rfl, h1, h2⟩ := h
    exact Reps.cons h1 (Reps.erase i h2)
theorem Reps.rev : ∀ {ds : List D} {vs : List V}, Reps T F ds vs → Reps T F ds.reverse vs.reverse
  | [], vs, h => by
    simp only [Reps] at h
    subst h
    simp [Reps]
  | x :: ds, vs, h => by
    simp only [Reps] at h
    obtain ⟨u, r, rfl, h1, h2⟩ := h
    rw [List.reverse_cons, List.reverse_cons]
    exact (Reps.rev h2).app (Reps.cons h1 Reps.nil)

/-- a slot's value -/
def RepW (T : Tb) (F : Hp) (A : List Addr) : W → V → Prop
  | .d x, v => Rep T F x v
  | .r k, v => ∃ a, A[k]? = some a ∧ v = .ref a
def ObjRel (T : Tb) (F H : Hp) (a : Addr) : O → Prop
  | .lst ds => F a = none ∧ ∃ vs, H a = some (.lst vs) ∧ Reps T F ds vs
  | .dic t ks ds => F a = none ∧ ∃ vs, Reps T F ds vs ∧ DicH (fun u => H a = some u) t ks vs
  | .fz x => Rep T F x (.ref a)
  | .ins c ns ds => F a = none ∧ ∃ C dx vs, T.cb c = some C ∧ H a = some (.ins C dx (ns.zip vs)) ∧ ns.length = vs.length ∧ Reps T F ds vs
/-- the store stands in the heap -/
structure SRel (T : Tb) (μ : Mu) (H F : Hp) (A : List Addr) : Prop where
  sub : Sub F H
  len : A.length = μ.length
  nod : A.Nodup
  thr : ∀ a, a ∈ A → H a ≠ none
  obj : ∀ (k : Nat) (a : Addr) (o : O), A[k]? = some a → μ[k]? = some o → ObjRel T F H a o
/-- the slots -/
def ERel (T : Tb) (ρ : Env) (σ : L2.St) (F : Hp) (A : List Addr) : Prop :=
  ρ.length = σ.length ∧ ∀ (i : Nat) (w : W), ρ[i]? = some (some w) → ∃ v, σ[i]? = some (some v) ∧ RepW T F A w v
/-- what grows -/
structure Ext (F : Hp) (A : List Addr) (F' : Hp) (A' : List Addr) : Prop where
  sub : Sub F F'
  pre : A <+: A'
theorem Ext.refl (F : Hp) (A : List Addr) : Ext F A F A := ⟨Same.refl F, List.prefix_refl A⟩
theorem Ext.trans {F F1 F2 : Hp} {A A1 A2 : List Addr} (a : Ext F A F1 A1) (b : Ext F1 A1 F2 A2) : Ext F A F2 A2 := ⟨a.sub.trans b.sub, a.pre.trans b.pre⟩
theorem RepW.mono {w : W} {v : V} (e : Ext F A F' A') (h : RepW T F A w v) : RepW T F' A' w v := by
  cases w with
  | d x => exact Rep.mono e.sub x v h
  | r k =>
    obtain ⟨a, h1, h2⟩ := h
    obtain ⟨B, rfl⟩ := e.pre
    exact ⟨a, by rw [List.getElem?_append_left (List.getElem?_eq_some_iff.mp h1).1]; exact h1, h2⟩
theorem ERel.mono {ρ : Env} {σ : L2.St} (e : Ext F A F' A') (h : ERel T ρ σ F A) : ERel T ρ σ F' A' :=
  ⟨h.1, fun i w q => let ⟨v, a, b⟩ := h.2 i w q; ⟨v, a, b.mono e⟩⟩
theorem ERel.set {ρ : Env} {σ : L2.St} {i : Nat} {w : W} {v : V} (h : ERel T ρ σ F A) (r : RepW T F A w v) : ERel T (ρ.set i (some w)) (σ.set i (some v)) F A := by
  refine ⟨by simp [h.1], fun j u q => ?_⟩
  by_cases hj : i = j
  · subst hj
    by_cases hi : i < ρ.length
    · rw [List.getElem?_set_self hi] at q
      cases q
      exact ⟨v, by rw [List.getElem?_set_self (by rw [← h.1]; exact hi)], r⟩
    · rw [List.getElem?_eq_none (by simpa using hi)] at q
      cases q
  · rw [List.getElem?_set_ne hj] at q
    obtain ⟨u', a, b⟩ := h.2 j u q
    exact ⟨u', by rw [List.getElem?_set_ne hj]; exact a, b⟩
theorem ERel.forget {ρ : Env} {σ : L2.St} {i : Nat} (h : ERel T ρ σ F A) : ERel T (ρ.set i none) σ F A := by
  refine ⟨by simp [h.1], fun j u q => ?_⟩
  by_cases hj : i = j
  · subst hj
    by_cases hi : i < ρ.length
    · rw [List.getElem?_set_self hi] at q; cases q
    · rw [List.getElem?_eq_none (by simpa using hi)] at q; cases q
  · rw [List.getElem?_set_ne hj] at q
    exact h.2 j u q

theorem ObjRel.mono {H H' : Hp} {a : Addr} {o : O} (e : Sub F F') (ha : (∀ x, o ≠ .fz x) → F' a = none ∧ H' a = H a) (h : ObjRel T F H a o) : ObjRel T F' H' a o := by
  cases o with
  | lst ds =>
    obtain ⟨h1, h2⟩ := ha (fun x z => nomatch z)
    obtain ⟨_, vs, h3, r⟩ := h
    exact ⟨h1, vs, h2.trans h3, r.mono e⟩
  | dic t ks ds =>
    obtain ⟨h1, h2⟩ := ha (fun x z => nomatch z)
    obtain ⟨_, vs, r, h5⟩ := h
    exact ⟨h1, vs, r.mono e, h5.imp fun u _ z => h2.trans z⟩
  | fz x => exact Rep.mono e x _ h
  | ins c ns ds =>
    obtain ⟨h1, h2⟩ := ha (fun x z => nomatch z)
    obtain ⟨_, C, dx, vs, h3, h4, h5, r⟩ := h
    exact ⟨h1, C, dx, vs, h3, h2.trans h4, h5, r.mono e⟩
theorem ObjRel.thereT {H : Hp} {a : Addr} {o : O} (h : ObjRel T F H a o) (ho : ∀ x, o ≠ .fz x) : ∃ u, H a = some u ∧ Mut (some u) ∧ ∀ xs, u ≠ .tup xs := by
  cases o with
  | lst ds => obtain ⟨_, vs, h3, _⟩ := h; exact ⟨_, h3, trivial, fun _ z => nomatch z⟩
  | dic t ks ds => obtain ⟨_, vs, _, h5⟩ := h; obtain ⟨u, m, n, q, _⟩ := h5.get; exact ⟨u, q, m, n⟩
  | fz x => exact absurd rfl (ho x)
  | ins c ns ds => obtain ⟨_, C, dx, vs, _, h4, _⟩ := h; exact ⟨_, h4, trivial, fun _ z => nomatch z⟩
theorem ObjRel.there {H : Hp} {a : Addr} {o : O} (h : ObjRel T F H a o) (ho : ∀ x, o ≠ .fz x) : ∃ u, H a = some u := let ⟨u, e, _⟩ := h.thereT ho; ⟨u, e⟩
theorem ObjRel.nF {H : Hp} {a : Addr} {o : O} (h : ObjRel T F H a o) (ho : ∀ x, o ≠ .fz x) : F a = none := by
  cases o with
  | lst ds => exact h.1
  | dic t ks ds => exact h.1
  | fz x => exact absurd rfl (ho x)
  | ins c ns ds => exact h.1

variable {H : Hp} {μ : Mu}
/-- a new object that doesn't change -/
theorem SRel.new (s : SRel T μ H F A) {p : Addr} {o : HO} (hp : H p = none) : SRel T μ (upd H p o) (upd F p o) A ∧ Sub F (upd F p o) := by
  have hF : F p = none := s.sub.free hp
  have e : Sub F (upd F p o) := fun b u q => by
    rw [upd_ne (ne_of_none q hF)]
    exact q
  refine ⟨⟨fun b u q => ?_, s.len, s.nod, fun a ha => ?_, fun k a ob h1 h2 => ?_⟩, e⟩
  rotate_left
  · have z := s.thr a ha
    intro q
    by_cases hb : a = p
    · rw [hb, upd_same] at q; cases q
    · rw [upd_ne hb] at q; exact z q
  rotate_left
  · by_cases hb : b = p
    · subst hb
      rw [upd_same] at q ⊢
      exact q
    · rw [upd_ne hb] at q ⊢
      exact s.sub _ _ q
  · have r := s.obj k a ob h1 h2
    refine r.mono e fun ho => ?_
    obtain ⟨u, hu⟩ := r.there ho
    have ne := ne_of_none hu hp
    exact ⟨by rw [upd_ne ne]; exact r.nF ho, upd_ne ne⟩
/-- a new object that may change -/
theorem SRel.alloc (s : SRel T μ H F A) {p : Addr} {o : HO} {ob : O} (hp : H p = none) (r : ObjRel T F (upd H p o) p ob) : SRel T (μ ++ [ob]) (upd H p o) F (A ++ [p]) := by
  have hA : p ∉ A := fun z => s.thr p z hp
  refine ⟨fun b u q => ?_, by simp [s.len], ?_, fun a ha => ?_, fun k a ob' h1 h2 => ?_⟩
  rotate_left 2
  · intro q
    by_cases hb : a = p
    · rw [hb, upd_same] at q; cases q
    · rw [upd_ne hb] at q
      rcases List.mem_append.mp ha with z | z
      · exact s.thr a z q
      · exact hb (by simpa using z)
  rotate_left
  · have q' := s.sub _ _ q
    rw [upd_ne (ne_of_none q' hp)]
    exact q'
  · rw [List.nodup_append]
    exact ⟨s.nod, by simp, fun a ha b hb => by
      have : b = p := by simpa using hb
      subst this
      exact fun z => hA (z ▸ ha)⟩
  · by_cases hk : k < μ.length
    · rw [List.getElem?_append_left (by rw [s.len]; exact hk)] at h1
      rw [List.getElem?_append_left hk] at h2
      have q := s.obj k a ob' h1 h2
      refine q.mono (Same.refl F) fun ho => ⟨q.nF ho, ?_⟩
      obtain ⟨u, hu⟩ := q.there ho
      exact upd_ne (ne_of_none hu hp)
    · have hk' : k = μ.length := by
        have := (List.getElem?_eq_some_iff.mp h2).1
        simp at this
        omega
      subst hk'
      rw [List.getElem?_append_right (Nat.le_refl _)] at h2
      simp at h2
      subst h2
      rw [List.getElem?_append_right (by rw [s.len]; exact Nat.le_refl _), s.len] at h1
      simp at h1
      subst h1
      exact r
theorem nodup_getEq {l : List Addr} (h : l.Nodup) {i j : Nat} {a : Addr} (hi : l[i]? = some a) (hj : l[j]? = some a) : i = j := by
  obtain ⟨h1, e1⟩ := List.getElem?_eq_some_iff.mp hi
  obtain ⟨h2, e2⟩ := List.getElem?_eq_some_iff.mp hj
  exact (List.getElem_inj h).mp (e1.trans e2.symm)
/-- the object k is written -/
theorem SRel.write (s : SRel T μ H F A) {k : Nat} {a : Addr} {o : HO} {ob ob' : O} (ha : A[k]? = some a) (hk : μ[k]? = some ob) (ho : ∀ x, ob ≠ .fz x) (r : ObjRel T F (upd H a o) a ob') : SRel T (μ.set k ob') (upd H a o) F A := by
  have hF := (s.obj k a ob ha hk).nF ho
  refine ⟨fun b u q => ?_, by simp [s.len], s.nod, fun b hb => ?_, fun j b ob2 h1 h2 => ?_⟩
  rotate_left
  · intro q
    by_cases hb' : b = a
    · rw [hb', upd_same] at q; cases q
    · rw [upd_ne hb'] at q
      exact s.thr b hb q
  rotate_left
  · rw [upd_ne (ne_of_none q hF)]
    exact s.sub _ _ q
  · by_cases hj : k = j
    · subst hj
      rw [ha] at h1
      cases h1
      rw [List.getElem?_set_self (List.getElem?_eq_some_iff.mp hk).1] at h2
      cases h2
      exact r
    · rw [List.getElem?_set_ne hj] at h2
      have q := s.obj j b ob2 h1 h2
      refine q.mono (Same.refl F) fun ho2 => ⟨q.nF ho2, upd_ne fun z => hj (nodup_getEq s.nod ha (z ▸ h1))⟩
/-- the object k changes no more -/
theorem SRel.freeze (s : SRel T μ H F A) {k : Nat} {a : Addr} {ob : O} {u : HO} {x : D} (ha : A[k]? = some a) (hk : μ[k]? = some ob) (ho : ∀ x, ob ≠ .fz x) (hu : H a = some u) (r : Rep T (upd F a u) x (.ref a)) :
    SRel T (μ.set k (.fz x)) H (upd F a u) A ∧ Sub F (upd F a u) := by
  have hF := (s.obj k a ob ha hk).nF ho
  have e : Sub F (upd F a u) := fun b w q => by
    rw [upd_ne (ne_of_none q hF)]
    exact q
  refine ⟨⟨fun b w q => ?_, by simp [s.len], s.nod, s.thr, fun j b ob2 h1 h2 => ?_⟩, e⟩
  · by_cases hb : b = a
    · subst hb
      rw [upd_same] at q
      cases q
      exact hu
    · rw [upd_ne hb] at q
      exact s.sub _ _ q
  · by_cases hj : k = j
    · subst hj
      rw [ha] at h1
      cases h1
      rw [List.getElem?_set_self (List.getElem?_eq_some_iff.mp hk).1] at h2
      cases h2
      exact r
    · rw [List.getElem?_set_ne hj] at h2
      have q := s.obj j b ob2 h1 h2
      have ne : b ≠ a := fun z => hj (nodup_getEq s.nod ha (by rw [z] at h1; exact h1))
      refine q.mono e fun ho2 => ⟨?_, rfl⟩
      rw [upd_ne ne]
      exact q.nF ho2
/-- the object k changes no more, and is locked -/
theorem SRel.lock (s : SRel T μ H F A) {k : Nat} {a : Addr} {ob : O} {u : HO} {x : D} (ha : A[k]? = some a) (hk : μ[k]? = some ob) (ho : ∀ x, ob ≠ .fz x) (r : Rep T (upd F a u) x (.ref a)) :
    SRel T (μ.set k (.fz x)) (upd H a u) (upd F a u) A ∧ Sub F (upd F a u) := by
  have hF := (s.obj k a ob ha hk).nF ho
  have e : Sub F (upd F a u) := fun b w q => by
    rw [upd_ne (ne_of_none q hF)]
    exact q
  refine ⟨⟨fun b w q => ?_, by simp [s.len], s.nod, fun b hb z => ?_, fun j b ob2 h1 h2 => ?_⟩, e⟩
  · by_cases hb : b = a
    · subst hb
      rw [upd_same] at q ⊢
      exact q
    · rw [upd_ne hb] at q ⊢
      exact s.sub _ _ q
  · by_cases hb' : b = a
    · rw [hb', upd_same] at z; cases z
    · rw [upd_ne hb'] at z
      exact s.thr b hb z
  · by_cases hj : k = j
    · subst hj
      rw [ha] at h1
      cases h1
      rw [List.getElem?_set_self (List.getElem?_eq_some_iff.mp hk).1] at h2
      cases h2
      exact r
    · rw [List.getElem?_set_ne hj] at h2
      have q := s.obj j b ob2 h1 h2
      have ne : b ≠ a := fun z => hj (nodup_getEq s.nod ha (by rw [z] at h1; exact h1))
      refine q.mono e fun ho2 => ⟨?_, upd_ne ne⟩
      rw [upd_ne ne]
      exact q.nF ho2
/-- the newest objects are forgotten -/
theorem SRel.cut (s : SRel T μ H F A) (n : Nat) : SRel T (μ.take n) H F (A.take n) := by
  refine ⟨s.sub, by simp [s.len], s.nod.sublist (List.take_sublist n A), fun a ha => s.thr a (List.mem_of_mem_take ha), fun k a o h1 h2 => ?_⟩
  rw [List.getElem?_take] at h1 h2
  split at h1
  · rename_i hk
    rw [if_pos hk] at h2
    exact s.obj k a o h1 h2
  · cases h1
end
end PI
/-! PI25: tuple(d), list(d), sorted(d), sorted(xs) as rules of the hand layer. -/
namespace PI
open PySem PySem.Spec PyProof.Rows L2

section
variable {prog : Program} {w : World} {A : Around} {E : Value → Shared → Prop} {s : Shared} {d : Addr} {n : Nat} {P : Nat → Value → Prop} {OK : Heap → Prop}
theorem code_tuple_new_src {Q₁ : Value → Shared → Prop} (K : PySem.W.KdlSrc prog w "dict" d d n P OK) (hh : A.handled = none) (hok : OK s.heap) (hn : n ≤ sizeLine)
    (h : ∀ (h' : Heap) (tk : Nat) (acc : Array Value), (∀ b o, s.heap.get? b = some o → h'.get? b = some o) → ItemsOf P acc n →
      Q₁ (.ref h'.objs.size) { s with heap := h'.push { cls := .type "tuple", data := .seq acc }, toks := tk }) :
    codeAny (model prog w) A (.call (.builtin "tuple.__new__") ⟨[.type "tuple", .ref d], []⟩) (wants Q₁ E) s := by
  refine codeAny_of_tree ?_
  show wpAny _ A.in1 (do checkBuiltinCall "tuple.__new__" ⟨[.type "tuple", .ref d], []⟩; again (.builtin "tuple.__new__" ⟨[.type "tuple", .ref d], []⟩)) _ _ s
  refine wpAny_bind (wpAny_of_eq (F.newCall_tuple_1 _) (wpAny_pure ⟨plainId_quiet F.plain_tuple_new _, codeAny_builtin F.entry_tuple_new ?_⟩))
  rw [Around.under_plainId F.plain_tuple_new _]
  have hsub := sub_tuple_self
  have hinit := init_tuple_lookup
  have hmh := madeHere_tuple
  have hTI : s.TypeIs (.ref d) "dict" := let ⟨o, h1, h2⟩ := K.type _ hok; ⟨o, h1, h2⟩
  have hh1 : A.in1.handled = none := hh
  wp_walk using wpAny_typeOf hTI, PySem.W.kdu_collect (A := A.in1) K hh1 hok hn
  intro h' tk acc hk hacc
  show wpAny _ _ (Builtin.Tuple.tupleExact acc.toList.toArray >>= fun v => ret v) _ _ _
  unfold Builtin.Tuple.tupleExact
  refine wpAny_bind (wpAny_newObj_type ?_ (by show acc.toList.toArray.size ≤ sizeLine; simp only [Array.toArray_toList]; rw [hacc.1]; exact hn))
  refine wpAny_pure ?_
  have e : acc.toList.toArray = acc := by simp
  rw [e]
  exact h h' tk acc hk hacc
theorem call_tuple_src {Q : Value → Shared → Prop} (K : PySem.W.KdlSrc prog w "dict" d d n P OK) (hh : A.handled = none) (hok : OK s.heap) (hn : n ≤ sizeLine)
    (hQ : ∀ (h' : Heap) (tk : Nat) (acc : Array Value), (∀ b o, s.heap.get? b = some o → h'.get? b = some o) → ItemsOf P acc n →
      Q (.ref h'.objs.size) { s with heap := h'.push { cls := .type "tuple", data := .seq acc }, toks := tk }) :
    wpAny (model prog w) A (call (.type "tuple") [.ref d]) Q E s := by
  refine callType_codes (Q₁ := fun obj s₁ => s₁.TypeIs obj "tuple" ∧ Q obj s₁) F.called_tuple (F.typeCall_tuple_1 _) F.entry_object_init
    (code_tuple_new_src (A := A.in1) K hh hok hn fun h' tk acc hk hacc => ⟨⟨_, Heap.get?_push_size _ rfl, rfl⟩, hQ h' tk acc hk hacc⟩) fun obj s₁ h₁ => ?_
  exact ⟨h₁.1, F.args_object_init_2 obj _, object_init_meets F.called_tuple.init.lookup F.called_tuple.made (by decide) prog w A.in1 _ s₁ ⟨h₁.1, rfl, h₁.2⟩⟩
end

/-- what stands at i in the entries -/
theorem keys_acc {P : Program} {w : World} {ks : List (List Key × Addr × Value)} {es : Array DictEntry} {acc : Array Value} (he : es.toList = ks.map (entryOfKey (tupleKind (mixKind P w)))) (l1 : es.size = ks.length)
    (it : ItemsOf (fun i v => ∃ en : DictEntry, es[i]? = some en ∧ v = en.key) acc es.size) : acc.toList = (ks.map fun x => x.2.1).map Value.ref := by
  have hl : acc.toList.length = ks.length := by rw [Array.length_toList, it.1]; exact l1
  apply List.ext_getElem?
  intro j
  rw [List.getElem?_map, List.getElem?_map]
  cases hj : acc.toList[j]? with
  | none =>
    have h1 := List.getElem?_eq_none_iff.mp hj
    rw [List.getElem?_eq_none (by omega)]
    all_goals rfl
  | some v =>
    obtain ⟨en, hen, hv⟩ := it.2 j v (by rw [← Array.getElem?_toList]; exact hj)
    have qe := entry_at he j
    rw [hen] at qe
    cases hb : ks[j]? with
    | none =>
      rw [hb] at qe
      exact nomatch (show some en = none from qe)
    | some b =>
      rw [hb] at qe
      have e2 : en = entryOfKey (tupleKind (mixKind P w)) b := Option.some.inj qe
      rw [hv, e2]
      all_goals rfl
/-- .. of scalars -/
theorem keys_accK {P : Program} {w : World} {kvs : List (Key × V)} {vs : List (Key × Value)} {acc : Array Value} (rk : KV kvs vs) (hacc : ItemsOf (fun i v => ∃ k x, vs[i]? = some (k, x) ∧ (mixKind P w).is k v = true) acc vs.length) : Vals (kvs.map fun kv => kV kv.1) acc.toList := by
  have hl : kvs.length = vs.length := Paired.length rk
  have el : acc.toList.length = acc.size := by simp
  refine vals_of_at (by rw [List.length_map, el, hacc.1, hl]) fun j x w h1 h2 => ?_
  obtain ⟨k, y, hky, hi⟩ := hacc.2 j w (by rw [← Array.getElem?_toList]; exact h2)
  have e1 : (kvs.map (·.1))[j]? = some k := by
    rw [KV.keys rk, List.getElem?_map, hky] <;> rfl
  have e2 : (kvs.map fun kv => kV kv.1)[j]? = some (kV k) := by
    have e3 : (kvs.map fun kv => kV kv.1) = (kvs.map (·.1)).map kV := by rw [List.map_map] <;> rfl
    rw [e3, List.getElem?_map, e1] <;> rfl
  rw [e2] at h1
  cases h1
  exact keyIs_rel hi
section
variable {X : Cx}
theorem call_tuple_dT (hc : X.calm = true) : CallR X (.type "tuple") (fun xs H Q => ∃ d kvs, xs = [V.ref d] ∧ Rd H d (.dT kvs) ∧ ∀ p bs, H p = none → L2.IsKeys H kvs bs → Q (.ref p) (upd H p (.tup (bs.map V.ref)))) := by
  intro pins s σ H xs us Q I r h
  obtain ⟨d, kvs, rfl, hd, q⟩ := h
  obtain ⟨u, rfl, rx⟩ := r.one
  cases rx
  obtain ⟨z, hs, ks, pr, o, es, ep, ho, hx, hdt, he, hn⟩ := (show ObjOk X.prog X.w H s.heap d (.dT kvs) from hd.ok I.hok)
  have l1 : es.size = ks.length := size_of_entries he
  have l2 : kvs.length = ks.length := Paired.length pr
  refine call_tuple_src (kdl_raw hs hx hdt) (I.ok.hd hc) ho (by omega) fun h' tk acc kp it => ?_
  have eb := keys_acc he l1 it
  have rv : Vals ((ks.map fun x => x.2.1).map V.ref) acc.toList := by rw [eb]; exact vals_refs _
  have hz : ((ks.map fun x => x.2.1).map V.ref).length ≤ sizeLine := by rw [List.length_map, List.length_map]; omega
  have I2 : Inv X pins σ H { s with heap := h', toks := tk } := I.kept kp
  refine ⟨.ref h'.objs.size, _, I2.laid (t' := tk) (o := .tup ((ks.map fun x => x.2.1).map V.ref)) (fun c o e => Heap.get?_push_of_some _ e) (Nat.le_refl _) ⟨hz, acc.toList, rv, ?_⟩, rfl, q _ _ (I2.hok.fresh (Nat.le_refl _)) (isKeys_of pr)⟩
  rw [Array.toArray_toList]
  exact IsTup.new _ _
theorem call_tuple_dK (hc : X.calm = true) : CallR X (.type "tuple") (fun xs H Q => ∃ d kvs, xs = [V.ref d] ∧ Rd H d (.dK kvs) ∧ ∀ p, H p = none → Q (.ref p) (upd H p (.tup (kvs.map fun kv => kV kv.1)))) := by
  intro pins s σ H xs us Q I r h
  obtain ⟨d, kvs, rfl, hd, q⟩ := h
  obtain ⟨u, rfl, rx⟩ := r.one
  cases rx
  obtain ⟨z, lo, vs, rk, dd⟩ := dk_rd I.hok hd
  obtain ⟨ep, hat⟩ := dd.dictAt
  have hl : kvs.length = vs.length := Paired.length rk
  refine call_tuple_src (PySem.W.kdl_dict (knd := mixKind X.prog X.w) (kvs := vs) (ep := ep) lo) (I.ok.hd hc) hat (by rw [← hl]; exact z) fun h' tk acc kp hacc => ?_
  have I2 : Inv X pins σ H { s with heap := h', toks := tk } := I.kept kp
  refine ⟨.ref h'.objs.size, _, I2.laid (t' := tk) (o := .tup (kvs.map fun kv => kV kv.1)) (fun c o e => Heap.get?_push_of_some _ e) (Nat.le_refl _) ⟨by rw [List.length_map]; exact z, acc.toList, keys_accK rk hacc, ?_⟩, rfl, q _ (I2.hok.fresh (Nat.le_refl _))⟩
  rw [Array.toArray_toList]
  exact IsTup.new _ _
theorem call_list_dKr (hc : X.calm = true) : CallR X (.type "list") (fun xs H Q => ∃ d kvs, xs = [V.ref d] ∧ Rd H d (.dK kvs) ∧ ∀ p, H p = none → Q (.ref p) (upd H p (.lst (kvs.map fun kv => kV kv.1)))) := by
  intro pins s σ H xs us Q I r h
  obtain ⟨d, kvs, rfl, hd, q⟩ := h
  obtain ⟨u, rfl, rx⟩ := r.one
  cases rx
  obtain ⟨z, lo, vs, rk, dd⟩ := dk_rd I.hok hd
  obtain ⟨ep, hat⟩ := dd.dictAt
  have hl : kvs.length = vs.length := Paired.length rk
  refine PySem.W.kdl_call (PySem.W.kdl_dict (knd := mixKind X.prog X.w) (kvs := vs) (ep := ep) lo) (I.ok.hd hc) hat (by rw [← hl]; exact z) fun h' tk acc' c' hkeep hS hacc => ?_
  refine ⟨.ref s.heap.objs.size, upd H s.heap.objs.size (.lst (kvs.map fun kv => kV kv.1)), I.laid hkeep (Nat.le_refl _) (show ObjOk X.prog X.w _ _ _ (.lst (kvs.map fun kv => kV kv.1)) from ⟨by rw [List.length_map]; exact z, acc'.toList, c', keys_accK rk hacc, ?_⟩), rfl, q _ (I.hok.fresh (Nat.le_refl _))⟩
  rw [Array.toArray_toList]
  exact hS
end
end PI
/-! PI26: zip of two texts (of ASCII signs). -/
namespace PI
open PySem PySem.Spec PyProof.Rows L2

abbrev zsH1 (h : Heap) (x : Str) (t : Tok) : Heap := h.push { cls := .type "str_ascii_iterator", data := .fields #[.str x t, .int 0 0] }
abbrev zsH2 (h : Heap) (x : Str) (t : Tok) (y : Str) (u : Tok) : Heap := (zsH1 h x t).push { cls := .type "str_ascii_iterator", data := .fields #[.str y u, .int 0 0] }
abbrev zsH3 (h : Heap) (x : Str) (t : Tok) (y : Str) (u : Tok) : Heap := (zsH2 h x t y u).push { cls := .type "tuple", data := .seq #[.ref h.objs.size, .ref (zsH1 h x t).objs.size] }
abbrev zsH4 (h : Heap) (x : Str) (t : Tok) (y : Str) (u : Tok) : Heap := (zsH3 h x t y u).push { cls := .type "tuple", data := .seq #[.none, .none] }
abbrev zsH5 (h : Heap) (x : Str) (t : Tok) (y : Str) (u : Tok) : Heap := (zsH4 h x t y u).push { cls := .type "zip", data := .fields #[.none, .bool false, .bool false, .ref (zsH2 h x t y u).objs.size, .ref (zsH3 h x t y u).objs.size] }
theorem meets_zipS_new (x y : Str) (t u : Tok) (hx : x.cps.all (· < 128) = true) (hy : y.cps.all (· < 128) = true) :
    Meets (Builtin.«zip.__new__» ⟨[.type "zip", .str x t, .str y u], []⟩) (fun _ R s => R (.ok (.ret (.ref (zsH4 s.heap x t y u).objs.size))) { s with heap := zsH5 s.heap x t y u }) :=
  .of_wp fun prog w A R s h => by
    obtain ⟨hp, g, d, tk, os⟩ := s
    have hsub := sub_zip
    wp_walk using wpAny_pyIter_ascii hx, wpAny_pyIter_ascii hy
    exact ⟨_, rfl, h⟩
section
variable {prog : Program} {w : World} {A : Around} {E : Value → Shared → Prop} {s : Shared}
theorem call_zipS {x y : Str} {t u : Tok} {Q : Value → Shared → Prop} (hx : x.cps.all (· < 128) = true) (hy : y.cps.all (· < 128) = true)
    (h : ∀ h', IsZip h' (s.heap.objs.size + 4) (s.heap.objs.size + 2) (s.heap.objs.size + 3) .none → IsPair h' (s.heap.objs.size + 2) (.ref s.heap.objs.size) (.ref (s.heap.objs.size + 1)) →
      IsPair h' (s.heap.objs.size + 3) .none .none → h'.IsStrIter s.heap.objs.size "str_ascii_iterator" x t 0 → h'.IsStrIter (s.heap.objs.size + 1) "str_ascii_iterator" y u 0 →
      (∀ c o, s.heap.get? c = some o → h'.get? c = some o) → Q (.ref (s.heap.objs.size + 4)) { s with heap := h' }) :
    wpAny (model prog w) A (call (.type "zip") [.str x t, .str y u]) Q E s := by
  refine callType_new F.called_zip (by decide) (F.typeCall_zip_2 _ _) (F.newCall_zip_2 _ _) (fun obj => F.args_object_init_3 obj _ _) F.entry_zip_new
    (meets_zipS_new x y t u hx hy) ?_
  have z1 : (zsH1 s.heap x t).objs.size = s.heap.objs.size + 1 := Heap.size_push ..
  have z2 : (zsH2 s.heap x t y u).objs.size = s.heap.objs.size + 2 := by rw [Heap.size_push, z1]
  have z3 : (zsH3 s.heap x t y u).objs.size = s.heap.objs.size + 3 := by rw [Heap.size_push, z2]
  have z4 : (zsH4 s.heap x t y u).objs.size = s.heap.objs.size + 4 := by rw [Heap.size_push, z3]
  have g5 : (zsH5 s.heap x t y u).get? (zsH4 s.heap x t y u).objs.size = some _ := Heap.get?_push_size _ rfl
  have g4 : (zsH5 s.heap x t y u).get? (zsH3 s.heap x t y u).objs.size = some _ := Heap.get?_push_of_some _ (Heap.get?_push_size _ rfl)
  have g3 : (zsH5 s.heap x t y u).get? (zsH2 s.heap x t y u).objs.size = some _ := Heap.get?_push_of_some _ (Heap.get?_push_of_some _ (Heap.get?_push_size _ rfl))
  have g2 : (zsH5 s.heap x t y u).get? (zsH1 s.heap x t).objs.size = some _ := Heap.get?_push_of_some _ (Heap.get?_push_of_some _ (Heap.get?_push_of_some _ (Heap.get?_push_size _ rfl)))
  have g1 : (zsH5 s.heap x t y u).get? s.heap.objs.size = some _ := Heap.get?_push_of_some _ (Heap.get?_push_of_some _ (Heap.get?_push_of_some _ (Heap.get?_push_of_some _ (Heap.get?_push_size _ rfl))))
  show _ ∧ _
  rw [z2, z3, z4] at g5
  rw [z1, z2] at g3
  rw [z3] at g4
  rw [z1] at g2
  rw [z4]
  exact ⟨⟨_, g5, rfl⟩, h _ g5 g3 g4 ⟨_, g1, rfl, rfl⟩ ⟨_, g2, rfl, rfl⟩ fun c o x =>
    Heap.get?_push_of_some _ (Heap.get?_push_of_some _ (Heap.get?_push_of_some _ (Heap.get?_push_of_some _ (Heap.get?_push_of_some _ x))))⟩
end
/-- the signs of two texts, in new pairs -/
def ItzS (x y : Str) : It :=
  ⟨fun i H => i < x.cps.size ∧ i < y.cps.size,
    fun i H v H' => ∃ T c d, v = .ref T ∧ H T = none ∧ H' = upd H T (.tup [.str ⟨#[c]⟩, .str ⟨#[d]⟩]) ∧ x.cps[i]? = some c ∧ y.cps[i]? = some d,
    fun i H => i ≤ x.cps.size ∧ i ≤ y.cps.size ∧ (i = x.cps.size ∨ i = y.cps.size)⟩
theorem turn_zipS {P : Program} {w : World} {K : PySem.W.Frag} {elts : List Expr} {kk : Nat} {tpos : Pos} {x y : Str} {t u : Tok} {z TI TO i1 i2 : Addr} (S : ZipSep2 z TI TO i1 i2 [i1] [i2]) :
    Turn P w K (.Tuple elts kk tpos) (ItzS x y) [z, TI, TO, i1, i2] z (fun i h => IsZip h z TI TO .none ∧ IsPair h TI (.ref i1) (.ref i2) ∧ (∃ x y, IsPair h TO x y) ∧ h.IsStrIter i1 "str_ascii_iterator" x t i ∧ h.IsStrIter i2 "str_ascii_iterator" y u i) where
  mem := by simp
  obj := fun i h st c hc => by
    obtain ⟨hz, hTI, ⟨x, y, hTO⟩, ⟨o1, e1, _, d1⟩, ⟨o2, e2, _, d2⟩⟩ := st
    have e' : c = z ∨ c = TI ∨ c = TO ∨ c = i1 ∨ c = i2 := by simpa using hc
    rcases e' with q | q | q | q | q
    · rw [q]; exact ⟨_, hz, fun v q => nomatch q⟩
    · rw [q]; exact ⟨_, hTI, fun v q => nomatch q⟩
    · rw [q]; exact ⟨_, hTO, fun v q => nomatch q⟩
    · rw [q]; exact ⟨o1, e1, fun v q => by rw [d1] at q; cases q⟩
    · rw [q]; exact ⟨o2, e2, fun v q => by rw [d2] at q; cases q⟩
  keep := fun i h h' st k => by
    obtain ⟨hz, hTI, ⟨x, y, hTO⟩, ⟨o1, e1, r1⟩, ⟨o2, e2, r2⟩⟩ := st
    exact ⟨k z (by simp) _ hz, k TI (by simp) _ hTI, ⟨x, y, k TO (by simp) _ hTO⟩, ⟨o1, k i1 (by simp) o1 e1, r1⟩, ⟨o2, k i2 (by simp) o2 e2, r2⟩⟩
  item := by
    intro X hP hw hK hc i pins s σ H E I hf st hg
    subst hP hw hK
    obtain ⟨hz, hTI, ⟨x0, y0, hTO⟩, h1, h2⟩ := st
    have hzl : z < s.heap.objs.size := Heap.lt_size hz
    refine wpAny_pyNext_zipD2_item (St1 := fun i h => h.IsStrIter i1 "str_ascii_iterator" x t i) (St2 := fun i h => h.IsStrIter i2 "str_ascii_iterator" y u i) S (Draws.strAscii (A := X.A.in1) (show X.A.in1.handled = none from I.ok.hd hc) i1 x t) (Draws.strAscii (A := X.A.in1) (show X.A.in1.handled = none from I.ok.hd hc) i2 y u) hz hTI hTO h1 h2 hg.1 hg.2 fun v1 v2 h' tk p1 p2 z' TO' h1' h2' hT hsz hk => ?_
    obtain ⟨c, tc, hcx, rfl⟩ := p1
    obtain ⟨d, td, hdy, rfl⟩ := p2
    refine ⟨_, rfl, wpAny_letOwnedTupleGo_zip (s := { s with heap := h', toks := tk }) z' fun h'' z'' sb => ?_⟩
    have hT2 : h''.get? s.heap.objs.size = some { cls := .type "tuple", data := .seq #[.str ⟨#[c]⟩ tc, .str ⟨#[d]⟩ td] } := (sb.2 _ (Nat.ne_of_gt hzl)).trans hT
    have new : ObjOk X.prog X.w (upd H s.heap.objs.size (.tup [.str ⟨#[c]⟩, .str ⟨#[d]⟩])) h'' s.heap.objs.size (.tup [.str ⟨#[c]⟩, .str ⟨#[d]⟩]) :=
      ⟨by show 2 ≤ sizeLine; decide, [.str ⟨#[c]⟩ tc, .str ⟨#[d]⟩ td], .cons ⟨tc, rfl⟩ (.cons ⟨td, rfl⟩ .nil), ⟨_, hT2, rfl, _, rfl⟩⟩
    have I1 : Inv X pins σ (upd H s.heap.objs.size (.tup [.str ⟨#[c]⟩, .str ⟨#[d]⟩])) { s with heap := h'', toks := tk } :=
      I.turnedNew (t' := tk) (ch := [z, TI, TO, i1, i2]) (fun c o hb q => (sb.2 c (fun q' => hb (by simp [q']))).trans (hk c o (fun q' => hb (by simp [q'])) (fun q' => hb (by simp [q'])) (fun q' => hb (by simp [q'])) (fun q' => hb (by simp [q'])) q)) hf (Nat.le_refl _) new
    refine ⟨.ref s.heap.objs.size, _, I1, rfl, ⟨_, c, d, rfl, I.hok.fresh (Nat.le_refl _), rfl, hcx, hdy⟩, ⟨z'', ?_, ⟨.str ⟨#[c]⟩ tc, .str ⟨#[d]⟩ td, ?_⟩, ?_, ?_⟩, fun c hcm => ?_⟩
    · exact (sb.2 _ S.TIz).trans (hk _ _ S.TIz S.TITO S.TIi1 S.TIi2 hTI)
    · exact (sb.2 _ S.TOz).trans TO'
    · obtain ⟨o1, e1, r1⟩ := h1'
      exact ⟨o1, (sb.2 _ S.zi1.symm).trans e1, r1⟩
    · obtain ⟨o2, e2, r2⟩ := h2'
      exact ⟨o2, (sb.2 _ S.zi2.symm).trans e2, r2⟩
    · have hlt : c < s.heap.objs.size := by
        have e' : c = z ∨ c = TI ∨ c = TO ∨ c = i1 ∨ c = i2 := by simpa using hcm
        rcases e' with q | q | q | q | q
        · rw [q]; exact hzl
        · rw [q]; exact Heap.lt_size hTI
        · rw [q]; exact Heap.lt_size hTO
        · rw [q]; obtain ⟨_, e1, _⟩ := h1; exact Heap.lt_size e1
        · rw [q]; obtain ⟨_, e2, _⟩ := h2; exact Heap.lt_size e2
      rw [upd_ne (Nat.ne_of_lt hlt)]
      exact (hf c hcm).1
  done := by
    intro X hP hw hK hc i pins s σ H E I hf st hg
    subst hP hw hK
    obtain ⟨hz, hTI, ⟨x0, y0, hTO⟩, h1, h2⟩ := st
    exact wpAny_pyNext_zipD2_end (St1 := fun i h => h.IsStrIter i1 "str_ascii_iterator" x t i) (St2 := fun i h => h.IsStrIter i2 "str_ascii_iterator" y u i) S (Draws.strAscii (A := X.A.in1) (show X.A.in1.handled = none from I.ok.hd hc) i1 x t) (Draws.strAscii (A := X.A.in1) (show X.A.in1.handled = none from I.ok.hd hc) i2 y u) hz hTI hTO h1 h2 hg.1 hg.2.1 hg.2.2 fun h' tk hk => ⟨rfl, I.turnedL (t' := tk) (ch := [z, TI, TO, i1, i2]) (fun c o hb q =>
      hk c o (fun q' => hb (by simp [q'])) (fun q' => hb (by simp [q'])) (fun q' => hb (by simp [q'])) (fun q' => hb (by simp [q'])) q) hf⟩
  self := fun A i s Q E st h => wpAny_pyIter_zip st.1 h
theorem zs_apart (n : Nat) : ZipSep2 (n + 4) (n + 2) (n + 3) n (n + 1) [n] [n + 1] := by
  refine ⟨?_, ?_, ?_, ?_, ?_, ?_, ?_, ?_, ?_, ?_, ?_, ?_, ?_⟩ <;> (try simp only [List.mem_singleton]) <;> (show _ ) <;> (first | rfl | (intro z; have z' : (_ : Nat) = _ := z; omega))
/-- zip of two lists, two tuples, two texts -/
def iZipB (K : PySem.W.Frag) (ta : TA) : TI := fun σ H R => ta σ H fun vs H1 => (∃ a b xs ys, vs = [.ref a, .ref b] ∧ ((SqL K H1 a xs ∧ SqL K H1 b ys ∧ R (Itz K a b) H1) ∨ (SqT K H1 a xs ∧ SqT K H1 b ys ∧ R (RZ.ItzT K a b) H1))) ∨
  ∃ x y : Str, vs = [.str x, .str y] ∧ x.cps.all (· < 128) = true ∧ y.cps.all (· < 128) = true ∧ R (ItzS x y) H1
theorem pi_zipB {X : Cx} {e e2 : Expr} {ta : TA} {p pos tpos : Pos} {elts : List Expr} {kk : Nat} (hg : Gl X "zip") (hm : X.mg "zip" = none) (ha : PA X [e, e2] ta)
    (hs : starEach [e, e2] X.env = (false, eval e X.env) :: starEach [e2] X.env) (hpl : (backTo pos (starEach [e2] X.env)).any (·.1) = false) :
    L2.PI X (.Tuple elts kk tpos) (.Call (.Name "zip" p) [e, e2] [] pos) (iZipB X.K ta) := by
  refine ⟨fun pins s σ H R I h => ?_⟩
  refine Call_ (ld_blt I hg hm PyProof.Rows.boot_zip (PyProof.Rows.callWith_type1 (thn (ha.run pos pins s σ H _ I h) fun us s1 ⟨vs, H1, I1, r1, q1⟩ => ?_) hs hpl))
  have fresh5 : ∀ c, c ∈ [s1.heap.objs.size + 4, s1.heap.objs.size + 2, s1.heap.objs.size + 3, s1.heap.objs.size, s1.heap.objs.size + 1] → FpOk X pins H1 c := fun c hcm => by
    have e' : c = s1.heap.objs.size + 4 ∨ c = s1.heap.objs.size + 2 ∨ c = s1.heap.objs.size + 3 ∨ c = s1.heap.objs.size ∨ c = s1.heap.objs.size + 1 := by simpa using hcm
    have hle : s1.heap.objs.size ≤ c := by
      rcases e' with z | z | z | z | z
      · rw [z]; exact Nat.le_add_right _ _
      · rw [z]; exact Nat.le_add_right _ _
      · rw [z]; exact Nat.le_add_right _ _
      · rw [z]; exact Nat.le_refl _
      · rw [z]; exact Nat.le_add_right _ _
    exact I1.fpOk hle (I1.hok.fresh hle)
  rcases q1 with ⟨a, b, xs, ys, ex, q1⟩ | ⟨x, y, ex, ax, ay, q⟩
  · subst ex
    cases r1 with
    | cons r rr =>
      cases rr with
      | cons r' rr =>
        cases rr
        cases r
        cases r'
        rcases q1 with ⟨hqx, hqy, q⟩ | ⟨hqx, hqy, q⟩
        · obtain ⟨its, rv, p1, _⟩ := I1.list hqx
          obtain ⟨its2, rv2, p2, _⟩ := I1.list hqy
          refine call_zip_2 p1.isList p2.isList fun h' hz hTI hTO h1 h2 hsz hk => wpAny_pyIter_zip hz ?_
          have I2 : Inv X pins σ H1 { s1 with heap := h' } := I1.kept (t' := s1.toks) hk
          exact ⟨s1.heap.objs.size + 4, [s1.heap.objs.size + 4, s1.heap.objs.size + 2, s1.heap.objs.size + 3, s1.heap.objs.size, s1.heap.objs.size + 1], _, _, H1, rfl, I2, turn_zip (PySem.W.ktu_apart s1.heap.objs.size a b p1.lt p2.lt), ⟨hz, hTI, ⟨_, _, hTO⟩, h1, h2⟩, fresh5, q⟩
        · obtain ⟨its, rv, p1, _⟩ := I1.tuple hqx
          obtain ⟨its2, rv2, p2, _⟩ := I1.tuple hqy
          obtain ⟨o1, ho1, _⟩ := id p1
          obtain ⟨o2, ho2, _⟩ := id p2
          refine RZ.call_zipT (show s1.heap.IsTuple a its.toArray from p1) (show s1.heap.IsTuple b its2.toArray from p2) fun h' hz hTI hTO h1 h2 hsz hk => wpAny_pyIter_zip hz ?_
          have I2 : Inv X pins σ H1 { s1 with heap := h' } := I1.kept (t' := s1.toks) hk
          exact ⟨s1.heap.objs.size + 4, [s1.heap.objs.size + 4, s1.heap.objs.size + 2, s1.heap.objs.size + 3, s1.heap.objs.size, s1.heap.objs.size + 1], _, _, H1, rfl, I2, RZ.turn_zipT (PySem.W.ktu_apart s1.heap.objs.size a b (Heap.lt_size ho1) (Heap.lt_size ho2)), ⟨hz, hTI, ⟨_, _, hTO⟩, h1, h2⟩, fresh5, q⟩
  · subst ex
    cases r1 with
    | cons r rr =>
      cases rr with
      | cons r' rr =>
        cases rr
        obtain ⟨t, rfl⟩ := r
        obtain ⟨u, rfl⟩ := r'
        refine call_zipS ax ay fun h' hz hTI hTO h1 h2 hk => wpAny_pyIter_zip hz ?_
        have I2 : Inv X pins σ H1 { s1 with heap := h' } := I1.kept (t' := s1.toks) hk
        have S : ZipSep2 (s1.heap.objs.size + 4) (s1.heap.objs.size + 2) (s1.heap.objs.size + 3) s1.heap.objs.size (s1.heap.objs.size + 1) [s1.heap.objs.size] [s1.heap.objs.size + 1] :=
          zs_apart _
        exact ⟨s1.heap.objs.size + 4, [s1.heap.objs.size + 4, s1.heap.objs.size + 2, s1.heap.objs.size + 3, s1.heap.objs.size, s1.heap.objs.size + 1], _, _, H1, rfl, I2, turn_zipS S, ⟨hz, hTI, ⟨_, _, hTO⟩, h1, h2⟩, fresh5, q⟩
end PI
/-! PI31: enumerate of a list, of a tuple. -/
namespace PI
open PySem PySem.Spec PyProof.Rows L2
theorem meets_enumT (a : Addr) (items : Array Value) :
    Meets (Builtin.«enumerate.__new__» ⟨[.type "enumerate", .ref a], []⟩) (fun _ R s => s.heap.IsTuple a items ∧
      R (.ok (.ret (.ref (s.heap.push { cls := .type "tuple_iterator", data := .fields #[.ref a, .int 0 0] }).objs.size)))
        { s with heap := (s.heap.push { cls := .type "tuple_iterator", data := .fields #[.ref a, .int 0 0] }).push { cls := .type "enumerate", data := .fields #[.none, .bool false, .ref s.heap.objs.size, rawInt 0, .none, .none] } }) :=
  .of_wp fun prog w A R s hh => by
    obtain ⟨h0, h⟩ := hh
    obtain ⟨hp, g, d, tk, os⟩ := s
    have hsub := sub_enumerate
    have q1 : ∀ {A' : Around} {E : Value → Shared → Prop} {Q : Value → Shared → Prop}, Q (.ref hp.objs.size) ⟨hp.push { cls := .type "tuple_iterator", data := .fields #[.ref a, .int 0 0] }, g, d, tk, os⟩ → wpAny (model prog w) A' (pyIter (.ref a)) Q E ⟨hp, g, d, tk, os⟩ :=
      fun q => (begins_tuple a items).iter prog w _ _ ⟨hp, g, d, tk, os⟩ _ h0 q
    wp_walk using q1
    refine wpAny_stack_any fun st => wpAny_pure ?_
    split
    · rename_i c _ _ _ _ _
      by_cases hc : (c == Value.type "enumerate") = true
      · rw [hc]
        wp_walk using q1
        exact ⟨_, rfl, h⟩
      · rw [show (c == Value.type "enumerate") = false by simpa using hc]
        wp_walk using q1
        exact ⟨_, rfl, h⟩
    · wp_walk using q1
      exact ⟨_, rfl, h⟩
section
variable {prog : Program} {w : World} {A : Around} {E : Value → Shared → Prop} {s : Shared}
theorem call_enumT {a : Addr} {items : Array Value} {Q : Value → Shared → Prop} (ht : s.heap.IsTuple a items)
    (h : ∀ h', IsEnum h' (s.heap.objs.size + 1) s.heap.objs.size 0 .none → h'.IsTupleIter s.heap.objs.size a 0 → (∀ b o, s.heap.get? b = some o → h'.get? b = some o) → Q (.ref (s.heap.objs.size + 1)) { s with heap := h' }) :
    wpAny (model prog w) A (call (.type "enumerate") [.ref a]) Q E s := by
  refine callType_new F.called_enumerate (by decide) (F.typeCall_enumerate_1 _) (F.newCall_enumerate_1 _) (fun obj => F.args_object_init_2 obj _) F.entry_enumerate_new (meets_enumT a items) ⟨ht, ?_⟩
  have hz : (s.heap.push { cls := .type "tuple_iterator", data := .fields #[.ref a, .int 0 0] }).objs.size = s.heap.objs.size + 1 := Heap.size_push ..
  show _ ∧ _
  rw [hz]
  have he : IsEnum ((s.heap.push { cls := .type "tuple_iterator", data := .fields #[.ref a, .int 0 0] }).push { cls := .type "enumerate", data := .fields #[.none, .bool false, .ref s.heap.objs.size, rawInt 0, .none, .none] }) (s.heap.objs.size + 1) s.heap.objs.size 0 .none := by
    have z := Heap.get?_push_size (s.heap.push { cls := .type "tuple_iterator", data := .fields #[.ref a, .int 0 0] }) (o := { cls := .type "enumerate", data := .fields #[.none, .bool false, .ref s.heap.objs.size, rawInt 0, .none, .none] }) rfl
    rw [hz] at z
    exact z
  refine ⟨⟨_, he, rfl⟩, h _ he ⟨_, Heap.get?_push_of_some _ (Heap.get?_push_size _ rfl), rfl, rfl⟩ fun b o x => Heap.get?_push_of_some _ (Heap.get?_push_of_some _ x)⟩
end
/-- the tuple at a, each item in a new pair -/
def IteT (K : PySem.W.Frag) (a : Addr) : It :=
  ⟨fun i H => ∃ (xs : List V) (x : V), SqT K H a xs ∧ xs[i]? = some x, fun i H v H' => ∃ T x, v = .ref T ∧ H T = none ∧ H' = upd H T (.tup [.int (i : Nat), x]) ∧ ∀ xs, SqT K H a xs → xs[i]? = some x, fun i H => ∃ xs : List V, SqT K H a xs ∧ xs.length = i⟩
theorem turn_enumT {P : Program} {w : World} {K : PySem.W.Frag} {elts : List Expr} {kk : Nat} {tpos : Pos} (a e it : Addr) (items : Array Value) (hei : e ≠ it) (hea : a ≠ e) (hia : a ≠ it) :
    Turn P w K (.Tuple elts kk tpos) (IteT K a) [e, it] e (fun i h => (∃ old, IsEnum h e it ((i : Nat) : Int) old) ∧ h.IsTupleIter it a i) where
  mem := by simp
  obj := fun i h st b hb => by
    obtain ⟨⟨old, he⟩, ⟨o, ho, hc, hd⟩⟩ := st
    have e' : b = e ∨ b = it := by simpa using hb
    rcases e' with z | z
    · rw [z]; exact ⟨_, he, fun v q => nomatch q⟩
    · rw [z]; exact ⟨o, ho, fun v q => by rw [hd] at q; cases q⟩
  keep := fun i h h' st k => by
    obtain ⟨⟨old, he⟩, hi⟩ := st
    exact ⟨⟨old, k e (by simp) _ he⟩, hi.at fun o q => k it (by simp) o q⟩
  item := by
    intro X hP hw hK hc i pins s σ H E I hf st hg
    subst hP hw hK
    obtain ⟨⟨old, he⟩, hit⟩ := st
    obtain ⟨xs, x, hq, hx⟩ := hg
    obtain ⟨its, rv, p, hz⟩ := I.tuple hq
    obtain ⟨u, hu, ru⟩ := rv.get hx
    have hel : e < s.heap.objs.size := Heap.lt_size he
    have hil : it < s.heap.objs.size := by obtain ⟨_, q, _⟩ := hit; exact Heap.lt_size q
    have D := Draws.tuple (prog := X.prog) (w := X.w) (A := X.A.in1) (show X.A.in1.handled = none from I.ok.hd hc) it a hia its.toArray
    have hlt : i < its.toArray.size := by
      rw [List.size_toArray]
      exact (List.getElem?_eq_some_iff.mp hu).1
    refine wpAny_pyNext_enum_itemC D he ⟨hit, show s.heap.IsTuple a its.toArray from p⟩ hlt hei (by simp [hei, Ne.symm hea]) fun y h' tk hy ho hs' hT hsz hk => ?_
    have hyu : y = u := by
      rw [List.getElem?_toArray] at hy
      rw [hu] at hy
      exact (Option.some.inj hy).symm
    subst hyu
    refine ⟨_, rfl, wpAny_letOwnedTupleGo_enum (s := { s with heap := h', toks := tk + 1 }) ho fun h'' he' sb => ?_⟩
    have hT2 : h''.get? s.heap.objs.size = some { cls := .type "tuple", data := .seq #[.int i tk, y] } := (sb.2 _ (Nat.ne_of_gt hel)).trans hT
    have new : ObjOk X.prog X.w (upd H s.heap.objs.size (.tup [.int (i : Nat), x])) h'' s.heap.objs.size (.tup [.int (i : Nat), x]) :=
      ⟨by show 2 ≤ sizeLine; decide, [.int i tk, y], .cons ⟨_, rfl⟩ (.cons ru .nil), ⟨_, hT2, rfl, _, rfl⟩⟩
    have I1 : Inv X pins σ (upd H s.heap.objs.size (.tup [.int (i : Nat), x])) { s with heap := h'', toks := tk + 1 } :=
      I.turnedNew (t' := tk + 1) (ch := [e, it]) (fun b ob hb q => (sb.2 b (fun z => hb (by simp [z]))).trans (hk b ob (fun z => hb (by simp [z])) (fun z => hb (by simp [z])) q)) hf (Nat.le_refl _) new
    refine ⟨.ref s.heap.objs.size, _, I1, rfl, ⟨_, x, rfl, I.hok.fresh (Nat.le_refl _), rfl, fun ys hy => by rw [I.tuple_inj hy hq]; exact hx⟩, ⟨⟨y, ?_⟩, hs'.1.at fun o q => (sb.2 it (Ne.symm hei)).trans q⟩, fun b hb => ?_⟩
    · have e1 : ((i + 1 : Nat) : Int) = (i : Int) + 1 := by omega
      rw [e1]
      exact he'
    · have hb' : b < s.heap.objs.size := by
        have e' : b = e ∨ b = it := by simpa using hb
        rcases e' with z | z
        · rw [z]; exact hel
        · rw [z]; exact hil
      rw [upd_ne (Nat.ne_of_lt hb')]
      exact (hf b hb).1
  done := by
    intro X hP hw hK hc i pins s σ H E I hf st hg
    subst hP hw hK
    obtain ⟨⟨old, he⟩, hit⟩ := st
    obtain ⟨xs, hq, hx⟩ := hg
    obtain ⟨its, rv, p, hz⟩ := I.tuple hq
    obtain ⟨f0, f1, f2, f3, f4, f5⟩ := hf it (by simp)
    have hl := rv.length
    have D := Draws.tuple (prog := X.prog) (w := X.w) (A := X.A.in1) (show X.A.in1.handled = none from I.ok.hd hc) it a hia its.toArray
    have hi : i = its.toArray.size := by
      rw [List.size_toArray]
      omega
    subst hi
    exact wpAny_pyNext_enum_endD D he ⟨hit, show s.heap.IsTuple a its.toArray from p⟩ fun h' eb => ⟨rfl, I.turned (t' := s.toks) (fun b o hb q => eb b o hb q) f0 f1 f3 f4 f5⟩
  self := fun A i s Q E st h => let ⟨⟨_, he⟩, _⟩ := st; wpAny_pyIter_enum he h
/-- enumerate of a list, of a tuple -/
def iEnumB (K : PySem.W.Frag) (ta : TA) : TI := fun σ H R => ta σ H fun vs H1 => ∃ a xs, vs = [.ref a] ∧ ((SqL K H1 a xs ∧ R (Ite K a) H1) ∨ (SqT K H1 a xs ∧ R (IteT K a) H1))
theorem pi_enumB {X : Cx} {e : Expr} {ta : TA} {p pos tpos : Pos} {elts : List Expr} {kk : Nat} (hg : Gl X "enumerate") (hm : X.mg "enumerate" = none) (ha : PA X [e] ta) (hs : starEach [e] X.env = [(false, eval e X.env)]) :
    L2.PI X (.Tuple elts kk tpos) (.Call (.Name "enumerate" p) [e] [] pos) (iEnumB X.K ta) := by
  refine ⟨fun pins s σ H R I h => ?_⟩
  refine Call_ (ld_blt I hg hm PyProof.Rows.boot_enumerate (PyProof.Rows.callWith_type1 (thn (ha.run pos pins s σ H _ I h) fun us s1 ⟨vs, H1, I1, r1, q1⟩ => ?_) hs rfl))
  obtain ⟨a, xs, ex, q1⟩ := q1
  subst ex
  cases r1 with
  | cons r rr =>
    cases rr
    cases r
    have fresh : ∀ b ∈ [s1.heap.objs.size + 1, s1.heap.objs.size], FpOk X pins H1 b := fun b hb => by
      have e' : b = s1.heap.objs.size + 1 ∨ b = s1.heap.objs.size := by simpa using hb
      have hle : s1.heap.objs.size ≤ b := by
        rcases e' with z | z <;> rw [z]
        · exact Nat.le_add_right _ _
        · exact Nat.le_refl _
      exact I1.fpOk hle (I1.hok.fresh hle)
    rcases q1 with ⟨hq, q⟩ | ⟨hq, q⟩
    · obtain ⟨its, rv, p', hz⟩ := I1.list hq
      refine call_enumerate_list p'.isList fun h' he hit hsz hk => wpAny_pyIter_enum he ?_
      have I2 : Inv X pins σ H1 { s1 with heap := h' } := I1.kept (t' := s1.toks) hk
      exact ⟨s1.heap.objs.size + 1, [s1.heap.objs.size + 1, s1.heap.objs.size], _, _, H1, rfl, I2, turn_enum a (s1.heap.objs.size + 1) s1.heap.objs.size, ⟨⟨.none, he⟩, hit, Nat.succ_ne_self _⟩, fresh, q⟩
    · obtain ⟨its, rv, p', hz⟩ := I1.tuple hq
      have hlt : a < s1.heap.objs.size := by
        obtain ⟨o, ho, _⟩ := p'
        exact Heap.lt_size ho
      refine call_enumT (show s1.heap.IsTuple a its.toArray from p') fun h' he hit hk => wpAny_pyIter_enum he ?_
      have I2 : Inv X pins σ H1 { s1 with heap := h' } := I1.kept (t' := s1.toks) hk
      exact ⟨s1.heap.objs.size + 1, [s1.heap.objs.size + 1, s1.heap.objs.size], _, _, H1, rfl, I2, turn_enumT a (s1.heap.objs.size + 1) s1.heap.objs.size its.toArray (Nat.succ_ne_self _) (Nat.ne_of_lt (Nat.lt_succ_of_lt hlt)) (Nat.ne_of_lt hlt), ⟨⟨.none, he⟩, hit⟩, fresh, q⟩
end PI
/-! PI2: a small language of its own (IE, IS) over data, and what it does. -/
namespace PI
open PySem PySem.Spec PyProof.Rows L2

/-! ### data and the library's data -/
mutual
def D.py : D → Option PyData
  | .non => some .none
  | .bl b => some (.bool b)
  | .int i => some (.int i)
  | .str s => some (.str s)
  | .tup xs => (pys xs).map .tuple
  | .lst xs => (pys xs).map .list
  | _ => none
def pys : List D → Option (List PyData)
  | [] => some []
  | x :: r => match x.py, pys r with
    | some a, some b => some (a :: b)
    | _, _ => none
end

/-- the types that isinstance is asked about -/
inductive Ty where
  | tint | tbool | tstr | tlist | ttuple | tdict | own (c : Str) | valueError | lookupError
deriving DecidableEq

inductive Op where
  | add | sub | mul | fdiv | mod | pow | neg | not
  | eq | ne | lt | le | gt | ge | isN | isnotN | in_ | notin
  | ix
  | len | list | tuple | int | abs | str | all | any | min2 | max2 | sum
  | isi (ts : List Ty) | isx (l : List Str) | sorted | join | split | starts | replace | isb | isnb
deriving DecidableEq

inductive Tg where
  | one (i : Nat) | tup (is : List Nat)

mutual
inductive IE where
  | var (i : Nat)
  | cst (d : D)
  | op (o : Op) (es : List IE)
  | tup (es : List IE)
  | lst (es : List IE)
  | and (a b : IE)
  | or (a b : IE)
  | ite (c a b : IE)
  | lc (vs : List Nat) (t : Tg) (it : IT) (cs : List IE) (e : IE)
  | lc2 (vs vs1 : List Nat) (t : Tg) (it : IT) (cs : List IE) (t1 : Tg) (it1 : IT) (cs1 : List IE) (e : IE)
  | call (f : Str) (es : List IE)
  | callK (f : Str) (pm : List Nat) (es : List IE)
  | callv (a : IE) (es : List IE)
  | fld (f : Str) (e : IE)
  | m1 (o : Op) (a b : IE)
  | fs (es : List IE)
  | chain (o1 o2 : Op) (a b c : IE)
  | pop0 (o : IE)
  | pop1 (o i : IE)
  | sl (fl fh : Bool) (a lo hi : IE)
  | dnew (t : Bool)
  | newr (e : IE)
  | lrng (tp : Bool) (a : IE)
  | rep (a : IE) (y z : Str)
  | fldi (f : Str) (e : IE)
  | prop (c q : Str) (e : IE)
inductive IT where
  | seq (e : IE)
  | rng1 (a : IE)
  | rng2 (a b : IE)
  | enu (e : IE)
  | zip (a b : IE)
  | rvr1 (a : IE)
end
inductive IS where
  | set (t : Tg) (e : IE)
  | setm (i : Nat) (e : IE)
  | expr (e : IE)
  | app (o : IE) (e : IE)
  | set2 (i j : Nat) (a b : IE)
  | set3 (i j l : Nat) (a b c : IE)
  | ret (e : IE)
  | retm (e : IE)
  | retN
  | ife (c : IE) (a b : List IS)
  | for_ (t : Tg) (it : IT) (b : List IS)
  | while_ (c : IE) (b : List IS)
  | setix (o i v : IE)
  | aug (i : Nat) (o : Op) (e : IE)
  | tryr (b : List IS) (l : List Str) (k : Bool)
  | raise (c : Str) (es : List IE)
  | raiseK (c : Str) (pm : List Nat) (es : List IE)
  | try_ (b : List IS) (l : List Str) (i j : Nat)
  | setf (i : Nat) (f : Str) (e : IE)
  | brk | cont

/-! ### what comes out -/
inductive X1 (α : Type) where
  | ok (a : α) (m : Mu)
  | er (e : D) (m : Mu)
abbrev R (α : Type) := Option (X1 α)
def R.bind {α β : Type} (r : R α) (f : α → Mu → R β) : R β :=
  match r with
  | none => none
  | some (.er e m) => some (.er e m)
  | some (.ok a m) => f a m
abbrev rok {α : Type} (a : α) (m : Mu) : R α := some (.ok a m)
def R.of {α : Type} (o : Option α) (m : Mu) : R α := o.map fun a => .ok a m

/-- what a slot's value is now -/
def view (μ : Mu) : W → Option D
  | .d x => some x
  | .r k => match μ[k]? with
    | some (.lst xs) => some (.lst xs)
    | some (.dic t ks vs) => some (.dic t ks vs)
    | some (.fz x) => some x
    | some (.ins _ _ _) => none
    | none => none
def views (μ : Mu) : List W → Option (List D)
  | [] => some []
  | w :: r => match view μ w, views μ r with
    | some a, some b => some (a :: b)
    | _, _ => none
/-- as data for good: an object of the store changes no more -/
def toD (w : W) (μ : Mu) : Option (D × Mu) :=
  match w with
  | .d x => some (x, μ)
  | .r k => match μ[k]? with
    | some (.lst xs) => some (.lst xs, μ.set k (.fz (.lst xs)))
    | some (.dic _ _ _) => none
    | some (.fz x) => some (x, μ)
    | some (.ins c ns vs) => some (.ins c ns vs, μ.set k (.fz (.ins c ns vs)))
    | none => none
def toDs : List W → Mu → Option (List D × Mu)
  | [], μ => some ([], μ)
  | w :: r, μ => match toD w μ with
    | none => none
    | some (x, μ1) => match toDs r μ1 with
      | none => none
      | some (xs, μ2) => some (x :: xs, μ2)

/-! ### the operations on data -/
/-- as an object of the store -/
def toO : D → Option O
  | .lst xs => some (.lst xs)
  | .dic t ks vs => some (.dic t ks vs)
  | _ => none
def lim : Nat := 100000
def dAdd : D → D → Option D
  | .int i, .int j => some (.int (i + j))
  | .str x, .str y => if x.length + y.length ≤ lim then some (.str (x ++ y)) else none
  | .tup xs, .tup ys => if xs.length + ys.length ≤ lim then some (.tup (xs ++ ys)) else none
  | .lst xs, .lst ys => if xs.length + ys.length ≤ lim then some (.lst (xs ++ ys)) else none
  | _, _ => none
def bigN : Nat := 2 ^ 1024
def mulOk (i j : Int) : Bool := decide (-(2 ^ 64) < i ∧ i < 2 ^ 64) || (decide (-(2 ^ 64) < j ∧ j < 2 ^ 64) || decide (i.natAbs < bigN ∧ j.natAbs < bigN))
def dMul : D → D → Option D
  | .int i, .int j => if mulOk i j then some (.int (i * j)) else none
  | .tup xs, .int k => if 0 < xs.length ∧ 2 ≤ k ∧ k ≤ 1000 ∧ xs.length ≤ 1000 then some (.tup (List.replicate k.toNat xs).flatten) else none
  | .lst xs, .int k => if -1000 ≤ k ∧ k ≤ 1000 ∧ xs.length * k.toNat ≤ lim then some (.lst (List.replicate k.toNat xs).flatten) else none
  | _, _ => none
def dEq (a b : D) : Option Bool :=
  match a.py, b.py with
  | some x, some y => if SeqAt.shaped x && SeqAt.shaped y then some (PyData.eqv x y) else none
  | _, _ => none
/-- where a key stands in a dict -/
def kFind : Bool → List D → D → Option (Option Nat)
  | true, ks, x => (keyT x).map fun k => ks.findIdx? fun y => decide (keyT y = some k)
  | false, ks, x => (keyD x).map fun k => ks.findIdx? fun y => decide (keyD y = some k)
def pyNN : PyData → Bool
  | .none => false
  | _ => true
/-- x < y, for tuples and texts and ints that can be compared -/
def dLess (a b : D) : Option Bool :=
  match a.py, b.py with
  | some x, some y => if PySem.W.alike x y && pyNN x && pyNN y && decide (x.depth ≤ 8) && decide (y.depth ≤ 8) then some (PySem.W.dataLt x y) else none
  | _, _ => none
def dCmp (f : Int → Int → Bool) (g : D → D → Option Bool) (a b : D) : Option D :=
  match a, b with
  | .int i, .int j => some (.bl (f i j))
  | a, b => (g a b).map .bl
/-- sorting -/
def sLe (a b : D × PyData) : Bool := !PySem.W.dataLt b.2 a.2
def sIns (x : D × PyData) : List (D × PyData) → List (D × PyData)
  | [] => [x]
  | y :: r => if sLe x y = true then x :: y :: r else y :: sIns x r
def iSort : List (D × PyData) → List (D × PyData)
  | [] => []
  | x :: r => sIns x (iSort r)
def neTup : PyData → Bool
  | .tuple (_ :: _) => true
  | _ => false
def noTup : PyData → Bool
  | .tuple _ => false
  | .none => false
  | _ => true
def notNone : PyData → Bool
  | .none => false
  | _ => true
def sortOk (ps : List PyData) : Bool := (ps.all fun x => ps.all fun y => PySem.W.alike x y) && (ps.all neTup || ps.all noTup || (decide (ps.length < 2) && ps.all notNone)) && ps.all fun x => decide (x.depth ≤ 8)
def dSort (xs : List D) : Option D := match pys xs with
  | some ps => if sortOk ps && decide (xs.length ≤ lim) then some (.lst ((iSort (xs.zip ps)).map (·.1))) else none
  | none => none
def dAt (xs : List D) (i : Int) : Option D := atI xs i
def dIx : D → D → Option D
  | .lst xs, .int i => atI xs i
  | .scr xs, .int i => atI xs i
  | .tup xs, .int i => atI xs i
  | .str z, .int i => if z.length ≤ lim then (atI z.cps.toList i).map fun c => .str ⟨#[c]⟩ else none
  | .dic t ks vs, x => match kFind t ks x with
    | some (some i) => vs[i]?
    | _ => none
  | _, _ => none
def dTy : D → Ty → Option Bool
  | .non, t => some false
  | .bl _, t => some (t == .tint || t == .tbool)
  | .int _, t => some (t == .tint)
  | .str _, t => some (t == .tstr)
  | .tup _, t => some (t == .ttuple)
  | .lst _, t => some (t == .tlist)
  | _, _ => none
def dTys (d : D) : List Ty → Option Bool
  | [] => some false
  | t :: ts => match dTy d t, dTys d ts with
    | some a, some b => some (a || b)
    | _, _ => none
/-- isinstance of a class of which l are the classes under it -/
def dIs (l : List Str) : D → Option Bool
  | .non => some false
  | .bl _ => some false
  | .int _ => some false
  | .str _ => some false
  | .tup _ => some false
  | .lst _ => some false
  | .exc c _ _ => some (l.contains c)
  | _ => none
def dFld (f : Str) : D → Option D
  | .exc _ ns vs => (ns.zip vs).lookup f
  | _ => none
def dFldI (f : Str) : D → Option D
  | .ins _ ns vs => (ns.zip vs).lookup f
  | _ => none
def permL {α : Type} (pm : List Nat) (xs : List α) : Option (List α) := match pm with
  | [] => some []
  | i :: r => match xs[i]?, permL r xs with
    | some x, some l => some (x :: l)
    | _, _ => none
def dIn (x : D) : D → Option Bool
  | .lst ys => match x.py, pys ys with
    | some a, some bs => if SeqAt.shaped a && SeqAt.shaped (.list bs) then some (bs.any fun z => PyData.eqv z a) else none
    | _, _ => none
  | .tup ys => match x.py, pys ys with
    | some a, some bs => if SeqAt.shaped a && SeqAt.shaped (.list bs) then some (bs.any fun z => PyData.eqv z a) else none
    | _, _ => none
  | .str z => match x with
    | .str y => some (!(Builtin.Str.occurrences z y 0 z.length 1).isEmpty)
    | _ => none
  | .dic t ks _ => (kFind t ks x).map (·.isSome)
  | _ => none
def dBools : List D → Option (List Bool)
  | [] => some []
  | .bl b :: r => (dBools r).map (b :: ·)
  | _ => none
def dInts : List D → Option (List Int)
  | [] => some []
  | .int b :: r => (dInts r).map (b :: ·)
  | _ => none
def dSeq : D → Option (List D)
  | .lst xs => some xs
  | .tup xs => some xs
  | .str z => if z.length ≤ lim then some (z.cps.toList.map fun c => .str ⟨#[c]⟩) else none
  | .dic _ ks _ => some ks
  | _ => none
/-- as a part of an f-text -/
def fmtD : D → Option Str
  | .str y => if y.length ≤ lim then some y else none
  | .int i => if i.natAbs < 2 ^ 64 then some (toString i) else none
  | _ => none
def dSeqL : D → Option (List D)
  | .lst xs => some xs
  | .tup xs => some xs
  | _ => none
def dStrs : List D → Option (List Str)
  | [] => some []
  | .str b :: r => (dStrs r).map (b :: ·)
  | _ => none
def dCut (d : D) (lo hi : Option Int) : Option D :=
  match d with
  | .scr xs => some (.lst ((xs.drop (HT.sIx xs.length 0 lo)).take (HT.sIx xs.length xs.length hi - HT.sIx xs.length 0 lo)))
  | .lst xs => some (.lst ((xs.drop (HT.sIx xs.length 0 lo)).take (HT.sIx xs.length xs.length hi - HT.sIx xs.length 0 lo)))
  | .tup xs => some (.tup ((xs.drop (HT.sIx xs.length 0 lo)).take (HT.sIx xs.length xs.length hi - HT.sIx xs.length 0 lo)))
  | .str z => if z.length ≤ lim then some (.str (cutS z lo hi)) else none
  | _ => none
def truth : D → Option Bool
  | .non => some false
  | .bl b => some b
  | .int i => some (i != 0)
  | .str s => if s.length ≤ lim then some (s.length != 0) else none
  | .tup xs => some (!xs.isEmpty)
  | .lst xs => some (!xs.isEmpty)
  | _ => none

def sem : Op → List D → Option D
  | .add, [a, b] => dAdd a b
  | .sub, [.int i, .int j] => some (.int (i - j))
  | .mul, [a, b] => dMul a b
  | .fdiv, [.int i, .int j] => if 0 < j ∧ j < 1073741824 then some (.int (i / j)) else none
  | .mod, [.int i, .int j] => if 0 < j then some (.int (i % j)) else none
  | .pow, [.int i, .int j] => if 0 ≤ j ∧ j ≤ 1000000 ∧ i.natAbs < 2 ^ 64 then some (.int (i ^ j.toNat)) else none
  | .neg, [.int i] => some (.int (-i))
  | .not, [a] => (truth a).map fun b => .bl (!b)
  | .eq, [a, b] => (dEq a b).map .bl
  | .ne, [a, b] => (dEq a b).map fun e => .bl (!e)
  | .lt, [a, b] => dCmp (fun i j => decide (i < j)) dLess a b
  | .le, [a, b] => dCmp (fun i j => decide (i ≤ j)) (fun x y => (dLess y x).map (!·)) a b
  | .gt, [a, b] => dCmp (fun i j => decide (j < i)) (fun x y => dLess y x) a b
  | .ge, [a, b] => dCmp (fun i j => decide (j ≤ i)) (fun x y => (dLess x y).map (!·)) a b
  | .isN, [a] => some (.bl (match a with | .non => true | _ => false))
  | .isnotN, [a] => some (.bl (match a with | .non => false | _ => true))
  | .in_, [a, b] => (dIn a b).map .bl
  | .notin, [a, b] => (dIn a b).map fun e => .bl (!e)
  | .ix, [a, b] => dIx a b
  | .len, [.lst xs] => some (.int xs.length)
  | .len, [.scr xs] => some (.int xs.length)
  | .len, [.tup xs] => some (.int xs.length)
  | .len, [.str z] => if z.length ≤ lim then some (.int z.length) else none
  | .len, [.dic _ ks _] => some (.int ks.length)
  | .list, [.lst xs] => some (.lst xs)
  | .list, [.tup xs] => some (.lst xs)
  | .list, [.dic _ ks _] => some (.lst ks)
  | .tuple, [.lst xs] => some (.tup xs)
  | .tuple, [.tup xs] => some (.tup xs)
  | .tuple, [.dic _ ks _] => some (.tup ks)
  | .sorted, [.lst xs] => dSort xs
  | .sorted, [.dic _ ks _] => dSort ks
  | .sum, [.lst xs] => (dInts xs).map fun ns => .int ns.sum
  | .int, [.int i] => some (.int i)
  | .int, [.bl b] => some (.int (if b then 1 else 0))
  | .int, [.str z] => if z.length ≤ 640 then (PySem.intText? z).map .int else none
  | .abs, [.int i] => some (.int (if i < 0 then -i else i))
  | .all, [.lst xs] => (dBools xs).map fun bs => .bl (bs.all id)
  | .any, [.lst xs] => (dBools xs).map fun bs => .bl (bs.any id)
  | .min2, [.int i, .int j] => some (.int (if j < i then j else i))
  | .max2, [.int i, .int j] => some (.int (if j > i then j else i))
  | .isi ts, [a] => (dTys a ts).map .bl
  | .isx l, [a] => (dIs l a).map .bl
  | .join, [.str a, d] => (dSeqL d).bind fun xs => (dStrs xs).bind fun ys => if (ys.map (·.length)).sum + ys.length * a.length ≤ lim then some (.str (Txt.join a ys)) else none
  | .split, [.str a, .str b] => if b.length ≠ 0 ∧ a.length ≤ lim then some (.lst ((Txt.split a b).map .str)) else none
  | .starts, [.str a, .str b] => some (.bl (Txt.startswith a b))
  | .str, [.int i] => if i.natAbs < 2 ^ 64 then some (.str (toString i)) else none
  | .str, [.str s] => some (.str s)
  | .isb, [.bl a, .bl b] => some (.bl (decide (a = b)))
  | .isnb, [.bl a, .bl b] => some (.bl (!decide (a = b)))
  | _, _ => none

/-! ### running -/
def toI : W → Mu → R (Option Int)
  | .d (.int i), μ => rok (some i) μ
  | _, _ => none
/-- what is walked: a dict of the store is locked -/
def seqW (w : W) (μ : Mu) : Option (List D × Mu) :=
  match w with
  | .d x => (dSeq x).map fun xs => (xs, μ)
  | .r k => match μ[k]? with
    | some (.lst xs) => some (xs, μ.set k (.fz (.lst xs)))
    | some (.dic t ks vs) => some (ks, μ.set k (.fz (.dic t ks vs)))
    | some (.fz x) => (dSeq x).map fun xs => (xs, μ)
    | some (.ins _ _ _) => none
    | none => none
/-- what a call does, by the def's name -/
abbrev Phi := Str → List W → Mu → R W

def putL : List Nat → List D → Env → Option Env
  | [], [], ρ => some ρ
  | i :: is, x :: xs, ρ => putL is xs (ρ.set i (some (.d x)))
  | _, _, _ => none
def Tg.slots : Tg → List Nat
  | .one i => [i]
  | .tup is => is
def Tg.put : Tg → D → Env → Option Env
  | .one i, x, ρ => some (ρ.set i (some (.d x)))
  | .tup is, x, ρ => match x with
    | .tup xs => putL is xs ρ
    | .lst xs => putL is xs ρ
    | _ => none
/-- the slots of a comprehension's own names are empty -/
def wipeE (ρ : Env) : List Nat → Env
  | [] => ρ
  | v :: vs => (wipeE ρ vs).set v none

/-- the elements of a comprehension: f runs the tests and the element; the k-th object is the list that is made -/
def collect (f : D → Mu → R (Option D)) (k : Nat) : List D → Mu → Option Mu
  | [], μ => some μ
  | x :: r, μ => match f x μ with
    | some (.ok (some y) μ1) => match μ1[k]? with
      | some (.lst acc) => if acc.length < lim then collect f k r ((μ1.take (k + 1)).set k (.lst (acc ++ [y]))) else none
      | _ => none
    | some (.ok none μ1) => collect f k r (μ1.take (k + 1))
    | _ => none

/-- two loops, one in the other: f does what the inner one does -/
def collect2 (f : D → Mu → Option Mu) (k : Nat) : List D → Mu → Option Mu
  | [], μ => some μ
  | x :: r, μ => match f x μ with
    | some μ1 => collect2 f k r (μ1.take (k + 1))
    | none => none

mutual
def evE (Φ : Phi) : IE → Env → Mu → R W
  | .var i, ρ, μ => match ρ[i]? with
    | some (some w) => rok w μ
    | _ => none
  | .cst d, ρ, μ => rok (.d d) μ
  | .op o es, ρ, μ => (evL Φ es ρ μ).bind fun ws μ1 => match views μ1 ws with
    | none => none
    | some ds => match sem o ds with
      | none => none
      | some d => rok (.d d) μ1
  | .tup es, ρ, μ => (evL Φ es ρ μ).bind fun ws μ1 => match toDs ws μ1 with
    | none => none
    | some (ds, μ2) => if ds.length ≤ lim then rok (.d (.tup ds)) μ2 else none
  | .lst es, ρ, μ => (evL Φ es ρ μ).bind fun ws μ1 => match toDs ws μ1 with
    | none => none
    | some (ds, μ2) => if ds.length ≤ lim then rok (.d (.lst ds)) μ2 else none
  | .and a b, ρ, μ => (evE Φ a ρ μ).bind fun w μ1 => match (view μ1 w).bind truth with
    | none => none
    | some true => evE Φ b ρ μ1
    | some false => rok w μ1
  | .or a b, ρ, μ => (evE Φ a ρ μ).bind fun w μ1 => match (view μ1 w).bind truth with
    | none => none
    | some true => rok w μ1
    | some false => evE Φ b ρ μ1
  | .ite c a b, ρ, μ => (evE Φ c ρ μ).bind fun w μ1 => match (view μ1 w).bind truth with
    | none => none
    | some true => evE Φ a ρ μ1
    | some false => evE Φ b ρ μ1
  | .lc vs t it cs e, ρ, μ => (evT Φ it ρ μ).bind fun xs μ1 =>
      match collect (fun x m => match t.put x (wipeE ρ vs) with
        | none => none
        | some ρ1 => (evC Φ cs ρ1 m).bind fun b m1 => if b = true then (evE Φ e ρ1 m1).bind fun w m2 => match toD w m2 with
            | none => none
            | some (y, m3) => rok (some y) m3
          else rok none m1) μ1.length xs (μ1 ++ [.lst []]) with
      | none => none
      | some μ2 => match μ2[μ1.length]? with
        | some (.lst ys) => rok (.d (.lst ys)) (μ2.take μ1.length)
        | _ => none
  | .lc2 vs vs1 t it cs t1 it1 cs1 e, ρ, μ => (evT Φ it ρ μ).bind fun xs μ1 =>
      match collect2 (fun x m => match t.put x (wipeE ρ vs) with
        | none => none
        | some ρ1 => match evC Φ cs ρ1 m with
          | some (.ok true m1) => (match evT Φ it1 ρ1 m1 with
            | some (.ok ys m2) => collect (fun y m => match t1.put y (wipeE ρ1 vs1) with
              | none => none
              | some ρ2 => (evC Φ cs1 ρ2 m).bind fun b m1 => if b = true then (evE Φ e ρ2 m1).bind fun w m2 => match toD w m2 with
                  | none => none
                  | some (y, m3) => rok (some y) m3
                else rok none m1) μ1.length ys m2
            | _ => none)
          | some (.ok false m1) => some m1
          | _ => none) μ1.length xs (μ1 ++ [.lst []]) with
      | none => none
      | some μ2 => match μ2[μ1.length]? with
        | some (.lst ys) => rok (.d (.lst ys)) (μ2.take μ1.length)
        | _ => none
  | .call f es, ρ, μ => (evL Φ es ρ μ).bind fun ws μ1 => Φ f ws μ1
  | .callK f pm es, ρ, μ => (evL Φ es ρ μ).bind fun ws μ1 => match permL pm ws with
    | none => none
    | some us => Φ f us μ1
  | .callv a es, ρ, μ => (evE Φ a ρ μ).bind fun w μ1 => match w with
    | .d (.fn f) => (evL Φ es ρ μ1).bind fun ws μ2 => Φ f ws μ2
    | _ => none
  | .fld f e, ρ, μ => (evE Φ e ρ μ).bind fun w μ1 => R.of (((view μ1 w).bind (dFld f)).map .d) μ1
  | .m1 o a b, ρ, μ => (evE Φ a ρ μ).bind fun w μ1 => match w with
    | .d (.str s) => (evE Φ b ρ μ1).bind fun u μ2 => match view μ2 u with
      | none => none
      | some d => match sem o [.str s, d] with
        | none => none
        | some r => rok (.d r) μ2
    | _ => none
  | .fs es, ρ, μ => (evF Φ es Str.empty ρ μ).bind fun s μ1 => rok (.d (.str s)) μ1
  | .chain o1 o2 a b c, ρ, μ => (evE Φ a ρ μ).bind fun w μ1 => (evE Φ b ρ μ1).bind fun u μ2 => match views μ2 [w, u] with
    | none => none
    | some ds => match sem o1 ds with
      | some (.bl true) => (evE Φ c ρ μ2).bind fun t μ3 => match views μ3 [u, t] with
        | none => none
        | some es => match sem o2 es with
          | some (.bl k) => rok (.d (.bl k)) μ3
          | _ => none
      | some (.bl false) => rok (.d (.bl false)) μ2
      | _ => none
  | .pop0 o, ρ, μ => (evE Φ o ρ μ).bind fun w μ1 => match w with
    | .d _ => none
    | .r k => match μ1[k]? with
      | some (.lst xs) => match xs[xs.length - 1]? with
        | some y => rok (.d y) (μ1.set k (.lst xs.dropLast))
        | none => none
      | _ => none
  | .pop1 o i, ρ, μ => (evE Φ o ρ μ).bind fun w μ1 => match w with
    | .d _ => none
    | .r k => match μ1[k]? with
      | some (.lst _) => (evE Φ i ρ μ1).bind fun u μ2 => match u, μ2[k]? with
        | .d (.int j), some (.lst xs) => if -(2 ^ 63) ≤ j ∧ j < 2 ^ 63 then match ixN xs.length j with
          | some n => match xs[n]? with
            | some y => rok (.d y) (μ2.set k (.lst (xs.eraseIdx n)))
            | none => none
          | none => none else none
        | _, _ => none
      | _ => none
  | .sl fl fh a lo hi, ρ, μ => (evE Φ a ρ μ).bind fun w μ1 =>
      (if fl = true then (evE Φ lo ρ μ1).bind toI else rok none μ1).bind fun l μ2 =>
      (if fh = true then (evE Φ hi ρ μ2).bind toI else rok none μ2).bind fun h μ3 => R.of (((view μ3 w).bind fun d => dCut d l h).map .d) μ3
  | .dnew t, ρ, μ => rok (.d (.dic t [] [])) μ
  | .newr e, ρ, μ => (evE Φ e ρ μ).bind fun w μ1 => match w with
    | .d d => match toO d with
      | some o => rok (.r μ1.length) (μ1 ++ [o])
      | none => none
    | _ => none
  | .lrng tp a, ρ, μ => (evE Φ a ρ μ).bind fun w μ1 => match w with
    | .d (.int j) => if 0 ≤ j ∧ j ≤ 100000 then rok (.d ((if tp = true then D.tup else D.lst) ((List.range j.toNat).map fun i => .int (0 + (i : Nat))))) μ1 else none
    | _ => none
  | .rep a y z, ρ, μ => (evE Φ a ρ μ).bind fun w μ1 => match w with
    | .d (.str s) => if s.length + (s.length + 1) * z.length ≤ lim then rok (.d (.str (Txt.replace s y z))) μ1 else none
    | _ => none
  | .fldi f e, ρ, μ => (evE Φ e ρ μ).bind fun w μ1 => R.of (((view μ1 w).bind (dFldI f)).map .d) μ1
  | .prop c q e, ρ, μ => (evE Φ e ρ μ).bind fun w μ1 => match w with
    | .d (.ins c' ns vs) => if c' = c then (match Φ q [.d (.ins c' ns vs)] μ1 with
      | some (.ok u m) => rok u m
      | _ => none) else none
    | _ => none
def evL (Φ : Phi) : List IE → Env → Mu → R (List W)
  | [], ρ, μ => rok [] μ
  | e :: es, ρ, μ => (evE Φ e ρ μ).bind fun w μ1 => (evL Φ es ρ μ1).bind fun ws μ2 => rok (w :: ws) μ2
/-- the parts of an f-text -/
def evF (Φ : Phi) : List IE → Str → Env → Mu → R Str
  | [], acc, ρ, μ => rok acc μ
  | e :: es, acc, ρ, μ => (evE Φ e ρ μ).bind fun w μ1 => match w with
    | .d d => match fmtD d with
      | none => none
      | some y => if (acc ++ y).length ≤ lim then evF Φ es (acc ++ y) ρ μ1 else none
    | _ => none
/-- the tests of a comprehension -/
def evC (Φ : Phi) : List IE → Env → Mu → R Bool
  | [], ρ, μ => rok true μ
  | e :: es, ρ, μ => (evE Φ e ρ μ).bind fun w μ1 => match (view μ1 w).bind truth with
    | none => none
    | some true => evC Φ es ρ μ1
    | some false => rok false μ1
def evT (Φ : Phi) : IT → Env → Mu → R (List D)
  | .seq e, ρ, μ => (evE Φ e ρ μ).bind fun w μ1 => match seqW w μ1 with
    | none => none
    | some (xs, μ2) => rok xs μ2
  | .rng1 a, ρ, μ => (evE Φ a ρ μ).bind fun w μ1 => match w with
    | .d (.int j) => if -(2 ^ 62) ≤ j ∧ j < 2 ^ 62 then rok ((List.range j.toNat).map fun i => .int (0 + (i : Nat))) μ1 else none
    | _ => none
  | .rng2 a b, ρ, μ => (evE Φ a ρ μ).bind fun w μ1 => (evE Φ b ρ μ1).bind fun u μ2 => match w, u with
    | .d (.int i), .d (.int j) => if (-(2 ^ 62) ≤ i ∧ i < 2 ^ 62) ∧ (-(2 ^ 62) ≤ j ∧ j < 2 ^ 62) then rok ((List.range (j - i).toNat).map fun k => .int (i + (k : Nat))) μ2 else none
    | _, _ => none
  | .rvr1 a, ρ, μ => (evE Φ a ρ μ).bind fun w μ1 => match w with
    | .d (.int j) => if -(2 ^ 62) ≤ j ∧ j < 2 ^ 62 then rok ((List.range j.toNat).map fun i => .int ((j.toNat : Int) - 1 - (i : Nat))) μ1 else none
    | _ => none
  | .enu e, ρ, μ => (evE Φ e ρ μ).bind fun w μ1 => match toD w μ1 with
    | none => none
    | some (d, μ2) => match d with
      | .lst xs => rok ((List.range xs.length).zipWith (fun i x => .tup [.int (i : Nat), x]) xs) μ2
      | .tup xs => rok ((List.range xs.length).zipWith (fun i x => .tup [.int (i : Nat), x]) xs) μ2
      | _ => none
  | .zip a b, ρ, μ => (evE Φ a ρ μ).bind fun w μ1 => (evE Φ b ρ μ1).bind fun u μ2 => match toD w μ2 with
    | none => none
    | some (d, μ3) => match toD u μ3 with
      | none => none
      | some (e, μ4) => match d, e with
        | .lst xs, .lst ys => rok (xs.zipWith (fun x y => .tup [x, y]) ys) μ4
        | .tup xs, .tup ys => rok (xs.zipWith (fun x y => .tup [x, y]) ys) μ4
        | .str x, .str y => if (x.cps.all (· < 128) && y.cps.all (· < 128)) = true then rok ((x.cps.toList.map fun c => D.str ⟨#[c]⟩).zipWith (fun x y => .tup [x, y]) (y.cps.toList.map fun c => D.str ⟨#[c]⟩)) μ4 else none
        | _, _ => none
end

inductive Fl where
  | nx (ρ : Env) | rt (w : W) | bk (ρ : Env) | ct (ρ : Env) | xc (e : D) (ρ : Env)
abbrev RS := Option (Fl × Mu)
/-- an expression of a statement that begins with the slots ρ -/
def R.st {α : Type} (r : R α) (ρ : Env) (f : α → Mu → RS) : RS :=
  match r with
  | none => none
  | some (.er e m) => some (.xc e ρ, m)
  | some (.ok a m) => f a m
/-- f runs one turn of a loop -/
def lop (f : D → Env → Mu → RS) : List D → Env → Mu → RS
  | [], ρ, μ => some (.nx ρ, μ)
  | x :: r, ρ, μ => match f x ρ μ with
    | none => none
    | some (.nx ρ1, μ1) => lop f r ρ1 μ1
    | some (.ct ρ1, μ1) => lop f r ρ1 μ1
    | some (.bk ρ1, μ1) => some (.nx ρ1, μ1)
    | some (.rt w, μ1) => some (.rt w, μ1)
    | some (.xc e ρ1, μ1) => some (.xc e ρ1, μ1)
/-- f runs the test (none: it is false), then the body -/
def whl (f : Env → Mu → Option (Option Fl × Mu)) : Nat → Env → Mu → RS
  | 0, ρ, μ => none
  | n + 1, ρ, μ => match f ρ μ with
    | none => none
    | some (none, μ1) => some (.nx ρ, μ1)
    | some (some (.nx ρ1), μ1) => whl f n ρ1 μ1
    | some (some (.ct ρ1), μ1) => whl f n ρ1 μ1
    | some (some (.bk ρ1), μ1) => some (.nx ρ1, μ1)
    | some (some (.rt w), μ1) => some (.rt w, μ1)
    | some (some (.xc e ρ1), μ1) => some (.xc e ρ1, μ1)
/-- what is made is raised -/
def raiD (r : R W) (ρ : Env) : RS := match r with
  | some (.ok (.d (.exc c ns vs)) m) => some (.xc (.exc c ns vs) ρ, m)
  | some (.er e m) => some (.xc e ρ, m)
  | _ => none
mutual
def exS (Φ : Phi) : IS → Env → Mu → RS
  | .set t e, ρ, μ => (evE Φ e ρ μ).st ρ fun w μ1 => match t with
    | .one i => some (.nx (ρ.set i (some w)), μ1)
    | .tup is => match toD w μ1 with
      | none => none
      | some (d, μ2) => match Tg.put (.tup is) d ρ with
        | none => none
        | some ρ1 => some (.nx ρ1, μ2)
  | .setm i e, ρ, μ => (evE Φ e ρ μ).st ρ fun w μ1 => match w with
    | .d (.lst xs) => some (.nx (ρ.set i (some (.r μ1.length))), μ1 ++ [.lst xs])
    | .d (.dic t ks vs) => some (.nx (ρ.set i (some (.r μ1.length))), μ1 ++ [.dic t ks vs])
    | _ => none
  | .expr e, ρ, μ => (evE Φ e ρ μ).st ρ fun _ μ1 => some (.nx ρ, μ1)
  | .app o e, ρ, μ => (evE Φ o ρ μ).st ρ fun w μ1 => match w with
    | .d _ => none
    | .r k => match μ1[k]? with
      | some (.lst _) => (evE Φ e ρ μ1).st ρ fun u μ2 => match toD u μ2 with
        | none => none
        | some (y, μ3) => match μ3[k]? with
          | some (.lst xs) => if xs.length < lim then some (.nx ρ, μ3.set k (.lst (xs ++ [y]))) else none
          | _ => none
      | _ => none
  | .ret e, ρ, μ => (evE Φ e ρ μ).st ρ fun w μ1 => some (.rt w, μ1)
  | .set2 i j a b, ρ, μ => (evE Φ a ρ μ).st ρ fun w μ1 => (evE Φ b ρ μ1).st ρ fun u μ2 => some (.nx ((ρ.set i (some w)).set j (some u)), μ2)
  | .set3 i j l a b c, ρ, μ => (evE Φ a ρ μ).st ρ fun w μ1 => (evE Φ b ρ μ1).st ρ fun u μ2 => (evE Φ c ρ μ2).st ρ fun v μ3 => some (.nx (((ρ.set i (some w)).set j (some u)).set l (some v)), μ3)
  | .retm e, ρ, μ => (evE Φ e ρ μ).st ρ fun w μ1 => match w with
    | .d (.lst xs) => some (.rt (.r μ1.length), μ1 ++ [.lst xs])
    | _ => none
  | .retN, ρ, μ => some (.rt (.d .non), μ)
  | .ife c a b, ρ, μ => (evE Φ c ρ μ).st ρ fun w μ1 => match (view μ1 w).bind truth with
    | none => none
    | some true => exB Φ a ρ μ1
    | some false => exB Φ b ρ μ1
  | .for_ t it b, ρ, μ => (evT Φ it ρ μ).st ρ fun xs μ1 => lop (fun x r m => match t.put x r with
      | none => none
      | some r1 => exB Φ b r1 m) xs ρ μ1
  | .while_ c b, ρ, μ => whl (fun r m => match evE Φ c r m with
      | none => none
      | some (.er e m1) => some (some (.xc e r), m1)
      | some (.ok w m1) => match (view m1 w).bind truth with
        | none => none
        | some true => match exB Φ b r m1 with
          | none => none
          | some (fl, m2) => some (some fl, m2)
        | some false => some (none, m1)) 1000000 ρ μ
  | .setix o i v, ρ, μ => (evE Φ v ρ μ).st ρ fun wv μ1 => (evE Φ o ρ μ1).st ρ fun wo μ2 => (evE Φ i ρ μ2).st ρ fun wi μ3 => match wo with
    | .d _ => none
    | .r k => match toD wv μ3 with
      | none => none
      | some (y, μ4) => match μ4[k]?, wi with
        | some (.lst xs), .d (.int j) => match ixN xs.length j with
          | some n => some (.nx ρ, μ4.set k (.lst (xs.set n y)))
          | none => none
        | some (.dic t ks vs), .d x => match kFind t ks x with
          | some (some n) => if ks.length < lim then some (.nx ρ, μ4.set k (.dic t ks (vs.set n y))) else none
          | some none => if ks.length < lim then some (.nx ρ, μ4.set k (.dic t (ks ++ [x]) (vs ++ [y]))) else none
          | none => none
        | _, _ => none
  | .aug i o e, ρ, μ => match ρ[i]? with
    | some (some (.d (.int a))) => (evE Φ e ρ μ).st ρ fun w μ1 => match w, o with
      | .d (.int b), .add => some (.nx (ρ.set i (some (.d (.int (a + b))))), μ1)
      | .d (.int b), .sub => some (.nx (ρ.set i (some (.d (.int (a - b))))), μ1)
      | _, _ => none
    | _ => none
  | .raise c es, ρ, μ => (evL Φ es ρ μ).st ρ fun ws μ1 => raiD (Φ c ws μ1) ρ
  | .raiseK c pm es, ρ, μ => (evL Φ es ρ μ).st ρ fun ws μ1 => match permL pm ws with
    | none => none
    | some us => raiD (Φ c us μ1) ρ
  | .try_ b l i j, ρ, μ => match exB Φ b ρ μ with
    | some (.xc (.exc c ns vs) ρ1, μ1) => if l.contains c then some (.nx (((ρ1.set i (some (.d (.exc c ns vs)))).set j (some (.d (.exc c ns vs)))).set i none), μ1) else some (.xc (.exc c ns vs) ρ1, μ1)
    | r => r
  | .tryr b l k, ρ, μ => match exB Φ b ρ μ with
    | some (.xc (.exc c ns vs) ρ1, μ1) => if l.contains c then some (.rt (.d (.bl k)), μ1) else some (.xc (.exc c ns vs) ρ1, μ1)
    | r => r
  | .setf i f e, ρ, μ => (evE Φ e ρ μ).st ρ fun w μ1 => match ρ[i]? with
    | some (some (.r k)) => match toD w μ1 with
      | none => none
      | some (d, μ2) => match μ2[k]? with
        | some (.ins c ns vs) => if ns.length < 100 ∧ ns.contains f = false then some (.nx ρ, μ2.set k (.ins c (ns ++ [f]) (vs ++ [d]))) else none
        | _ => none
    | _ => none
  | .brk, ρ, μ => some (.bk ρ, μ)
  | .cont, ρ, μ => some (.ct ρ, μ)
def exB (Φ : Phi) : List IS → Env → Mu → RS
  | [], ρ, μ => some (.nx ρ, μ)
  | s :: r, ρ, μ => match exS Φ s ρ μ with
    | none => none
    | some (.nx ρ1, μ1) => exB Φ r ρ1 μ1
    | some (fl, μ1) => some (fl, μ1)
end
/-- a def -/
structure Df where
  np : Nat
  nn : Nat
  keep : Bool
  body : List IS
def outD (keep : Bool) (n : Nat) : RS → R W
  | none => none
  | some (.rt w, m) => if keep then rok w m else match toD w m with
      | none => none
      | some (x, m1) => rok (.d x) (m1.take n)
  | some (.nx _, m) => rok (.d .non) (m.take n)
  | some (.xc e _, m) => some (.er e (m.take n))
  | _ => none
def callD (d : Df) (Φ : Phi) (ws : List W) (μ : Mu) : R W :=
  if ws.length = d.np then outD d.keep μ.length (exB Φ d.body (ws.map some ++ List.replicate (d.nn - ws.length) none) μ) else none
/-- what stands behind a name: a def, or a class of errors with its one field (and what its value goes through) -/
inductive Gd where
  | fn (d : Df)
  | exc (c : Str) (fo : Option (Str × Option Str))
  | cls (c q : Str) (np : Nat)
def iniE : Option Str → IE
  | none => .var 1
  | some g => .call g [.var 1]
/-- the field's value; nothing of the store is left behind -/
def evIni (ie : IE) (Φ : Phi) (w : W) (μ : Mu) : R D := (evE Φ ie [none, some w] μ).bind fun u μ1 => match toD u μ1 with
  | none => none
  | some (d, μ2) => if μ2.length = μ.length then rok d μ2 else none
def excD (c : Str) (fo : Option (Str × Option Str)) (Φ : Phi) (ws : List W) (μ : Mu) : R W :=
  match fo, ws with
  | none, [] => rok (.d (.exc c [] [])) μ
  | some (f, g), [w] => (evIni (iniE g) Φ w μ).bind fun d μ1 => rok (.d (.exc c [f] [d])) μ1
  | _, _ => none
/-- an object made by its __init__ (called q), for good -/
def clsD (c q : Str) (np : Nat) (Φ : Phi) (ws : List W) (μ : Mu) : R W :=
  if ws.length = np then match Φ q (.r μ.length :: ws) (μ ++ [.ins c [] []]) with
    | some (.ok (.d .non) m) => match toD (.r μ.length) m with
      | none => none
      | some (d, m1) => rok (.d d) (m1.take μ.length)
    | some (.er e m) => some (.er e (m.take μ.length))
    | _ => none
  else none
def phi (G : Str → Option Gd) : Nat → Phi
  | 0, _, _, _ => none
  | n + 1, f, ws, μ => match G f with
    | none => none
    | some (.fn d) => callD d (phi G n) ws μ
    | some (.exc c fo) => excD c fo (phi G n) ws μ
    | some (.cls c q np) => clsD c q np (phi G n) ws μ
end PI
/-! PI3: the operations on data are Python's. -/
namespace PI
open PySem PySem.Spec PyProof.Rows L2

/-- the objects that came are of F' -/
structure Grow (F H F' H' : Hp) : Prop where
  hs : Same H H'
  fs : Sub F F'
  fh : Sub F' H'
  old : ∀ b, H b ≠ none → F' b = F b ∨ ∃ xs, H b = some (.tup xs)
section
variable {T : Tb} {F F' F1 F2 H H' H1 H2 : Hp} {A : List Addr} {μ : Mu}
theorem Grow.refl (h : Sub F H) : Grow F H F H := ⟨Same.refl H, Same.refl F, h, fun _ _ => .inl rfl⟩
theorem Grow.trans (a : Grow F H F1 H1) (b : Grow F1 H1 F2 H2) : Grow F H F2 H2 :=
  ⟨a.hs.trans b.hs, a.fs.trans b.fs, b.fh, fun c hc => by
    cases q : H c with
    | none => exact absurd q hc
    | some o =>
      have q1 := a.hs c o q
      rcases b.old c (by rw [q1]; simp) with z | ⟨xs, z⟩
      · rcases a.old c hc with y | ⟨xs, y⟩
        · exact .inl (z.trans y)
        · rw [q] at y; exact .inr ⟨xs, y⟩
      · rw [q1] at z; exact .inr ⟨xs, z⟩⟩
theorem Grow.new (h : Sub F H) {p : Addr} {o : HO} (hp : H p = none) : Grow F H (upd F p o) (upd H p o) := by
  have hF : F p = none := h.free hp
  refine ⟨fun b u q => ?_, fun b u q => ?_, fun b u q => ?_, fun b hb => ?_⟩
  · rw [upd_ne (ne_of_none q hp)]; exact q
  · rw [upd_ne (ne_of_none q hF)]; exact q
  · by_cases hb : b = p
    · subst hb; rw [upd_same] at q ⊢; exact q
    · rw [upd_ne hb] at q ⊢; exact h _ _ q
  · exact .inl (upd_ne fun z => hb (by rw [z]; exact hp))
/-- tuples that stand are known -/
theorem Grow.keys (sF : Sub F H) (bs : List Addr) (hb : ∀ b ∈ bs, ∃ xs, H b = some (.tup xs)) : ∃ F', Grow F H F' H ∧ ∀ b ∈ bs, F' b = H b := by
  refine ⟨fun b => if b ∈ bs then H b else F b, ⟨Same.refl H, fun b u q => ?_, fun b u q => ?_, fun b _ => ?_⟩, fun b h => if_pos h⟩
  · by_cases h : b ∈ bs
    · show (if b ∈ bs then H b else F b) = some u
      rw [if_pos h]
      exact sF _ _ q
    · show (if b ∈ bs then H b else F b) = some u
      rw [if_neg h]
      exact q
  · have q : (if b ∈ bs then H b else F b) = some u := q
    by_cases h : b ∈ bs
    · rw [if_pos h] at q
      exact q
    · rw [if_neg h] at q
      exact sF _ _ q
  · by_cases h : b ∈ bs
    · exact .inr (hb b h)
    · exact .inl (if_neg h)
theorem Grow.srel (g : Grow F H F' H') (s : SRel T μ H F A) : SRel T μ H' F' A := by
  refine ⟨g.fh, s.len, s.nod, fun a ha z => ?_, fun k a o h1 h2 => ?_⟩
  · cases q : H a with
    | none => exact s.thr a ha q
    | some u => rw [g.hs a u q] at z; cases z
  · have r := s.obj k a o h1 h2
    refine r.mono g.fs fun ho => ?_
    obtain ⟨u, hu, _, ht⟩ := r.thereT ho
    refine ⟨?_, (g.hs a u hu).trans hu.symm⟩
    rcases g.old a (by rw [hu]; simp) with z | ⟨xs, z⟩
    · exact z.trans (r.nF ho)
    · rw [hu] at z
      exact absurd (Option.some.inj z) (ht xs)
theorem Grow.ext (g : Grow F H F' H') (A : List Addr) : Ext F A F' A := ⟨g.fs, List.prefix_refl A⟩

/-- data as it is read: a list, a dict may still change -/
def RepV (T : Tb) (F H : Hp) : D → V → Prop
  | .lst ds, v => ∃ a vs, v = .ref a ∧ H a = some (.lst vs) ∧ Reps T F ds vs
  | .dic t ks ds, v => ∃ a vs, v = .ref a ∧ Reps T F ds vs ∧ DicH (fun u => Rd H a u) t ks vs
  | d, v => Rep T F d v
theorem Rep.v (h : Sub F H) : ∀ {d : D} {v : V}, Rep T F d v → RepV T F H d v := fun {d v} r => by
  cases d with
  | lst ds =>
    simp only [Rep] at r
    obtain ⟨a, vs, e, h1, h2⟩ := r
    exact ⟨a, vs, e, h _ _ h1, h2⟩
  | dic t ks ds =>
    simp only [Rep] at r
    obtain ⟨a, vs, e, h1, h4⟩ := r
    exact ⟨a, vs, e, h1, h4.imp fun u _ ⟨o, z⟩ => .inr ⟨o, h _ _ z⟩⟩
  | _ => exact r
/-- what an operation must do -/
def PQ (T : Tb) (F H : Hp) (d : D) (Q : VK) : Prop := ∀ v F' H', Grow F H F' H' → Rep T F' d v → Q v H'

mutual
theorem Rep.dp (h : Sub F H) : ∀ (d : D) (v : V) (y : PyData), Rep T F d v → d.py = some y → Dp T.K H v y
  | .non, v, y, r, e => by simp only [Rep] at r; subst r; simp only [D.py] at e; cases e; exact .non
  | .bl b, v, y, r, e => by simp only [Rep] at r; subst r; simp only [D.py] at e; cases e; exact .bl b
  | .int i, v, y, r, e => by simp only [Rep] at r; subst r; simp only [D.py] at e; cases e; exact .int i
  | .str s, v, y, r, e => by simp only [Rep] at r; subst r; simp only [D.py] at e; cases e; exact .str s
  | .tup ds, v, y, r, e => by
    simp only [Rep] at r
    obtain ⟨a, vs, rfl, h1, h2⟩ := r
    simp only [D.py] at e
    cases q : pys ds with
    | none => rw [q] at e; cases e
    | some ys =>
      rw [q] at e
      cases e
      exact .tup (sub_sqT h h1) (Reps.dp h ds vs ys h2 q)
  | .lst ds, v, y, r, e => by
    simp only [Rep] at r
    obtain ⟨a, vs, rfl, h1, h2⟩ := r
    simp only [D.py] at e
    cases q : pys ds with
    | none => rw [q] at e; cases e
    | some ys =>
      rw [q] at e
      cases e
      exact .lst (.of (h _ _ h1)) (Reps.dp h ds vs ys h2 q)
  | .dic _ _ _, v, y, r, e => by simp only [D.py] at e; cases e
  | .ins _ _ _, v, y, r, e => by simp only [D.py] at e; cases e
  | .exc _ _ _, v, y, r, e => by simp only [D.py] at e; cases e
  | .fn _, v, y, r, e => by simp only [D.py] at e; cases e
  | .scr _, v, y, r, e => by simp only [D.py] at e; cases e
theorem Reps.dp (h : Sub F H) : ∀ (ds : List D) (vs : List V) (ys : List PyData), Reps T F ds vs → pys ds = some ys → DpAll T.K H vs ys
  | [], vs, ys, r, e => by
    simp only [Reps] at r
    subst r
    simp only [pys] at e
    cases e
    exact .nil
  | d :: ds, vs, ys, r, e => by
    simp only [Reps] at r
    obtain ⟨v, r', rfl, h1, h2⟩ := r
    simp only [pys] at e
    cases q1 : d.py with
    | none => rw [q1] at e; cases e
    | some y =>
      cases q2 : pys ds with
      | none => rw [q1, q2] at e; cases e
      | some yr =>
        rw [q1, q2] at e
        cases e
        exact .cons (Rep.dp h d v y h1 q1) (Reps.dp h ds r' yr h2 q2)
end
theorem RepV.dp (h : Sub F H) {d : D} {v : V} {y : PyData} (r : RepV T F H d v) (e : d.py = some y) : Dp T.K H v y := by
  cases d with
  | lst ds =>
    obtain ⟨a, vs, rfl, h1, h2⟩ := r
    simp only [D.py] at e
    cases q : pys ds with
    | none => rw [q] at e; cases e
    | some ys =>
      rw [q] at e
      cases e
      exact .lst (.of h1) (Reps.dp h ds vs ys h2 q)
  | dic t ks ds => simp only [D.py] at e; cases e
  | _ => exact Rep.dp h _ v y r e
end

/-! ### dicts -/
theorem zip_val {κ : Type} [DecidableEq κ] (k : κ) : ∀ (kl : List κ) (vs : List V), kl.length = vs.length → valV (kl.zip vs) k = (kl.findIdx? fun j => decide (j = k)).bind fun i => vs[i]?
  | [], [], _ => rfl
  | [], _ :: _, h => by simp at h
  | _ :: _, [], h => by simp at h
  | j :: kl, v :: vs, h => by
    rw [List.zip_cons_cons, List.findIdx?_cons]
    by_cases e : j = k
    · rw [valV_pos (p := (j, v)) e, if_pos (by simpa using e)]
      rfl
    · rw [valV_neg (p := (j, v)) e, if_neg (by simpa using e), zip_val k kl vs (by simpa using h)]
      cases kl.findIdx? fun j => decide (j = k) <;> rfl
theorem zip_map_ne {κ : Type} [DecidableEq κ] (k : κ) (v : V) : ∀ (kl : List κ) (vs : List V), k ∉ kl → (kl.zip vs).map (fun kv => if kv.1 = k then (kv.1, v) else kv) = kl.zip vs
  | [], _, _ => rfl
  | _ :: _, [], _ => rfl
  | j :: kl, u :: vs, h => by
    rw [List.zip_cons_cons, List.map_cons, if_neg (fun e => h (by rw [← e]; exact List.mem_cons_self)), zip_map_ne k v kl vs fun z => h (List.mem_cons_of_mem _ z)]
theorem zip_map_at {κ : Type} [DecidableEq κ] (k : κ) (v : V) : ∀ (kl : List κ) (vs : List V) (i : Nat), kl.Nodup → kl.length = vs.length → (kl.findIdx? fun j => decide (j = k)) = some i → (kl.zip vs).map (fun kv => if kv.1 = k then (kv.1, v) else kv) = kl.zip (vs.set i v)
  | [], _, _, _, _, h => by simp at h
  | _ :: _, [], _, _, h, _ => by simp at h
  | j :: kl, u :: vs, i, n, hl, h => by
    rw [List.findIdx?_cons] at h
    obtain ⟨n1, n2⟩ := List.nodup_cons.mp n
    by_cases e : j = k
    · rw [if_pos (by simpa using e)] at h
      cases h
      subst e
      rw [List.zip_cons_cons, List.map_cons, if_pos rfl, zip_map_ne j v kl vs n1]
      rfl
    · rw [if_neg (by simpa using e)] at h
      obtain ⟨i', hi, rfl⟩ := Option.map_eq_some_iff.mp h
      rw [List.zip_cons_cons, List.map_cons, if_neg e, zip_map_at k v kl vs i' n2 (by simpa using hl) hi]
      rfl
theorem zip_any {κ : Type} [DecidableEq κ] (k : κ) {kl : List κ} {vs : List V} (hl : kl.length = vs.length) : ((kl.zip vs).any fun kv => decide (kv.1 = k)) = (kl.findIdx? fun j => decide (j = k)).isSome := by
  rw [valV_any, zip_val k kl vs hl]
  cases h : kl.findIdx? fun j => decide (j = k) with
  | none => rfl
  | some i =>
    have hi : i < kl.length := by
      have := List.findIdx?_eq_some_iff_findIdx_eq.mp h
      exact this.1
    simp [← hl, hi]
theorem putK_at {κ : Type} [DecidableEq κ] {k : κ} {v : V} {kl : List κ} {vs : List V} {i : Nat} (n : kl.Nodup) (hl : kl.length = vs.length) (h : (kl.findIdx? fun j => decide (j = k)) = some i) : putK (kl.zip vs) k v = kl.zip (vs.set i v) := by
  unfold putK
  rw [zip_any k hl, h]
  simp only [Option.isSome_some, if_true]
  exact zip_map_at k v kl vs i n hl h
theorem putK_end {κ : Type} [DecidableEq κ] {k : κ} {v : V} {kl : List κ} {vs : List V} (hl : kl.length = vs.length) (h : (kl.findIdx? fun j => decide (j = k)) = none) : putK (kl.zip vs) k v = (kl ++ [k]).zip (vs ++ [v]) := by
  unfold putK
  rw [zip_any k hl, h, if_neg (by simp), List.zip_append hl]
  rfl
theorem find_keysT {k : List Key} : ∀ {ks : List D} {kl : List (List Key)}, keysT ks = some kl → (ks.findIdx? fun y => decide (keyT y = some k)) = kl.findIdx? fun j => decide (j = k)
  | [], kl, h => by simp only [keysT] at h; cases h; rfl
  | x :: ks, kl, h => by
    simp only [keysT] at h
    split at h
    · rename_i a b h1 h2
      cases h
      rw [List.findIdx?_cons, List.findIdx?_cons, find_keysT h2, h1]
      simp
    · cases h
theorem find_keysD {k : Key} : ∀ {ks : List D} {kl : List Key}, keysD ks = some kl → (ks.findIdx? fun y => decide (keyD y = some k)) = kl.findIdx? fun j => decide (j = k)
  | [], kl, h => by simp only [keysD] at h; cases h; rfl
  | x :: ks, kl, h => by
    simp only [keysD] at h
    split at h
    · rename_i a b h1 h2
      cases h
      rw [List.findIdx?_cons, List.findIdx?_cons, find_keysD h2, h1]
      simp
    · cases h
theorem keysT_snoc {k : List Key} {x : D} (hx : keyT x = some k) : ∀ {ks : List D} {kl : List (List Key)}, keysT ks = some kl → keysT (ks ++ [x]) = some (kl ++ [k])
  | [], kl, h => by simp only [keysT] at h; cases h; simp [keysT, hx]
  | y :: ks, kl, h => by
    simp only [keysT] at h
    split at h
    · rename_i a b h1 h2
      cases h
      simp [keysT, h1, keysT_snoc hx h2]
    · cases h
theorem keysD_snoc {k : Key} {x : D} (hx : keyD x = some k) : ∀ {ks : List D} {kl : List Key}, keysD ks = some kl → keysD (ks ++ [x]) = some (kl ++ [k])
  | [], kl, h => by simp only [keysD] at h; cases h; simp [keysD, hx]
  | y :: ks, kl, h => by
    simp only [keysD] at h
    split at h
    · rename_i a b h1 h2
      cases h
      simp [keysD, h1, keysD_snoc hx h2]
    · cases h
theorem find_none {κ : Type} [DecidableEq κ] {kl : List κ} {k : κ} (h : (kl.findIdx? fun j => decide (j = k)) = none) : k ∉ kl := fun hm => by
  have := List.findIdx?_eq_none_iff.mp h k hm
  simp at this
section
variable {T : Tb} {F H : Hp}
theorem rep_keyD {x : D} {k : Key} {v : V} (hk : keyD x = some k) (r : Rep T F x v) : v = kV k := by
  cases x with
  | int i => simp only [keyD] at hk; cases hk; simp only [Rep] at r; exact r
  | str i => simp only [keyD] at hk; cases hk; simp only [Rep] at r; exact r
  | _ => simp only [keyD] at hk; cases hk
theorem keyD_rep {x : D} {k : Key} (hk : keyD x = some k) : Rep T F x (kV k) := by
  cases x with
  | int i => simp only [keyD] at hk; cases hk; simp only [Rep]; rfl
  | str i => simp only [keyD] at hk; cases hk; simp only [Rep]; rfl
  | _ => simp only [keyD] at hk; cases hk
theorem reps_keysD : ∀ {xs : List D} {k : List Key} {vs : List V}, keysD xs = some k → Reps T F xs vs → vs = k.map kV
  | [], k, vs, h, r => by simp only [keysD] at h; cases h; simp only [Reps] at r; exact r
  | x :: xs, k, vs, h, r => by
    simp only [keysD] at h
    split at h
    · rename_i a b h1 h2
      cases h
      simp only [Reps] at r
      obtain ⟨v, r', rfl, r1, r2⟩ := r
      rw [rep_keyD h1 r1, reps_keysD h2 r2]
      rfl
    · cases h
theorem keysD_reps : ∀ {xs : List D} {k : List Key}, keysD xs = some k → Reps T F xs (k.map kV)
  | [], k, h => by simp only [keysD] at h; cases h; exact .nil
  | x :: xs, k, h => by
    simp only [keysD] at h
    split at h
    · rename_i a b h1 h2
      cases h
      exact .cons (keyD_rep h1) (keysD_reps h2)
    · cases h
theorem rep_keyT {x : D} {k : List Key} {v : V} (hk : keyT x = some k) (r : Rep T F x v) : ∃ b, v = .ref b ∧ F b = some (.tup (k.map kV)) := by
  cases x with
  | tup ds =>
    simp only [keyT] at hk
    simp only [Rep] at r
    obtain ⟨a, vs, rfl, h1, h2⟩ := r
    exact ⟨a, rfl, by rw [h1, reps_keysD hk h2]⟩
  | _ => simp only [keyT] at hk; cases hk
theorem keyT_rep {x : D} {k : List Key} {b : Addr} (hk : keyT x = some k) (hb : F b = some (.tup (k.map kV))) : Rep T F x (.ref b) := by
  cases x with
  | tup ds =>
    simp only [keyT] at hk
    simp only [Rep]
    exact ⟨b, _, rfl, hb, keysD_reps hk⟩
  | _ => simp only [keyT] at hk; cases hk
/-- d[x], x in d -/
theorem dget_of (sF : Sub F H) {t : Bool} {ks ds : List D} {x : D} {a y : V} {o : Option Nat} (r1 : RepV T F H (.dic t ks ds) a) (r2 : RepV T F H x y) (e : kFind t ks x = some o) :
    ∃ p vs, a = .ref p ∧ Reps T F ds vs ∧ DGet H p y (o.bind fun i => vs[i]?) ∧ ks.length = vs.length := by
  obtain ⟨p, vs, rfl, rv, dh⟩ := r1
  refine ⟨p, vs, rfl, rv, ?_, dh.len⟩
  cases t with
  | true =>
    obtain ⟨kl, h1, h2, h3, h4⟩ := dh
    simp only [kFind] at e
    obtain ⟨k, hk, rfl⟩ := Option.map_eq_some_iff.mp e
    have r2' : Rep T F x y := by cases x <;> simp only [keyT] at hk <;> first | (cases hk; done) | exact r2
    obtain ⟨b, rfl, hb⟩ := rep_keyT hk r2'
    rw [find_keysT h1, ← zip_val k kl vs h2]
    exact .inr ⟨_, k, b, h4, rfl, sF _ _ hb, rfl⟩
  | false =>
    obtain ⟨kl, h1, h2, h3, h4⟩ := dh
    simp only [kFind] at e
    obtain ⟨k, hk, rfl⟩ := Option.map_eq_some_iff.mp e
    have r2' : Rep T F x y := by cases x <;> simp only [keyD] at hk <;> first | (cases hk; done) | exact r2
    rw [find_keysD h1, ← zip_val k kl vs h2]
    exact .inl ⟨_, k, h4, rep_keyD hk r2', rfl⟩
theorem kFind_lt {t : Bool} {ks : List D} {x : D} {i : Nat} (e : kFind t ks x = some (some i)) : i < ks.length := by
  cases t <;> simp only [kFind] at e <;> obtain ⟨k, hk, h⟩ := Option.map_eq_some_iff.mp e <;> exact (List.findIdx?_eq_some_iff_findIdx_eq.mp h).1
/-- the keys, as values -/
theorem IsKeys.reps (sF : Sub F H) : ∀ {ks : List D} {kl : List (List Key)} {vs : List V} {bs : List Addr}, keysT ks = some kl → kl.length = vs.length → L2.IsKeys H (kl.zip vs) bs → (∀ b ∈ bs, F b = H b) → Reps T F ks (bs.map V.ref)
  | [], kl, vs, bs, h, hl, q, hb => by
    simp only [keysT] at h
    cases h
    cases q
    exact .nil
  | x :: ks, kl, vs, bs, h, hl, q, hb => by
    simp only [keysT] at h
    split at h
    · rename_i k kr h1 h2
      cases h
      cases vs with
      | nil => simp at hl
      | cons v vs =>
        rw [List.zip_cons_cons] at q
        unfold L2.IsKeys at q
        cases q with
        | cons q1 q2 => exact .cons (keyT_rep h1 (by rw [hb _ List.mem_cons_self]; exact q1)) (IsKeys.reps sF h2 (by simpa using hl) q2 fun b m => hb b (List.mem_cons_of_mem _ m))
    · cases h
theorem IsKeys.tups : ∀ {kvs : List (List Key × V)} {bs : List Addr}, L2.IsKeys H kvs bs → ∀ b ∈ bs, ∃ xs, H b = some (.tup xs)
  | _, _, .nil, b, h => by cases h
  | _, _, .cons q t, b, h => by
    rcases List.mem_cons.mp h with rfl | h
    · exact ⟨_, q⟩
    · exact IsKeys.tups t b h
theorem zip_fst {ks : List D} {kl : List Key} {vs : List V} (h : keysD ks = some kl) (hl : kl.length = vs.length) : Reps T F ks ((kl.zip vs).map fun kv => kV kv.1) := by
  have e : ((kl.zip vs).map fun kv => kV kv.1) = kl.map kV := by
    have : ((kl.zip vs).map fun kv => kV kv.1) = ((kl.zip vs).map Prod.fst).map kV := by rw [List.map_map]; rfl
    rw [this, List.map_fst_zip (by omega)]
  rw [e]
  exact keysD_reps h
end

/-- a two-place operation on values does what g does on data -/
def Op2 (T : Tb) (X : Cx) (f : Value → Value → Sem Value) (g : D → D → Option D) : Prop :=
  OpR X f fun x y H Q => ∃ F d1 d2 d, Sub F H ∧ RepV T F H d1 x ∧ RepV T F H d2 y ∧ g d1 d2 = some d ∧ PQ T F H d Q
def Op1 (T : Tb) (X : Cx) (f : Value → Sem Value) (g : D → Option D) : Prop :=
  UnR X f fun x H Q => ∃ F d1 d, Sub F H ∧ RepV T F H d1 x ∧ g d1 = some d ∧ PQ T F H d Q

section
variable {T : Tb} {X : Cx} {F H : Hp} {Q : VK}
theorem PQ.int {i : Int} (h : PQ T F H (.int i) Q) (s : Sub F H) : Q (.int i) H := h _ F H (.refl s) (by simp only [Rep])
theorem PQ.bl {i : Bool} (h : PQ T F H (.bl i) Q) (s : Sub F H) : Q (.bl i) H := h _ F H (.refl s) (by simp only [Rep])
theorem PQ.str {i : Str} (h : PQ T F H (.str i) Q) (s : Sub F H) : Q (.str i) H := h _ F H (.refl s) (by simp only [Rep])
theorem PQ.same {d : D} {v : V} (h : PQ T F H d Q) (s : Sub F H) (r : Rep T F d v) : Q v H := h _ F H (.refl s) r
theorem PQ.tup {ds : List D} {vs : List V} (h : PQ T F H (.tup ds) Q) (s : Sub F H) (r : Reps T F ds vs) {p : Addr} (hp : H p = none) : Q (.ref p) (upd H p (.tup vs)) := by
  have g := Grow.new s (o := .tup vs) hp
  refine h _ _ _ g ?_
  simp only [Rep]
  exact ⟨p, vs, rfl, upd_same, r.mono g.fs⟩
theorem PQ.lst {ds : List D} {vs : List V} (h : PQ T F H (.lst ds) Q) (s : Sub F H) (r : Reps T F ds vs) {p : Addr} (hp : H p = none) : Q (.ref p) (upd H p (.lst vs)) := by
  have g := Grow.new s (o := .lst vs) hp
  refine h _ _ _ g ?_
  simp only [Rep]
  exact ⟨p, vs, rfl, upd_same, r.mono g.fs⟩
/-- what an operation must do whose list is always a new one -/
def PL (T : Tb) (F H : Hp) (ys : List D) (Q : VK) : Prop := ∀ p vs F', H p = none → Grow F H F' H → Reps T F' ys vs → Q (.ref p) (upd H p (.lst vs))
def PF (T : Tb) (F H : Hp) : D → VK → Prop
  | .lst ys, Q => PL T F H ys Q
  | d, Q => PQ T F H d Q
theorem PQ.pl {ys : List D} (q : PQ T F H (.lst ys) Q) : PL T F H ys Q := fun p vs F' hp g r => by
  have g2 := Grow.new g.fh (o := .lst vs) hp
  refine q _ _ _ (g.trans g2) ?_
  simp only [Rep]
  exact ⟨p, vs, rfl, upd_same, r.mono g2.fs⟩
theorem PQ.pf {d : D} (q : PQ T F H d Q) : PF T F H d Q := by
  cases d <;> first | exact q.pl | exact q
theorem PF.int {i : Int} (h : PF T F H (.int i) Q) (s : Sub F H) : Q (.int i) H := PQ.int h s
theorem PF.str {i : Str} (h : PF T F H (.str i) Q) (s : Sub F H) : Q (.str i) H := PQ.str h s
theorem PF.same {d : D} {v : V} (h : PF T F H d Q) (s : Sub F H) (r : Rep T F d v) (hd : ∀ ys, d ≠ .lst ys) : Q v H := by
  cases d <;> first | exact absurd rfl (hd _) | exact PQ.same h s r
theorem PF.tup {ds : List D} {vs : List V} (h : PF T F H (.tup ds) Q) (s : Sub F H) (r : Reps T F ds vs) {p : Addr} (hp : H p = none) : Q (.ref p) (upd H p (.tup vs)) := PQ.tup h s r hp
theorem PF.lst {ds : List D} {vs : List V} (h : PF T F H (.lst ds) Q) (s : Sub F H) (r : Reps T F ds vs) {p : Addr} (hp : H p = none) : Q (.ref p) (upd H p (.lst vs)) := h p vs F hp (.refl s) r
def Op2F (T : Tb) (X : Cx) (f : Value → Value → Sem Value) (g : D → D → Option D) : Prop :=
  OpR X f fun x y H Q => ∃ F d1 d2 d, Sub F H ∧ RepV T F H d1 x ∧ RepV T F H d2 y ∧ g d1 d2 = some d ∧ PF T F H d Q
theorem Op2F.op {f : Value → Value → Sem Value} {g : D → D → Option D} (h : Op2F T X f g) : Op2 T X f g := fun pins s σ H x y v u Q I rx ry ⟨F, d1, d2, d, sF, r1, r2, e, q⟩ =>
  h pins s σ H x y v u Q I rx ry ⟨F, d1, d2, d, sF, r1, r2, e, q.pf⟩
theorem lim_le {n : Nat} (h : n ≤ lim) : n ≤ sizeLine := Nat.le_trans h (by decide)
theorem RepV.int {i : Int} {x : V} (h : RepV T F H (.int i) x) : x = .int i := by simpa only [RepV, Rep] using h
theorem RepV.bl {i : Bool} {x : V} (h : RepV T F H (.bl i) x) : x = .bl i := by simpa only [RepV, Rep] using h
theorem RepV.str {i : Str} {x : V} (h : RepV T F H (.str i) x) : x = .str i := by simpa only [RepV, Rep] using h
theorem RepV.non {x : V} (h : RepV T F H .non x) : x = .non := by simpa only [RepV, Rep] using h
theorem RepV.tup {ds : List D} {x : V} (h : RepV T F H (.tup ds) x) : ∃ a vs, x = .ref a ∧ F a = some (.tup vs) ∧ Reps T F ds vs := by simpa only [RepV, Rep] using h
theorem RepV.scr {ds : List D} {x : V} (h : RepV T F H (.scr ds) x) : ∃ a vs, x = .ref a ∧ SqL T.K F a vs ∧ Reps T F ds vs := by simpa only [RepV, Rep] using h
theorem RepV.lst {ds : List D} {x : V} (h : RepV T F H (.lst ds) x) : ∃ a vs, x = .ref a ∧ H a = some (.lst vs) ∧ Reps T F ds vs := h

theorem o_addF (hK : X.K = T.K) : Op2F T X (binaryOp .Add) dAdd := by
  intro pins s σ H x y v u Q I rx ry h
  obtain ⟨F, d1, d2, d, sF, r1, r2, e, q⟩ := h
  unfold dAdd at e
  split at e
  · cases e
    cases r1.int; cases r2.int
    exact op_add pins s σ H _ _ v u Q I rx ry ⟨_, _, rfl, rfl, q.int sF⟩
  · split at e
    · rename_i hz
      cases e
      cases r1.str; cases r2.str
      exact op_add_str pins s σ H _ _ v u Q I rx ry ⟨_, _, rfl, rfl, lim_le hz, q.str sF⟩
    · cases e
  · split at e
    · rename_i xs ys hz
      cases e
      obtain ⟨a, vs, rfl, h1, h2⟩ := r1.tup
      obtain ⟨b, us, rfl, h3, h4⟩ := r2.tup
      have l1 := h2.len
      have l2 := h4.len
      refine op_catA pins s σ H _ _ v u Q I rx ry ⟨a, b, vs, us, rfl, rfl, hK ▸ sub_sqT sF h1, hK ▸ sub_sqT sF h3, lim_le (by omega), fun e => ?_, fun _ e => ?_, fun _ _ p hp => ?_⟩
      · subst e
        have : xs = [] := List.eq_nil_of_length_eq_zero (by simpa using l1)
        subst this
        refine q.same sF ?_ ?_
        · simp only [Rep, List.nil_append]
          exact ⟨b, us, rfl, h3, h4⟩
        · exact fun _ z => nomatch z
      · subst e
        have : ys = [] := List.eq_nil_of_length_eq_zero (by simpa using l2)
        subst this
        refine q.same sF ?_ ?_
        · simp only [Rep, List.append_nil]
          exact ⟨a, vs, rfl, h1, h2⟩
        · exact fun _ z => nomatch z
      · exact q.tup sF (h2.app h4) hp
    · cases e
  · split at e
    · rename_i xs ys hz
      cases e
      obtain ⟨a, vs, rfl, h1, h2⟩ := r1.lst
      obtain ⟨b, us, rfl, h3, h4⟩ := r2.lst
      have l1 := h2.len
      have l2 := h4.len
      exact op_cat pins s σ H _ _ v u Q I rx ry ⟨a, b, vs, us, rfl, rfl, h1, h3, lim_le (by omega), fun p hp => q.lst sF (h2.app h4) hp⟩
    · cases e
  · cases e

theorem o_add (hK : X.K = T.K) : Op2 T X (binaryOp .Add) dAdd := (o_addF hK).op
def gI (f : Int → Int → D) (c : Int → Int → Prop) [∀ i j, Decidable (c i j)] : D → D → Option D
  | .int i, .int j => if c i j then some (f i j) else none
  | _, _ => none
/-- an operation on two ints -/
theorem o_int {f : Value → Value → Sem Value} {g : D → D → Option D} {gv : Int → Int → V} {gd : Int → Int → D} {C : Int → Int → Prop}
    (op : OpR X f (rI C gv)) (hg : ∀ d1 d2 d, g d1 d2 = some d → ∃ i j, d1 = .int i ∧ d2 = .int j ∧ C i j ∧ d = gd i j) (hr : ∀ i j F, Rep T F (gd i j) (gv i j)) : Op2 T X f g := by
  intro pins s σ H x y v u Q I rx ry h
  obtain ⟨F, d1, d2, d, sF, r1, r2, e, q⟩ := h
  obtain ⟨i, j, rfl, rfl, hc, rfl⟩ := hg _ _ _ e
  cases r1.int; cases r2.int
  exact op pins s σ H _ _ v u Q I rx ry ⟨i, j, rfl, rfl, hc, q.same sF (hr i j F)⟩
theorem o_int0 {f : Value → Value → Sem Value} {g : D → D → Option D} {gv : Int → Int → V} {gd : Int → Int → D}
    (op : OpR X f (rI0 gv)) (hg : ∀ d1 d2 d, g d1 d2 = some d → ∃ i j, d1 = .int i ∧ d2 = .int j ∧ d = gd i j) (hr : ∀ i j F, Rep T F (gd i j) (gv i j)) : Op2 T X f g := by
  intro pins s σ H x y v u Q I rx ry h
  obtain ⟨F, d1, d2, d, sF, r1, r2, e, q⟩ := h
  obtain ⟨i, j, rfl, rfl, rfl⟩ := hg _ _ _ e
  cases r1.int; cases r2.int
  exact op pins s σ H _ _ v u Q I rx ry ⟨i, j, rfl, rfl, q.same sF (hr i j F)⟩
theorem sem2_int {o : Op} {gd : Int → Int → D} (h : ∀ a b d, sem o [a, b] = some d → ∃ i j, a = .int i ∧ b = .int j ∧ d = gd i j) : True := trivial
theorem o_sub : Op2 T X (binaryOp .Sub) (fun a b => sem .sub [a, b]) :=
  o_int0 (gd := fun i j => .int (i - j)) op_sub (fun d1 d2 d e => by
    cases d1 <;> cases d2 <;> first | (simp only [sem] at e; cases e; exact ⟨_, _, rfl, rfl, rfl⟩) | (simp only [sem] at e; cases e)) fun i j F => by simp only [Rep]
theorem dLess_ok {a b : D} {k : Bool} (h : dLess a b = some k) : ∃ x y, a.py = some x ∧ b.py = some y ∧ PySem.W.alike x y = true ∧ x ≠ .none ∧ y ≠ .none ∧ x.depth ≤ 8 ∧ y.depth ≤ 8 ∧ k = PySem.W.dataLt x y := by
  unfold dLess at h
  split at h
  · rename_i x y h1 h2
    split at h
    · rename_i hs
      cases h
      simp only [Bool.and_eq_true, decide_eq_true_eq] at hs
      obtain ⟨⟨⟨⟨a1, a2⟩, a3⟩, a4⟩, a5⟩ := hs
      refine ⟨x, y, h1, h2, a1, fun z => ?_, fun z => ?_, a4, a5, rfl⟩
      · subst z; exact absurd a2 (by simp [pyNN])
      · subst z; exact absurd a3 (by simp [pyNN])
    · cases h
  · cases h
theorem dCmp_ok {f : Int → Int → Bool} {g : D → D → Option Bool} {a b d : D} (h : dCmp f g a b = some d) : (∃ i j, a = .int i ∧ b = .int j ∧ d = .bl (f i j)) ∨ ∃ k, g a b = some k ∧ d = .bl k := by
  unfold dCmp at h
  split at h
  · cases h
    exact .inl ⟨_, _, rfl, rfl, rfl⟩
  · obtain ⟨k, h1, h2⟩ := Option.map_eq_some_iff.mp h
    exact .inr ⟨k, h1, h2.symm⟩
theorem dless_go (hK : X.K = T.K) {pins : List (Addr × Obj)} {σ : L2.St} {s : Shared} {x y : V} {v u : Value} {d1 d2 : D} {k : Bool} (I : Inv X pins σ H s) (rx : RelV x v) (ry : RelV y u) (sF : Sub F H) (r1 : RepV T F H d1 x) (r2 : RepV T F H d2 y) (e : dLess d1 d2 = some k) :
    ∃ p1 p2 as bs, Reads s.heap v p1 as ∧ Reads s.heap u p2 bs ∧ PySem.W.alike p1 p2 = true ∧ p1 ≠ .none ∧ p2 ≠ .none ∧ p1.depth ≤ 8 ∧ p2.depth ≤ 8 ∧ k = PySem.W.dataLt p1 p2 := by
  obtain ⟨p1, p2, e1, e2, ha, n1, n2, z1, z2, rfl⟩ := dLess_ok e
  obtain ⟨as, rd1⟩ := Dp.reads I p1 x v (hK ▸ r1.dp sF e1) rx
  obtain ⟨bs, rd2⟩ := Dp.reads I p2 y u (hK ▸ r2.dp sF e2) ry
  exact ⟨p1, p2, as, bs, rd1, rd2, ha, n1, n2, z1, z2, rfl⟩
theorem o_lt (hK : X.K = T.K) (hu : X.A.units + 64 < cLine) : Op2 T X (compareOp .Lt) (fun a b => sem .lt [a, b]) := by
  intro pins s σ H x y v u Q I rx ry h
  obtain ⟨F, d1, d2, d, sF, r1, r2, e, q⟩ := h
  rcases dCmp_ok e with ⟨i, j, rfl, rfl, rfl⟩ | ⟨k, hk, rfl⟩
  · cases r1.int; cases r2.int
    exact op_lt pins s σ H _ _ v u Q I rx ry ⟨i, j, rfl, rfl, q.bl sF⟩
  · obtain ⟨p1, p2, as, bs, q1, q2, ha, n1, n2, z1, z2, rfl⟩ := dless_go hK I rx ry sF r1 r2 hk
    exact PySem.W.lt_data q1 q2 ha n1 (by have := Nat.min_le_left p1.depth p2.depth; omega) ⟨.bl _, H, I, rfl, q.bl sF⟩
theorem o_gt (hK : X.K = T.K) (hu : X.A.units + 64 < cLine) : Op2 T X (compareOp .Gt) (fun a b => sem .gt [a, b]) := by
  intro pins s σ H x y v u Q I rx ry h
  obtain ⟨F, d1, d2, d, sF, r1, r2, e, q⟩ := h
  rcases dCmp_ok e with ⟨i, j, rfl, rfl, rfl⟩ | ⟨k, hk, rfl⟩
  · cases r1.int; cases r2.int
    exact op_gt pins s σ H _ _ v u Q I rx ry ⟨i, j, rfl, rfl, q.bl sF⟩
  · obtain ⟨p2, p1, bs, as, q2, q1, ha, n2, n1, z2, z1, rfl⟩ := dless_go hK I ry rx sF r2 r1 hk
    exact PySem.W.gt_data q1 q2 (by rw [PySem.W.alike_comm]; exact ha) n1 (by have := Nat.min_le_left p1.depth p2.depth; omega) ⟨.bl _, H, I, rfl, q.bl sF⟩
theorem o_le (hK : X.K = T.K) (hu : X.A.units + 64 < cLine) : Op2 T X (compareOp .LtE) (fun a b => sem .le [a, b]) := by
  intro pins s σ H x y v u Q I rx ry h
  obtain ⟨F, d1, d2, d, sF, r1, r2, e, q⟩ := h
  rcases dCmp_ok e with ⟨i, j, rfl, rfl, rfl⟩ | ⟨k, hk, rfl⟩
  · cases r1.int; cases r2.int
    exact op_le pins s σ H _ _ v u Q I rx ry ⟨i, j, rfl, rfl, q.bl sF⟩
  · obtain ⟨k', hk', rfl⟩ := Option.map_eq_some_iff.mp hk
    obtain ⟨p2, p1, bs, as, q2, q1, ha, n2, n1, z2, z1, rfl⟩ := dless_go hK I ry rx sF r2 r1 hk'
    exact PySem.W.le_data q1 q2 (by rw [PySem.W.alike_comm]; exact ha) n1 (by have := Nat.min_le_left p1.depth p2.depth; omega) ⟨.bl _, H, I, rfl, q.bl sF⟩
theorem o_ge (hK : X.K = T.K) (hu : X.A.units + 64 < cLine) : Op2 T X (compareOp .GtE) (fun a b => sem .ge [a, b]) := by
  intro pins s σ H x y v u Q I rx ry h
  obtain ⟨F, d1, d2, d, sF, r1, r2, e, q⟩ := h
  rcases dCmp_ok e with ⟨i, j, rfl, rfl, rfl⟩ | ⟨k, hk, rfl⟩
  · cases r1.int; cases r2.int
    exact op_ge pins s σ H _ _ v u Q I rx ry ⟨i, j, rfl, rfl, q.bl sF⟩
  · obtain ⟨k', hk', rfl⟩ := Option.map_eq_some_iff.mp hk
    obtain ⟨p1, p2, as, bs, q1, q2, ha, n1, n2, z1, z2, rfl⟩ := dless_go hK I rx ry sF r1 r2 hk'
    exact PySem.W.ge_data q1 q2 ha n1 (by have := Nat.min_le_left p1.depth p2.depth; omega) ⟨.bl _, H, I, rfl, q.bl sF⟩
theorem o_fdiv : Op2 T X (binaryOp .FloorDiv) (fun a b => sem .fdiv [a, b]) :=
  o_int (C := CDiv) (gd := fun i j => .int (i / j)) op_fdiv (fun d1 d2 d e => by
    cases d1 <;> cases d2 <;> first | (simp only [sem] at e; split at e <;> first | (cases e; exact ⟨_, _, rfl, rfl, by assumption, rfl⟩) | cases e) | (simp only [sem] at e; cases e)) fun i j F => by simp only [Rep]
theorem o_mod : Op2 T X (binaryOp .Mod) (fun a b => sem .mod [a, b]) :=
  o_int (C := fun _ j => 0 < j) (gd := fun i j => .int (i % j)) op_mod (fun d1 d2 d e => by
    cases d1 <;> cases d2 <;> first | (simp only [sem] at e; split at e <;> first | (cases e; exact ⟨_, _, rfl, rfl, by assumption, rfl⟩) | cases e) | (simp only [sem] at e; cases e)) fun i j F => by simp only [Rep]
theorem o_pow : Op2 T X (binaryOp .Pow) (fun a b => sem .pow [a, b]) :=
  o_int (C := CPow) (gd := fun i j => .int (i ^ j.toNat)) op_pow (fun d1 d2 d e => by
    cases d1 <;> cases d2 <;> first | (simp only [sem] at e; split at e <;> first | (cases e; exact ⟨_, _, rfl, rfl, by assumption, rfl⟩) | cases e) | (simp only [sem] at e; cases e)) fun i j F => by simp only [Rep]
theorem Reps.repl {ds : List D} {vs : List V} (r : Reps T F ds vs) : ∀ k : Nat, Reps T F (List.replicate k ds).flatten (List.replicate k vs).flatten
  | 0 => by simp [Reps]
  | k + 1 => by
    rw [List.replicate_succ, List.replicate_succ, List.flatten_cons, List.flatten_cons]
    exact r.app (Reps.repl r k)
theorem o_mulF (hK : X.K = T.K) : Op2F T X (binaryOp .Mult) (fun a b => dMul a b) := by
  intro pins s σ H x y v u Q I rx ry h
  obtain ⟨F, d1, d2, d, sF, r1, r2, e, q⟩ := h
  simp only [dMul] at e
  split at e
  · split at e
    · rename_i i j hm
      cases e
      cases r1.int; cases r2.int
      rcases Bool.or_eq_true_iff.mp hm with z | z
      · exact op_mul pins s σ H _ _ v u Q I rx ry ⟨_, _, rfl, rfl, .inl (of_decide_eq_true z), q.int sF⟩
      rcases Bool.or_eq_true_iff.mp z with z | z
      · exact op_mul pins s σ H _ _ v u Q I rx ry ⟨_, _, rfl, rfl, .inr (of_decide_eq_true z), q.int sF⟩
      · have zz := of_decide_eq_true z
        exact op_mulW pins s σ H _ _ v u Q I rx ry ⟨_, _, rfl, rfl, wide_mul (a := 1024) (b := 1024) zz.1 zz.2 (by omega) (by omega) (by omega), q.int sF⟩
    · cases e
  · split at e
    · rename_i xs k hz
      cases e
      cases r2.int
      obtain ⟨a, vs, rfl, h1, h2⟩ := r1.tup
      have l1 := h2.len
      refine op_repT pins s σ H _ _ v u Q I rx ry ⟨a, k, vs, rfl, rfl, hK ▸ sub_sqT sF h1, ?_, hz.2.1, hz.2.2.1, by rw [← l1]; exact hz.2.2.2, fun p hp => q.tup sF (h2.repl _) hp⟩
      intro e
      rw [e] at l1
      have := hz.1
      rw [l1] at this
      simp at this
    · cases e
  · split at e
    · rename_i xs k hz
      cases e
      cases r2.int
      obtain ⟨a, vs, rfl, h1, h2⟩ := r1.lst
      have l1 := h2.len
      exact op_rep pins s σ H _ _ v u Q I rx ry ⟨a, k, vs, rfl, rfl, h1, by omega, by omega, lim_le (by rw [← l1]; exact hz.2.2), fun p hp => q.lst sF (h2.repl _) hp⟩
    · cases e
  · cases e

theorem o_mul (hK : X.K = T.K) : Op2 T X (binaryOp .Mult) (fun a b => dMul a b) := (o_mulF hK).op
theorem dEq_ok {a b : D} {k : Bool} (h : dEq a b = some k) : ∃ x y, a.py = some x ∧ b.py = some y ∧ SeqAt.shaped x = true ∧ SeqAt.shaped y = true ∧ k = PyData.eqv x y := by
  unfold dEq at h
  split at h
  · rename_i x y h1 h2
    split at h
    · rename_i hs
      cases h
      obtain ⟨a1, a2⟩ := Bool.and_eq_true_iff.mp hs
      exact ⟨x, y, h1, h2, a1, a2, rfl⟩
    · cases h
  · cases h
theorem sem_eq {a b d : D} (h : sem .eq [a, b] = some d) : ∃ k, dEq a b = some k ∧ d = .bl k := by
  simp only [sem] at h
  obtain ⟨k, h1, h2⟩ := Option.map_eq_some_iff.mp h
  exact ⟨k, h1, h2.symm⟩
theorem o_eq (hK : X.K = T.K) (hu : X.A.units + 64 < cLine) : Op2 T X (compareOp .Eq) (fun a b => sem .eq [a, b]) := by
  intro pins s σ H x y v u Q I rx ry h
  obtain ⟨F, d1, d2, d, sF, r1, r2, e, q⟩ := h
  obtain ⟨k, hk, rfl⟩ := sem_eq e
  obtain ⟨p1, p2, e1, e2, s1, s2, rfl⟩ := dEq_ok hk
  exact op_eqD hu pins s σ H x y v u Q I rx ry ⟨p1, p2, hK ▸ r1.dp sF e1, hK ▸ r2.dp sF e2, s1, s2, q.bl sF⟩
theorem o_ne (hK : X.K = T.K) (hu : X.A.units + 64 < cLine) : Op2 T X (compareOp .NotEq) (fun a b => sem .ne [a, b]) := by
  intro pins s σ H x y v u Q I rx ry h
  obtain ⟨F, d1, d2, d, sF, r1, r2, e, q⟩ := h
  simp only [sem] at e
  obtain ⟨k, hk, rfl⟩ := Option.map_eq_some_iff.mp e
  obtain ⟨p1, p2, e1, e2, s1, s2, rfl⟩ := dEq_ok hk
  exact op_neD hu pins s σ H x y v u Q I rx ry ⟨p1, p2, hK ▸ r1.dp sF e1, hK ▸ r2.dp sF e2, s1, s2, q.bl sF⟩
theorem seq_dp (sF : Sub F H) {ds : List D} {ys : List PyData} {x : V} (e : pys ds = some ys) (r : RepV T F H (.lst ds) x) : Dp T.K H x (.list ys) := r.dp sF (by simp only [D.py, e, Option.map_some])
theorem tup_dp (sF : Sub F H) {ds : List D} {ys : List PyData} {x : V} (e : pys ds = some ys) (r : RepV T F H (.tup ds) x) : Dp T.K H x (.tuple ys) := r.dp sF (by simp only [D.py, e, Option.map_some])
theorem dIn_lst {x : D} {ys : List D} {k : Bool} (h : (match x.py, pys ys with
    | some a, some bs => if SeqAt.shaped a && SeqAt.shaped (.list bs) then some (bs.any fun z => PyData.eqv z a) else none
    | _, _ => none) = some k) : ∃ a bs, x.py = some a ∧ pys ys = some bs ∧ SeqAt.shaped a = true ∧ SeqAt.shaped (.list bs) = true ∧ k = bs.any fun z => PyData.eqv z a := by
  split at h
  · rename_i a bs h1 h2
    split at h
    · rename_i hs
      cases h
      obtain ⟨a1, a2⟩ := Bool.and_eq_true_iff.mp hs
      exact ⟨a, bs, h1, h2, a1, a2, rfl⟩
    · cases h
  · cases h
/-- in, over values -/
theorem o_inV (hK : X.K = T.K) (hu : X.A.units + 65 < cLine) {pins : List (Addr × Obj)} {s : Shared} {σ : L2.St} {H : Hp} {x y : V} {v u : Value} {k : Bool} {d1 d2 : D} (I : Inv X pins σ H s) (rx : RelV x v) (ry : RelV y u) (sF : Sub F H) (r1 : RepV T F H d1 x) (r2 : RepV T F H d2 y)
    (e : dIn d1 d2 = some k) :
    (Q (.bl k) H → wpAny (model X.prog X.w) X.A (compareOp .In v u) (EP X pins σ Q) X.xe s) ∧ (Q (.bl (!k)) H → wpAny (model X.prog X.w) X.A (compareOp .NotIn v u) (EP X pins σ Q) X.xe s) := by
  unfold dIn at e
  split at e
  · obtain ⟨a, bs, h1, h2, s1, s2, rfl⟩ := dIn_lst e
    obtain ⟨as, rd1⟩ := Dp.reads I a x v (hK ▸ r1.dp sF h1) rx
    obtain ⟨cs, rd2⟩ := Dp.reads I (.list bs) y u (hK ▸ seq_dp sF h2 r2) ry
    exact ⟨fun q => SeqAt.in_list_reads rd2 rd1 (SeqAt.canLay_of_shaped s2) (SeqAt.canLay_of_shaped s1) (room_in_shaped s1 hu) ⟨.bl _, H, I, rfl, q⟩,
      fun q => SeqAt.notIn_list_reads rd2 rd1 (SeqAt.canLay_of_shaped s2) (SeqAt.canLay_of_shaped s1) (room_in_shaped s1 hu) ⟨.bl _, H, I, rfl, q⟩⟩
  · obtain ⟨a, bs, h1, h2, s1, s2, rfl⟩ := dIn_lst e
    obtain ⟨as, rd1⟩ := Dp.reads I a x v (hK ▸ r1.dp sF h1) rx
    obtain ⟨cs, rd2⟩ := Dp.reads I (.tuple bs) y u (hK ▸ tup_dp sF h2 r2) ry
    exact ⟨fun q => SeqAt.in_tuple_reads rd2 rd1 (SeqAt.canLay_of_shaped s2) (SeqAt.canLay_of_shaped s1) (room_in_shaped s1 hu) ⟨.bl _, H, I, rfl, q⟩,
      fun q => SeqAt.notIn_tuple_reads rd2 rd1 (SeqAt.canLay_of_shaped s2) (SeqAt.canLay_of_shaped s1) (room_in_shaped s1 hu) ⟨.bl _, H, I, rfl, q⟩⟩
  · split at e
    · cases e
      cases r1.str; cases r2.str
      exact ⟨fun q => op_in_str pins s σ H _ _ v u Q I rx ry ⟨_, _, rfl, rfl, q⟩, fun q => op_notin_str pins s σ H _ _ v u Q I rx ry ⟨_, _, rfl, rfl, q⟩⟩
    · cases e
  · obtain ⟨o, ho, rfl⟩ := Option.map_eq_some_iff.mp e
    obtain ⟨p, vs, rfl, rv, g, hl⟩ := dget_of sF r2 r1 ho
    cases ry
    have eo : (o.bind fun i => vs[i]?).isSome = o.isSome := by
      cases o with
      | none => rfl
      | some i =>
        have := kFind_lt ho
        simp [← hl, this]
    exact ⟨fun q => d_in (by omega) I g rx fun s' I' => ⟨.bl _, H, I', rfl, by rw [eo]; exact q⟩, fun q => d_notIn (by omega) I g rx fun s' I' => ⟨.bl _, H, I', rfl, by rw [eo]; exact q⟩⟩
  · cases e

theorem o_ix (hK : X.K = T.K) (hu : X.A.units + 65 < cLine) : IxR X fun x y H Q => ∃ F d1 d2 d, Sub F H ∧ RepV T F H d1 x ∧ RepV T F H d2 y ∧ dIx d1 d2 = some d ∧ PQ T F H d Q := by
  intro va sl pins s σ H x y v u Q I rx ry h hsl
  obtain ⟨F, d1, d2, d, sF, r1, r2, e, q⟩ := h
  have at_ : ∀ {xs : List D} {vs : List V} {i : Int} {d : D}, Reps T F xs vs → atI xs i = some d → ∃ z, atI vs i = some z ∧ Rep T F d z := fun {xs vs i d} r e => by
    unfold atI at e ⊢
    rw [← r.len]
    cases hn : ixN xs.length i with
    | none => rw [hn] at e; cases e
    | some j =>
      rw [hn] at e
      obtain ⟨z, h1, h2⟩ := r.get e
      exact ⟨z, h1, h2⟩
  unfold dIx at e
  split at e
  · cases r2.int
    obtain ⟨a, vs, rfl, h1, h2⟩ := r1.lst
    obtain ⟨z, h3, h4⟩ := at_ h2 e
    exact ix_list va sl pins s σ H _ _ v u Q I rx ry ⟨a, vs, _, z, rfl, rfl, .of h1, h3, q.same sF h4⟩ hsl
  · cases r2.int
    obtain ⟨a, vs, rfl, h1, h2⟩ := r1.scr
    obtain ⟨z, h3, h4⟩ := at_ h2 e
    exact ix_list va sl pins s σ H _ _ v u Q I rx ry ⟨a, vs, _, z, rfl, rfl, hK ▸ sub_sqL sF h1, h3, q.same sF h4⟩ hsl
  · cases r2.int
    obtain ⟨a, vs, rfl, h1, h2⟩ := r1.tup
    obtain ⟨z, h3, h4⟩ := at_ h2 e
    exact ix_tup va sl pins s σ H _ _ v u Q I rx ry ⟨a, vs, _, z, rfl, rfl, hK ▸ sub_sqT sF h1, h3, q.same sF h4⟩ hsl
  · split at e
    · rename_i hz
      obtain ⟨c, h1, rfl⟩ := Option.map_eq_some_iff.mp e
      cases r1.str; cases r2.int
      exact ix_str va sl pins s σ H _ _ v u Q I rx ry ⟨_, _, c, rfl, rfl, lim_le hz, h1, q.str sF⟩ hsl
    · cases e
  · split at e
    · rename_i i hk
      obtain ⟨p, vs, rfl, rv, g, hl⟩ := dget_of sF r1 r2 hk
      obtain ⟨z, h3, h4⟩ := rv.get e
      rw [Option.bind_some, h3] at g
      cases rx
      exact tail_any (dict_typeIs I g) PySem.F.slot_dict_getitem.lookup (d_getItem (by omega) I g ry fun w' s' I' rw' => ⟨z, H, I', rw', q.same sF h4⟩) hsl
    · cases e
  · cases e

theorem Reps.cut {ds : List D} {vs : List V} (r : Reps T F ds vs) (lo hi : Option Int) : Reps T F ((ds.drop (HT.sIx ds.length 0 lo)).take (HT.sIx ds.length ds.length hi - HT.sIx ds.length 0 lo)) (cutV vs lo hi) := by
  unfold cutV
  rw [← r.len]
  exact (r.drop _).take _
theorem o_sliceF (hK : X.K = T.K) : SlR X fun x lo hi H Q => ∃ F d1 d, Sub F H ∧ RepV T F H d1 x ∧ dCut d1 lo hi = some d ∧ PF T F H d Q := by
  intro pins s σ H x v vl vu lo hi sl Q I rx hs pl pu h
  obtain ⟨F, d1, d, sF, r1, e, q⟩ := h
  unfold dCut at e
  split at e
  · cases e
    obtain ⟨a, vs, rfl, h1, h2⟩ := r1.scr
    exact sl_list pins s σ H _ v vl vu lo hi sl Q I rx hs pl pu ⟨a, vs, rfl, hK ▸ sub_sqL sF h1, fun p hp => q.lst sF (h2.cut lo hi) hp⟩
  · cases e
    obtain ⟨a, vs, rfl, h1, h2⟩ := r1.lst
    exact sl_list pins s σ H _ v vl vu lo hi sl Q I rx hs pl pu ⟨a, vs, rfl, .of h1, fun p hp => q.lst sF (h2.cut lo hi) hp⟩
  · cases e
    rename_i xs
    obtain ⟨a, vs, rfl, h1, h2⟩ := r1.tup
    refine sl_tupA pins s σ H _ v vl vu lo hi sl Q I rx hs pl pu ⟨a, vs, rfl, hK ▸ sub_sqT sF h1, fun hw => ?_, fun _ p hp => q.tup sF (h2.cut lo hi) hp⟩
    refine q.same sF ?_ fun _ z => nomatch z
    rw [← h2.len] at hw
    rw [hw.1, hw.2, Nat.sub_zero, List.drop_zero, List.take_length]
    simp only [Rep]
    exact ⟨a, vs, rfl, h1, h2⟩
  · split at e
    · rename_i hz
      cases e
      cases r1.str
      exact sl_str pins s σ H _ v vl vu lo hi sl Q I rx hs pl pu ⟨_, rfl, lim_le hz, q.str sF⟩
    · cases e
  · cases e
theorem o_slice (hK : X.K = T.K) : SlR X fun x lo hi H Q => ∃ F d1 d, Sub F H ∧ RepV T F H d1 x ∧ dCut d1 lo hi = some d ∧ PQ T F H d Q := fun pins s σ H x v vl vu lo hi sl Q I rx hs pl pu ⟨F, d1, d, sF, r1, e, q⟩ =>
  o_sliceF hK pins s σ H x v vl vu lo hi sl Q I rx hs pl pu ⟨F, d1, d, sF, r1, e, q.pf⟩

/-- a built-in function by its values -/
def OpC (T : Tb) (X : Cx) (f : Value) (o : Op) : Prop := CallR X f fun xs H Q => ∃ F ds d, Sub F H ∧ Paired (fun x d => RepV T F H d x) xs ds ∧ sem o ds = some d ∧ PQ T F H d Q
def OpCF (T : Tb) (X : Cx) (f : Value) (o : Op) : Prop := CallR X f fun xs H Q => ∃ F ds d, Sub F H ∧ Paired (fun x d => RepV T F H d x) xs ds ∧ sem o ds = some d ∧ PF T F H d Q
theorem OpCF.op {f : Value} {o : Op} (h : OpCF T X f o) : OpC T X f o := fun pins s σ H xs us Q I r ⟨F, ds, d, sF, p, e, q⟩ => h pins s σ H xs us Q I r ⟨F, ds, d, sF, p, e, q.pf⟩
theorem p1 {T : Tb} {F H : Hp} {xs : List V} {d : D} (p : Paired (fun x d => RepV T F H d x) xs [d]) : ∃ x, xs = [x] ∧ RepV T F H d x := by
  cases p with
  | cons a b => cases b; exact ⟨_, rfl, a⟩
theorem p2 {T : Tb} {F H : Hp} {xs : List V} {d e : D} (p : Paired (fun x d => RepV T F H d x) xs [d, e]) : ∃ x y, xs = [x, y] ∧ RepV T F H d x ∧ RepV T F H e y := by
  cases p with
  | cons a b =>
    cases b with
    | cons b c => cases c; exact ⟨_, _, rfl, a, b⟩
theorem sem1 {o : Op} {ds : List D} {d : D} (e : sem o ds = some d) (h1 : ∀ a b r, sem o (a :: b :: r) = none) (h0 : sem o [] = none) : ∃ a, ds = [a] := by
  match ds, e with
  | [], e => rw [h0] at e; cases e
  | [a], e => exact ⟨a, rfl⟩
  | a :: b :: r, e => rw [h1] at e; cases e
theorem c_len (hK : X.K = T.K) : OpC T X (.builtin "len") .len := by
  intro pins s σ H xs us Q I r h
  obtain ⟨F, ds, d, sF, p, e, q⟩ := h
  obtain ⟨a, rfl⟩ := sem1 e (fun a b r => by cases a <;> rfl) rfl
  obtain ⟨x, rfl, rx⟩ := p1 p
  cases a with
  | lst ys =>
    simp only [sem] at e
    cases e
    obtain ⟨a, vs, rfl, h1, h2⟩ := rx.lst
    exact call_len_seq pins s σ H _ us Q I r ⟨a, vs, rfl, .inl (.of h1), by rw [← h2.len]; exact q.int sF⟩
  | scr ys =>
    simp only [sem] at e
    cases e
    obtain ⟨a, vs, rfl, h1, h2⟩ := rx.scr
    exact call_len_seq pins s σ H _ us Q I r ⟨a, vs, rfl, .inl (hK ▸ sub_sqL sF h1), by rw [← h2.len]; exact q.int sF⟩
  | tup ys =>
    simp only [sem] at e
    cases e
    obtain ⟨a, vs, rfl, h1, h2⟩ := rx.tup
    exact call_len_seq pins s σ H _ us Q I r ⟨a, vs, rfl, .inr (hK ▸ sub_sqT sF h1), by rw [← h2.len]; exact q.int sF⟩
  | str z =>
    simp only [sem] at e
    split at e
    · rename_i hz
      cases e
      cases rx.str
      exact call_len_str pins s σ H _ us Q I r ⟨_, rfl, lim_le hz, q.int sF⟩
    · cases e
  | dic t ks ys =>
    simp only [sem] at e
    cases e
    obtain ⟨a, vs, rfl, h1, dh⟩ := rx
    obtain ⟨u1, rfl, ru⟩ := vals1 r
    cases ru
    have hl := dh.len
    cases t with
    | false =>
      obtain ⟨kl, h2, h3, _, h4⟩ := dh
      refine d_len I h4 fun t s' I' => ⟨.int (kl.zip vs).length, H, I', ⟨_, rfl⟩, ?_⟩
      rw [List.length_zip, h3, Nat.min_self, ← hl]
      exact q.int sF
    | true =>
      obtain ⟨kl, h2, h3, _, h4⟩ := dh
      obtain ⟨z, hd, ys, rel, dd⟩ := dt_rd I.hok h4
      have hl2 : (kl.zip vs).length = ys.length := Paired.length rel
      refine call_len_dictH hd dd (by rw [← hl2]; rw [sizeLine_eq] at z; omega) ?_
      rw [← hl2]
      refine ⟨.int (((kl.zip vs).length : Nat) : Int), H, I.tok _, ⟨_, rfl⟩, ?_⟩
      rw [List.length_zip, h3, Nat.min_self, ← hl]
      exact q.int sF
  | _ => simp only [sem] at e; cases e
/-- the keys in a new list -/
theorem PF.keysL {ks : List D} {kl : List (List Key)} {vs : List V} {bs : List Addr} {p : Addr} (q : PF T F H (.lst ks) Q) (sF : Sub F H) (h1 : keysT ks = some kl) (h2 : kl.length = vs.length) (hb : L2.IsKeys H (kl.zip vs) bs) (hp : H p = none) : Q (.ref p) (upd H p (.lst (bs.map V.ref))) := by
  obtain ⟨F', g, hF⟩ := Grow.keys sF bs (IsKeys.tups hb)
  exact q p _ F' hp g (IsKeys.reps g.fh h1 h2 hb hF)
theorem PQ.keysTp {ks : List D} {kl : List (List Key)} {vs : List V} {bs : List Addr} {p : Addr} (q : PQ T F H (.tup ks) Q) (sF : Sub F H) (h1 : keysT ks = some kl) (h2 : kl.length = vs.length) (hb : L2.IsKeys H (kl.zip vs) bs) (hp : H p = none) : Q (.ref p) (upd H p (.tup (bs.map V.ref))) := by
  obtain ⟨F', g, hF⟩ := Grow.keys sF bs (IsKeys.tups hb)
  have g2 := Grow.new g.fh (o := .tup (bs.map V.ref)) hp
  refine q _ _ _ (g.trans g2) ?_
  simp only [Rep]
  exact ⟨p, _, rfl, upd_same, (IsKeys.reps g.fh h1 h2 hb hF).mono g2.fs⟩
theorem c_listF (hK : X.K = T.K) (hc : X.calm = true) : OpCF T X (.type "list") .list := by
  intro pins s σ H xs us Q I r h
  obtain ⟨F, ds, d, sF, p, e, q⟩ := h
  obtain ⟨a, rfl⟩ := sem1 e (fun a b r => by cases a <;> rfl) rfl
  obtain ⟨x, rfl, rx⟩ := p1 p
  cases a with
  | lst ys =>
    simp only [sem] at e
    cases e
    obtain ⟨a, vs, rfl, h1, h2⟩ := rx.lst
    exact call_list_of pins s σ H _ us Q I r ⟨a, vs, rfl, .inl (.of h1), fun l hl => q.lst sF h2 hl⟩
  | tup ys =>
    simp only [sem] at e
    cases e
    obtain ⟨a, vs, rfl, h1, h2⟩ := rx.tup
    exact call_list_of pins s σ H _ us Q I r ⟨a, vs, rfl, .inr (hK ▸ sub_sqT sF h1), fun l hl => q.lst sF h2 hl⟩
  | dic t ks ds =>
    simp only [sem] at e
    cases e
    obtain ⟨a, vs, rfl, h1, dh⟩ := rx
    cases t with
    | true =>
      obtain ⟨kl, h2, h3, _, h4⟩ := dh
      exact call_list_dT hc pins s σ H _ us Q I r ⟨a, _, rfl, h4, fun p bs hp hb => q.keysL sF h2 h3 hb hp⟩
    | false =>
      obtain ⟨kl, h2, h3, _, h4⟩ := dh
      exact call_list_dKr hc pins s σ H _ us Q I r ⟨a, _, rfl, h4, fun p hp => q.lst sF (zip_fst h2 h3) hp⟩
  | _ => simp only [sem] at e; cases e
theorem c_list (hK : X.K = T.K) (hc : X.calm = true) : OpC T X (.type "list") .list := (c_listF hK hc).op
theorem c_tuple (hK : X.K = T.K) (hc : X.calm = true) : OpC T X (.type "tuple") .tuple := by
  intro pins s σ H xs us Q I r h
  obtain ⟨F, ds, d, sF, p, e, q⟩ := h
  obtain ⟨a, rfl⟩ := sem1 e (fun a b r => by cases a <;> rfl) rfl
  obtain ⟨x, rfl, rx⟩ := p1 p
  cases a with
  | lst ys =>
    simp only [sem] at e
    cases e
    obtain ⟨a, vs, rfl, h1, h2⟩ := rx.lst
    exact call_tuple_of pins s σ H _ us Q I r ⟨a, vs, rfl, .inl ⟨.of h1, fun l hl => q.tup sF h2 hl⟩⟩
  | tup ys =>
    simp only [sem] at e
    cases e
    obtain ⟨a, vs, rfl, h1, h2⟩ := rx.tup
    refine call_tuple_of pins s σ H _ us Q I r ⟨a, vs, rfl, .inr ⟨hK ▸ sub_sqT sF h1, q.same sF ?_⟩⟩
    simp only [Rep]
    exact ⟨a, vs, rfl, h1, h2⟩
  | dic t ks ds =>
    simp only [sem] at e
    cases e
    obtain ⟨a, vs, rfl, h1, dh⟩ := rx
    cases t with
    | true =>
      obtain ⟨kl, h2, h3, _, h4⟩ := dh
      exact call_tuple_dT hc pins s σ H _ us Q I r ⟨a, _, rfl, h4, fun p bs hp hb => q.keysTp sF h2 h3 hb hp⟩
    | false =>
      obtain ⟨kl, h2, h3, _, h4⟩ := dh
      exact call_tuple_dK hc pins s σ H _ us Q I r ⟨a, _, rfl, h4, fun p hp => q.tup sF (zip_fst h2 h3) hp⟩
  | _ => simp only [sem] at e; cases e
/-! ### sorted -/
theorem sIns_perm (x : D × PyData) : ∀ l, (sIns x l).Perm (x :: l)
  | [] => List.Perm.refl _
  | y :: r => by
    unfold sIns
    split
    · exact List.Perm.refl _
    · exact ((sIns_perm x r).cons y).trans (List.Perm.swap x y r)
theorem iSort_perm : ∀ l, (iSort l).Perm l
  | [] => List.Perm.refl _
  | x :: r => (sIns_perm x _).trans ((iSort_perm r).cons x)
theorem sLe_eq : sLe = PySem.W.sortLe (PyProof.Rows.listOrd PyProof.Rows.itemOrd) false fun b : D × PyData => PySem.W.keyToks b.2 := rfl
theorem sLe_total : PySem.W.TotalLe sLe := by rw [sLe_eq]; exact PySem.W.sortLe_total _ _ _
theorem sIns_sorted (x : D × PyData) : ∀ l, l.Pairwise (fun a b => sLe a b = true) → (sIns x l).Pairwise (fun a b => sLe a b = true)
  | [], _ => List.pairwise_singleton _ _
  | y :: r, h => by
    obtain ⟨h1, h2⟩ := List.pairwise_cons.mp h
    unfold sIns
    split
    · rename_i hxy
      exact List.pairwise_cons.mpr ⟨fun z hz => by
        rcases List.mem_cons.mp hz with rfl | hz
        · exact hxy
        · exact sLe_total.trans _ _ _ hxy (h1 z hz), h⟩
    · rename_i hxy
      refine List.pairwise_cons.mpr ⟨fun z hz => ?_, sIns_sorted x r h2⟩
      rcases List.mem_cons.mp ((sIns_perm x r).mem_iff.mp hz) with rfl | hz
      · rcases sLe_total.total z y with t | t
        · exact absurd t hxy
        · exact t
      · exact h1 z hz
theorem iSort_sorted : ∀ l, (iSort l).Pairwise (fun a b => sLe a b = true)
  | [] => List.Pairwise.nil
  | x :: r => sIns_sorted x _ (iSort_sorted r)
theorem sIns_filter (c x : D × PyData) : ∀ l, (sIns x l).filter (PySem.W.sameRank sLe c) = (x :: l).filter (PySem.W.sameRank sLe c)
  | [] => rfl
  | y :: r => by
    unfold sIns
    split
    · rfl
    · rename_i hxy
      rw [List.filter_cons, sIns_filter c x r, List.filter_cons, List.filter_cons, List.filter_cons]
      by_cases cx : PySem.W.sameRank sLe c x = true
      · by_cases cy : PySem.W.sameRank sLe c y = true
        · exfalso
          unfold PySem.W.sameRank at cx cy
          rw [Bool.and_eq_true] at cx cy
          exact hxy (sLe_total.trans _ _ _ cx.2 cy.1)
        · rw [if_neg cy, if_neg cy]
      · by_cases cy : PySem.W.sameRank sLe c y = true
        · rw [if_neg cx, if_neg cx]
        · rw [if_neg cx, if_neg cy, if_neg cx]
theorem iSort_filter (c : D × PyData) : ∀ l, (iSort l).filter (PySem.W.sameRank sLe c) = l.filter (PySem.W.sameRank sLe c)
  | [] => rfl
  | x :: r => by
    unfold iSort
    rw [sIns_filter, List.filter_cons, iSort_filter c r, List.filter_cons]
theorem iSort_eq (l : List (D × PyData)) : iSort l = l.mergeSort sLe := PySem.W.sort_unique sLe_total (iSort_sorted l) fun c => iSort_filter c l
theorem pys_len : ∀ {ys : List D} {ps : List PyData}, pys ys = some ps → ps.length = ys.length
  | [], ps, h => by simp only [pys] at h; cases h; rfl
  | x :: r, ps, h => by
    simp only [pys] at h
    split at h
    · rename_i a b h1 h2
      cases h
      simp [pys_len h2]
    · cases h
theorem each_of (hK : X.K = T.K) {pins : List (Addr × Obj)} {σ : L2.St} {s : Shared} (I : Inv X pins σ H s) (sF : Sub F H) : ∀ {ys : List D} {vs : List V} {its : List Value} {ps : List PyData}, Reps T F ys vs → Vals vs its → pys ys = some ps →
    PySem.W.EachIs (fun v (b : D × PyData) => ∃ x, RelV x v ∧ Rep T F b.1 x) its (ys.zip ps) ∧ PySem.W.EachIs (fun v (b : D × PyData) => ∃ as, Reads s.heap v b.2 as) its (ys.zip ps)
  | [], vs, its, ps, r, rv, e => by
    simp only [Reps] at r
    subst r
    cases rv
    exact ⟨.nil, .nil⟩
  | y :: ys, vs, its, ps, r, rv, e => by
    simp only [Reps] at r
    obtain ⟨v, r', rfl, h1, h2⟩ := r
    cases rv with
    | cons q1 q2 =>
      simp only [pys] at e
      split at e
      · rename_i p pr e1 e2
        cases e
        obtain ⟨a1, a2⟩ := each_of hK I sF h2 q2 e2
        exact ⟨.cons ⟨v, q1, h1⟩ a1, .cons (Dp.reads I p v _ (hK ▸ Rep.dp sF y v p h1 e1) q1) a2⟩
      · cases e
theorem each_back : ∀ {its : List Value} {bs : List (D × PyData)}, PySem.W.EachIs (fun v (b : D × PyData) => ∃ x, RelV x v ∧ Rep T F b.1 x) its bs → ∃ vs, Vals vs its ∧ Reps T F (bs.map (·.1)) vs
  | _, _, .nil => ⟨[], .nil, .nil⟩
  | _, _, .cons ⟨x, r1, r2⟩ t => by
    obtain ⟨vs, h1, h2⟩ := each_back t
    exact ⟨x :: vs, .cons r1 h1, .cons r2 h2⟩
theorem dSort_ok {ys : List D} {d : D} (h : dSort ys = some d) : ∃ ps, pys ys = some ps ∧ PySem.W.AllAlike ps ∧ (PySem.W.Sortable ps ∨ (ps.length < 2 ∧ ∀ x ∈ ps, x ≠ .none)) ∧ (∀ x ∈ ps, x.depth ≤ 8) ∧ ys.length ≤ lim ∧ d = .lst ((iSort (ys.zip ps)).map (·.1)) := by
  unfold dSort at h
  split at h
  · rename_i ps hp
    split at h
    · rename_i hs
      cases h
      simp only [sortOk, Bool.and_eq_true, decide_eq_true_eq, List.all_eq_true, Bool.or_eq_true] at hs
      obtain ⟨⟨⟨a1, a2⟩, a3⟩, a4⟩ := hs
      refine ⟨ps, hp, fun x hx y hy => a1 x hx y hy, ?_, fun x hx => a3 x hx, a4, rfl⟩
      rcases a2 with (z | z) | z
      · refine .inl (.inl fun x hx => ?_)
        have := z x hx
        cases x with
        | tuple xs =>
          cases xs with
          | nil => simp [neTup] at this
          | cons y r => exact ⟨y, r, rfl⟩
        | _ => simp [neTup] at this
      · refine .inl (.inr fun x hx => ⟨fun q => ?_, fun xs q => ?_⟩)
        · have := z x hx
          rw [q] at this
          simp [noTup] at this
        · have := z x hx
          rw [q] at this
          simp [noTup] at this
      · refine .inr ⟨z.1, fun x hx q => ?_⟩
        have := z.2 x hx
        rw [q] at this
        simp [notNone] at this
    · cases h
  · cases h
/-- fewer than two are never compared -/
theorem sortsAt_few {prog : Program} {w : World} {A : Around} {s : Shared} {vs : List Value} {ds : List PyData} (e : PySem.W.EachIs (fun v d => ∃ as, Reads s.heap v d as) vs ds) (hal : PySem.W.AllAlike ds) (hn : ∀ d ∈ ds, d ≠ .none) (h2 : vs.length < 2) (hu : ∀ d, d ∈ ds → A.units + d.depth < cLine) : PySem.W.SortsAt prog w A s (PySem.W.dataKind s.heap ds) vs := by
  refine ⟨fun v hv => ?_, PyProof.Rows.general', ?_, fun h => absurd h (by omega)⟩
  · obtain ⟨d, hd, as, r⟩ := e.left v hv
    exact ⟨_, PySem.W.dataKind_some hal hd r⟩
  · intro E x y a b Q ha hb hq
    obtain ⟨d, as, hd, ra, rfl⟩ := PySem.W.dataKind_inv ha
    obtain ⟨d', as', hd', rb, rfl⟩ := PySem.W.dataKind_inv hb
    have room : A.units + min d.depth d'.depth < cLine := Nat.lt_of_le_of_lt (Nat.add_le_add_left (Nat.min_le_left _ _) _) (hu d hd)
    show wpAny _ A (PyProof.Rows.oneLt' false x y) _ _ _
    exact PySem.W.oneLt_alike (fun h => by cases h) ra rb (hal d hd d' hd') (hn d hd) room hq
theorem zip_map_snd {ys : List D} {ps : List PyData} (h : pys ys = some ps) : (ys.zip ps).map (·.2) = ps := List.map_snd_zip (by rw [pys_len h]; exact Nat.le_refl _)
theorem sort_rest (hK : X.K = T.K) (hu : X.A.units + 64 < cLine) {pins : List (Addr × Obj)} {σ : L2.St} {s : Shared} (I : Inv X pins σ H s) {ys : List D} {vs : List V} {its : List Value} {d : D} (sF : Sub F H) (r : Reps T F ys vs) (rv : Vals vs its) (e : dSort ys = some d) (q : PF T F H d Q) :
    wpAny (model X.prog X.w) X.A.in1 (do
      let l ← newList its
      let _ ← holding [l] (call (.builtin "list.sort") [l] [])
      ret l) (fun fin s' => ∃ v, fin = PySem.Fin.done (Flow.ret v) ∧ EP X pins σ Q v s') X.xe s := by
  obtain ⟨ps, hp, hal, hk, hd, hz, rfl⟩ := dSort_ok e
  have hlen : its.length = ys.length := by rw [r.len, Paired.length rv]
  have hL : its.length ≤ sizeLine := by rw [hlen]; exact lim_le hz
  obtain ⟨e1, e2⟩ := each_of hK I sF r rv hp
  have hm : (ys.zip ps).map (fun b : D × PyData => b.2) = ps := zip_map_snd hp
  refine wpAny_bind (wpAny_newList ?_ hL)
  have hoL : (s.heap.push (seqObj "list" its.toArray 0)).get? s.heap.objs.size = some (seqObj "list" its.toArray 0) := Heap.get?_push_size _ rfl
  have kp : ∀ b o, s.heap.get? b = some o → (PySem.W.sortingHeap (s.heap.push (seqObj "list" its.toArray 0)) s.heap.objs.size its).get? b = some o := fun b o z =>
    PySem.W.sortingHeap_old (Nat.ne_of_lt (Heap.lt_size z)) (Heap.get?_push_of_some _ z)
  have e2' : PySem.W.EachIs (fun v (b : D × PyData) => ∃ as, Reads (PySem.W.sortingHeap (s.heap.push (seqObj "list" its.toArray 0)) s.heap.objs.size its) v b.2 as) its (ys.zip ps) := e2.mono fun _ _ ⟨as, z⟩ => ⟨as, PyProof.Rows.Reads.keeps kp z⟩
  have S : PySem.W.SortsAt X.prog X.w X.A.in1.in1 { s with heap := PySem.W.sortingHeap (s.heap.push (seqObj "list" its.toArray 0)) s.heap.objs.size its } (PySem.W.dataKind (PySem.W.sortingHeap (s.heap.push (seqObj "list" its.toArray 0)) s.heap.objs.size its) ((ys.zip ps).map fun b : D × PyData => b.2)) its := by
    have room : ∀ d : PyData, d ∈ (ys.zip ps).map (fun b : D × PyData => b.2) → X.A.in1.in1.units + d.depth < cLine := fun d hd' => by
      rw [hm] at hd'
      have := hd d hd'
      show X.A.units + 1 + 1 + d.depth < cLine
      omega
    have each := PySem.W.each_map (R := fun v d => ∃ as, Reads (PySem.W.sortingHeap (s.heap.push (seqObj "list" its.toArray 0)) s.heap.objs.size its) v d as) (fun b : D × PyData => b.2) e2'
    rcases hk with hk | ⟨hk, hnn⟩
    · exact PySem.W.SortsAt.data (s := { s with heap := PySem.W.sortingHeap (s.heap.push (seqObj "list" its.toArray 0)) s.heap.objs.size its }) each (by rw [hm]; exact hal) (by rw [hm]; exact hk) room
    · exact sortsAt_few (s := { s with heap := PySem.W.sortingHeap (s.heap.push (seqObj "list" its.toArray 0)) s.heap.objs.size its }) each (by rw [hm]; exact hal) (by rw [hm]; exact hnn) (by rw [hlen, ← pys_len hp]; exact hk) room
  show wpAny _ _ _ _ _ { s with heap := s.heap.push (seqObj "list" its.toArray 0) }
  refine wpAny_bind (wpAny_holding (wpAny_call_entry PyProof.Rows.slot_list_sort ⟨_, hoL, rfl⟩ PyProof.Rows.entry_list_sort
    (PySem.W.list_sort_vals (s := { s with heap := s.heap.push (seqObj "list" its.toArray 0) }) hoL S hL ⟨_, rfl, ?_⟩) (PyProof.Rows.args_list_sort _)))
  have out := PySem.W.sortVals_data (enc := fun b : D × PyData => b.2) false e1 e2' (by rw [hm]; exact hal)
  have em : (ys.zip ps).mergeSort (PySem.W.dataLe false fun b : D × PyData => b.2) = iSort (ys.zip ps) := (iSort_eq _).symm
  rw [em] at out
  obtain ⟨ws, h1, h2⟩ := each_back out
  generalize ho : PySem.W.sortVals (PySem.W.dataKind (PySem.W.sortingHeap (s.heap.push (seqObj "list" its.toArray 0)) s.heap.objs.size its) ((ys.zip ps).map fun b : D × PyData => b.2)) false its its = outv at out h1 h2 ⊢
  obtain ⟨e', he'⟩ := PyProof.Rows.sortedHeap_at (vs := its) (out := outv.toArray) hoL
  have hwl : ws.length ≤ sizeLine := by
    rw [Paired.length h1, ← ho, PySem.W.sortVals_length false rfl]
    exact hL
  refine wpAny_pure ⟨_, rfl, .ref s.heap.objs.size, upd H s.heap.objs.size (.lst ws), I.laid (t' := s.toks) (fun b u e => ?_) (Nat.le_refl _)
    (show ObjOk X.prog X.w _ _ _ (.lst ws) from ⟨hwl, outv, e', h1, he'⟩), rfl, q.lst sF h2 (I.hok.fresh (Nat.le_refl _))⟩
  have hb : b < s.heap.objs.size := Heap.lt_size e
  rw [PyProof.Rows.sortedHeap_old (Nat.ne_of_lt hb) (by rw [size_push']; exact Nat.lt_succ_of_lt hb)]
  exact Heap.get?_push_of_some _ e
theorem PF.grow {d : D} {F' : Hp} (q : PF T F H d Q) (g : Grow F H F' H) : PF T F' H d Q := by
  cases d <;> first | exact fun p vs F2 hp g2 r => q p vs F2 hp (g.trans g2) r | exact fun v F2 H2 g2 rp => q v F2 H2 (g.trans g2) rp
theorem c_sortedF (hK : X.K = T.K) (hc : X.calm = true) (hu : X.A.units + 64 < cLine) : OpCF T X (.builtin "sorted") .sorted := by
  intro pins s σ H xs us Q I r h
  obtain ⟨F, ds, d, sF, p, e, q⟩ := h
  obtain ⟨a, rfl⟩ := sem1 e (fun a b r => by cases a <;> rfl) rfl
  obtain ⟨x, rfl, rx⟩ := p1 p
  obtain ⟨u, rfl, ru⟩ := r.one
  cases a with
  | lst ys =>
    simp only [sem] at e
    obtain ⟨a, vs, rfl, h1, h2⟩ := rx.lst
    cases ru
    obtain ⟨its, rv, hl, hz⟩ := I.list (SqL.of h1)
    refine Calls.call_function_entry PyProof.Rows.kind_sorted PyProof.Rows.plain_sorted PyProof.Rows.entry_sorted (PyProof.Rows.args_sorted1 _) ?_
    unfold Builtin.«sorted»
    refine wpAny_bind (m := checkCount "sorted" 1 1 _) (wpAny_pure ?_)
    refine wpAny_bind (PyProof.Rows.collect_list hl.isList ?_ (by rw [← rv.length]; exact hz))
    have I1 : Inv X pins σ H { s with heap := (s.heap.push (seqObj "list" #[] 0)).update s.heap.objs.size (Obj.mapSeq (· ++ its.toArray)) } := I.kept (t' := s.toks) fun b o z => by
      rw [Heap.get?_update_ne _ _ _ _ (Nat.ne_of_lt (Heap.lt_size z))]
      exact Heap.get?_push_of_some _ z
    exact sort_rest hK hu I1 sF h2 rv e q
  | dic t ks ds =>
    simp only [sem] at e
    obtain ⟨a, vs, rfl, h1, dh⟩ := rx
    cases ru
    refine Calls.call_function_entry PyProof.Rows.kind_sorted PyProof.Rows.plain_sorted PyProof.Rows.entry_sorted (PyProof.Rows.args_sorted1 _) ?_
    unfold Builtin.«sorted»
    refine wpAny_bind (m := checkCount "sorted" 1 1 _) (wpAny_pure ?_)
    cases t with
    | true =>
      obtain ⟨kl, h2, h3, _, h4⟩ := dh
      obtain ⟨z, hs, kz, pr, o, es, ep, ho, hx, hdt, he, hn⟩ := (show ObjOk X.prog X.w H s.heap a (.dT (kl.zip vs)) from h4.ok I.hok)
      have l1 : es.size = kz.length := size_of_entries he
      have l2 : (kl.zip vs).length = kz.length := Paired.length pr
      refine wpAny_bind (PySem.W.kdu_collect (A := X.A.in1) (kdl_raw hs hx hdt) (I.ok.hd hc) ho (by omega) fun h' tk acc kp it => ?_)
      have eb := keys_acc he l1 it
      have rv : Vals ((kz.map fun x => x.2.1).map V.ref) acc.toList := by rw [eb]; exact vals_refs _
      have I1 : Inv X pins σ H { s with heap := h', toks := tk } := I.kept kp
      have hb := isKeys_of pr
      obtain ⟨F', g, hF⟩ := Grow.keys sF _ (IsKeys.tups hb)
      exact sort_rest hK hu I1 g.fh (IsKeys.reps g.fh h2 h3 hb hF) rv e (q.grow g)
    | false =>
      obtain ⟨kl, h2, h3, _, h4⟩ := dh
      obtain ⟨z, lo, vz, rk, dd⟩ := dk_rd I.hok h4
      obtain ⟨ep, hat⟩ := dd.dictAt
      have hl : (kl.zip vs).length = vz.length := Paired.length rk
      refine wpAny_bind (PySem.W.kdu_collect (A := X.A.in1) (PySem.W.kdl_dict (knd := mixKind X.prog X.w) (kvs := vz) (ep := ep) lo) (I.ok.hd hc) hat (by rw [← hl]; exact z) fun h' tk acc kp hacc => ?_)
      have I1 : Inv X pins σ H { s with heap := h', toks := tk } := I.kept kp
      exact sort_rest hK hu I1 sF (zip_fst h2 h3) (keys_accK rk hacc) e q
  | _ => simp only [sem] at e; cases e
theorem c_sorted (hK : X.K = T.K) (hc : X.calm = true) (hu : X.A.units + 64 < cLine) : OpC T X (.builtin "sorted") .sorted := (c_sortedF hK hc hu).op
theorem c_int : OpC T X (.type "int") .int := by
  intro pins s σ H xs us Q I r h
  obtain ⟨F, ds, d, sF, p, e, q⟩ := h
  obtain ⟨a, rfl⟩ := sem1 e (fun a b r => by cases a <;> rfl) rfl
  obtain ⟨x, rfl, rx⟩ := p1 p
  cases a with
  | int i =>
    simp only [sem] at e
    cases e
    cases rx.int
    exact call_int1 pins s σ H _ us Q I r (.inl ⟨_, rfl, q.int sF⟩)
  | bl i =>
    simp only [sem] at e
    cases e
    cases rx.bl
    exact call_int1 pins s σ H _ us Q I r (.inr ⟨_, rfl, q.int sF⟩)
  | str z =>
    simp only [sem] at e
    split at e
    · rename_i hz
      obtain ⟨n, hn, rfl⟩ := Option.map_eq_some_iff.mp e
      cases rx.str
      exact call_int_str pins s σ H _ us Q I r ⟨z, n, rfl, hn, hz, q.int sF⟩
    · cases e
  | _ => simp only [sem] at e; cases e
theorem c_abs : OpC T X (.builtin "abs") .abs := by
  intro pins s σ H xs us Q I r h
  obtain ⟨F, ds, d, sF, p, e, q⟩ := h
  obtain ⟨a, rfl⟩ := sem1 e (fun a b r => by cases a <;> rfl) rfl
  obtain ⟨x, rfl, rx⟩ := p1 p
  cases a with
  | int i =>
    simp only [sem] at e
    cases e
    cases rx.int
    exact call_abs pins s σ H _ us Q I r ⟨_, rfl, q.int sF⟩
  | _ => simp only [sem] at e; cases e
theorem dBools_ok : ∀ {ds : List D} {bs : List Bool} {vs : List V}, dBools ds = some bs → Reps T F ds vs → vs = bs.map V.bl
  | [], bs, vs, h, r => by
    simp only [dBools] at h
    cases h
    simp only [Reps] at r
    exact r
  | d :: ds, bs, vs, h, r => by
    simp only [Reps] at r
    obtain ⟨v, r', rfl, h1, h2⟩ := r
    cases d with
    | bl b =>
      simp only [dBools] at h
      obtain ⟨cs, h3, rfl⟩ := Option.map_eq_some_iff.mp h
      rw [dBools_ok h3 h2]
      simp only [Rep] at h1
      subst h1
      rfl
    | _ => simp only [dBools] at h; cases h
theorem c_all (hc : X.calm = true) : OpC T X (.builtin "all") .all := by
  intro pins s σ H xs us Q I r h
  obtain ⟨F, ds, d, sF, p, e, q⟩ := h
  obtain ⟨a, rfl⟩ := sem1 e (fun a b r => by cases a <;> rfl) rfl
  obtain ⟨x, rfl, rx⟩ := p1 p
  cases a with
  | lst ys =>
    simp only [sem] at e
    obtain ⟨bs, h3, rfl⟩ := Option.map_eq_some_iff.mp e
    obtain ⟨a, vs, rfl, h1, h2⟩ := rx.lst
    have ev := dBools_ok h3 h2
    subst ev
    exact cr_all hc pins s σ H _ us Q I r ⟨a, bs, rfl, .of h1, q.bl sF⟩
  | _ => simp only [sem] at e; cases e
theorem c_any (hc : X.calm = true) : OpC T X (.builtin "any") .any := by
  intro pins s σ H xs us Q I r h
  obtain ⟨F, ds, d, sF, p, e, q⟩ := h
  obtain ⟨a, rfl⟩ := sem1 e (fun a b r => by cases a <;> rfl) rfl
  obtain ⟨x, rfl, rx⟩ := p1 p
  cases a with
  | lst ys =>
    simp only [sem] at e
    obtain ⟨bs, h3, rfl⟩ := Option.map_eq_some_iff.mp e
    obtain ⟨a, vs, rfl, h1, h2⟩ := rx.lst
    have ev := dBools_ok h3 h2
    subst ev
    exact cr_any hc pins s σ H _ us Q I r ⟨a, bs, rfl, .of h1, q.bl sF⟩
  | _ => simp only [sem] at e; cases e
/-- truth -/
theorem truV_of (hK : X.K = T.K) {d : D} {x : V} {k : Bool} (sF : Sub F H) (r : RepV T F H d x) (e : truth d = some k) : TruV X.K x H k := by
  cases d with
  | non => cases r.non; simp only [truth] at e; cases e; rfl
  | bl b => cases r.bl; simp only [truth] at e; cases e; rfl
  | int i => cases r.int; simp only [truth] at e; cases e; rfl
  | str z =>
    cases r.str
    simp only [truth] at e
    split at e
    · rename_i hz
      cases e
      exact ⟨lim_le hz, by simp only [bne]; congr 1; rw [Bool.eq_iff_iff]; simp⟩
    · cases e
  | tup ds =>
    obtain ⟨a, vs, rfl, h1, h2⟩ := r.tup
    simp only [truth] at e
    cases e
    have hl := h2.len
    refine .inr (.inl ⟨vs, hK ▸ sub_sqT sF h1, ?_⟩)
    cases ds <;> cases vs <;> first | rfl | simp at hl
  | lst ds =>
    obtain ⟨a, vs, rfl, h1, h2⟩ := r.lst
    simp only [truth] at e
    cases e
    have hl := h2.len
    refine .inl ⟨vs, .of h1, ?_⟩
    cases ds <;> cases vs <;> first | rfl | simp at hl
  | _ => simp only [truth] at e; cases e
theorem o_truth (hK : X.K = T.K) : TruR X fun x H Q => ∃ F d k, Sub F H ∧ RepV T F H d x ∧ truth d = some k ∧ Q k H := by
  intro pins s σ H x v Q I rx h
  obtain ⟨F, d, k, sF, r, e, q⟩ := h
  exact tru_ok pins s σ H x v Q I rx ⟨k, truV_of hK sF r e, q⟩
/-- isinstance against built-in types -/
def tyN : Ty → Option String
  | .tint => some "int" | .tbool => some "bool" | .tstr => some "str" | .tlist => some "list" | .ttuple => some "tuple" | .tdict => some "dict"
  | .valueError => some "ValueError" | .lookupError => some "LookupError" | .own _ => none
theorem tyX_of (hK : X.K = T.K) {d : D} {x : V} (sF : Sub F H) (r : RepV T F H d x) {t : Ty} {k : Bool} (e : dTy d t = some k) {n : String} (hn : tyN t = some n) : ∃ u, TyX X.K H x (.type u) ∧ kitB u n = some k ∧ ∀ t' k' n', dTy d t' = some k' → tyN t' = some n' → kitB u n' = some k' := by
  have key : ∀ (u : String), (∀ t' k' n', dTy d t' = some k' → tyN t' = some n' → kitB u n' = some k') → TyX X.K H x (.type u) → ∃ u, TyX X.K H x (.type u) ∧ kitB u n = some k ∧ ∀ t' k' n', dTy d t' = some k' → tyN t' = some n' → kitB u n' = some k' := fun u h1 h2 => ⟨u, h2, h1 t k n e hn, h1⟩
  cases d with
  | non =>
    cases r.non
    refine key "NoneType" (fun t' k' n' h1 h2 => ?_) (.base .non)
    cases t' <;> simp only [tyN] at h2 <;> cases h2 <;> simp only [dTy] at h1 <;> cases h1 <;> decide +kernel
  | bl b =>
    cases r.bl
    refine key "bool" (fun t' k' n' h1 h2 => ?_) (.base (.bl b))
    cases t' <;> simp only [tyN] at h2 <;> cases h2 <;> simp only [dTy] at h1 <;> cases h1 <;> decide +kernel
  | int b =>
    cases r.int
    refine key "int" (fun t' k' n' h1 h2 => ?_) (.base (.int b))
    cases t' <;> simp only [tyN] at h2 <;> cases h2 <;> simp only [dTy] at h1 <;> cases h1 <;> decide +kernel
  | str b =>
    cases r.str
    refine key "str" (fun t' k' n' h1 h2 => ?_) (.base (.str b))
    cases t' <;> simp only [tyN] at h2 <;> cases h2 <;> simp only [dTy] at h1 <;> cases h1 <;> decide +kernel
  | tup ds =>
    obtain ⟨a, vs, rfl, h3, h4⟩ := r.tup
    refine key "tuple" (fun t' k' n' h1 h2 => ?_) ?_
    · cases t' <;> simp only [tyN] at h2 <;> cases h2 <;> simp only [dTy] at h1 <;> cases h1 <;> decide +kernel
    · exact .base (.tup (sF _ _ h3))
  | lst ds =>
    obtain ⟨a, vs, rfl, h3, h4⟩ := r.lst
    refine key "list" (fun t' k' n' h1 h2 => ?_) (.base (.lst h3))
    cases t' <;> simp only [tyN] at h2 <;> cases h2 <;> simp only [dTy] at h1 <;> cases h1 <;> decide +kernel
  | _ => simp only [dTy] at e; cases e
end
end PI
/-! PI4: an expression of the text does what its small form does. -/
namespace PI
open PySem PySem.Spec PyProof.Rows L2

section
variable {T : Tb} {F F' H H' : Hp} {A A' : List Addr} {μ μ' : Mu}
theorem SRel.view (s : SRel T μ H F A) {w : W} {v : V} {d : D} (r : RepW T F A w v) (e : view μ w = some d) : RepV T F H d v := by
  cases w with
  | d x =>
    simp only [PI.view] at e
    cases e
    exact Rep.v s.sub r
  | r k =>
    obtain ⟨a, h1, rfl⟩ := r
    simp only [PI.view] at e
    split at e
    · rename_i xs h2
      cases e
      obtain ⟨_, vs, h3, h4⟩ := s.obj k a _ h1 h2
      exact ⟨a, vs, rfl, h3, h4⟩
    · rename_i t ks vs h2
      cases e
      obtain ⟨_, us, h4, h5⟩ := s.obj k a _ h1 h2
      exact ⟨a, us, rfl, h4, h5.imp fun u _ z => .inl z⟩
    · rename_i x h2
      cases e
      exact Rep.v s.sub (s.obj k a _ h1 h2)
    · cases e
    · cases e
def RepWs (T : Tb) (F : Hp) (A : List Addr) : List W → List V → Prop := Paired fun w v => RepW T F A w v
theorem SRel.views (s : SRel T μ H F A) : ∀ {ws : List W} {vs : List V} {ds : List D}, RepWs T F A ws vs → views μ ws = some ds → Paired (fun x d => RepV T F H d x) vs ds
  | [], vs, ds, r, e => by
    cases r
    simp only [PI.views] at e
    cases e
    exact .nil
  | w :: ws, vs, ds, r, e => by
    cases r with
    | cons h t =>
      simp only [PI.views] at e
      split at e
      · rename_i a b h1 h2
        cases e
        exact .cons (s.view h h1) (SRel.views s t h2)
      · cases e
theorem RepWs.mono : ∀ {ws : List W} {vs : List V}, Ext F A F' A' → RepWs T F A ws vs → RepWs T F' A' ws vs
  | _, _, _, .nil => .nil
  | _, _, e, .cons h t => .cons (h.mono e) (RepWs.mono e t)
/-- an object of the store that changes no more -/
theorem SRel.toD (s : SRel T μ H F A) {w : W} {v : V} {d : D} (r : RepW T F A w v) (e : toD w μ = some (d, μ')) : ∃ F', SRel T μ' H F' A ∧ Sub F F' ∧ Rep T F' d v := by
  cases w with
  | d x =>
    simp only [PI.toD] at e
    cases e
    exact ⟨F, s, Same.refl F, r⟩
  | r k =>
    obtain ⟨a, h1, rfl⟩ := r
    simp only [PI.toD] at e
    split at e
    · rename_i xs h2
      cases e
      have z := s.obj k a _ h1 h2
      obtain ⟨hF, vs, h3, h4⟩ := id z
      have sb : Sub F (upd F a (.lst vs)) := fun b u q => by
        rw [upd_ne (ne_of_none q hF)]
        exact q
      have rp : Rep T (upd F a (.lst vs)) (.lst xs) (.ref a) := by
        simp only [Rep]
        exact ⟨a, vs, rfl, upd_same, h4.mono sb⟩
      obtain ⟨s', _⟩ := s.freeze (x := .lst xs) h1 h2 (fun x z => nomatch z) h3 rp
      exact ⟨_, s', sb, rp⟩
    · cases e
    · rename_i x h2
      cases e
      exact ⟨F, s, Same.refl F, s.obj k a _ h1 h2⟩
    · rename_i c ns ds h2
      cases e
      have z := s.obj k a _ h1 h2
      obtain ⟨hF, C, dx, vs, h3, h4, h5, h6⟩ := id z
      have sb : Sub F (upd F a (.ins C dx (ns.zip vs))) := fun b u q => by
        rw [upd_ne (ne_of_none q hF)]
        exact q
      have rp : Rep T (upd F a (.ins C dx (ns.zip vs))) (.ins c ns ds) (.ref a) := by
        simp only [Rep]
        exact ⟨a, C, dx, vs, rfl, h3, upd_same, h5, h6.mono sb⟩
      obtain ⟨s', _⟩ := s.freeze (x := .ins c ns ds) h1 h2 (fun x z => nomatch z) h4 rp
      exact ⟨_, s', sb, rp⟩
    · cases e
theorem SRel.toDs : ∀ {ws : List W} {vs : List V} {ds : List D} {F : Hp} {μ μ' : Mu}, SRel T μ H F A → RepWs T F A ws vs → toDs ws μ = some (ds, μ') → ∃ F', SRel T μ' H F' A ∧ Sub F F' ∧ Reps T F' ds vs
  | [], vs, ds, F, μ, μ', s, r, e => by
    cases r
    simp only [PI.toDs] at e
    cases e
    exact ⟨F, s, Same.refl F, .nil⟩
  | w :: ws, vs, ds, F, μ, μ', s, r, e => by
    cases r with
    | cons h t =>
      simp only [PI.toDs] at e
      split at e
      · cases e
      · rename_i x μ1 h1
        split at e
        · cases e
        · rename_i xs μ2 h2
          cases e
          obtain ⟨F1, s1, b1, r1⟩ := s.toD h h1
          obtain ⟨F2, s2, b2, r2⟩ := SRel.toDs s1 (RepWs.mono ⟨b1, List.prefix_refl A⟩ t) h2
          exact ⟨F2, s2, b1.trans b2, .cons (Rep.mono b2 x _ r1) r2⟩
end

/-- an exception that is raised -/
def XRep (T : Tb) (F : Hp) (d : D) (cls : Value) (dd : Option Addr) : Prop :=
  match d with
  | .exc c ns ds => ∃ C, T.ca c = some C ∧ cls = .ref C ∧ ((ns = [] ∧ ds = [] ∧ dd = none) ∨ ∃ dx vs, dd = some dx ∧ F dx = some (.xd (ns.zip vs)) ∧ ns.length = vs.length ∧ Reps T F ds vs)
  | _ => False

/-! ### the judgements -/
/-- what is wanted of e, by what it does -/
def wE (X : Cx) (e : Expr) : TE := fun σ H Q => ∀ (pins : List (Addr × Obj)) (s : Shared), Inv X pins σ H s → wpAny (model X.prog X.w) X.A (eval e X.env) (EP X pins σ Q) X.xe s
def wL (X : Cx) (es : List Expr) : TA := fun σ H Q => ∀ (pos : Pos) (pins : List (Addr × Obj)) (s : Shared), Inv X pins σ H s → wpAny (model X.prog X.w) X.A (spliced (backTo pos (starEach es X.env))) (AP X pins σ Q) X.xe s
def wT (X : Cx) (e : Expr) : TT := fun σ H Q => ∀ (pins : List (Addr × Obj)) (s : Shared), Inv X pins σ H s → wpAny (model X.prog X.w) X.A (isTrue e X.env (eval e X.env)) (TP X pins σ Q) X.xe s
theorem pe_w {X : Cx} {e : Expr} : PE X e (wE X e) := ⟨fun pins s σ H Q I h => h pins s I⟩
theorem pl_w {X : Cx} {es : List Expr} : PA X es (wL X es) := ⟨fun pos pins s σ H Q I h => h pos pins s I⟩
theorem pt_w {X : Cx} {e : Expr} : PT X e (wT X e) := ⟨fun pins s σ H Q I h => h pins s I⟩
theorem wE_of {X : Cx} {e : Expr} {t : TE} (h : PE X e t) {σ : L2.St} {H : Hp} {Q : VK} (q : t σ H Q) : wE X e σ H Q := fun pins s I => h.run pins s σ H Q I q
theorem wL_of {X : Cx} {es : List Expr} {t : TA} (h : PA X es t) {σ : L2.St} {H : Hp} {Q : List V → Hp → Prop} (q : t σ H Q) : wL X es σ H Q := fun pos pins s I => h.run pos pins s σ H Q I q
theorem wT_of {X : Cx} {e : Expr} {t : TT} (h : PT X e t) {σ : L2.St} {H : Hp} {Q : Bool → Hp → Prop} (q : t σ H Q) : wT X e σ H Q := fun pins s I => h.run pins s σ H Q I q

/-- what is to be shown of an end of an expression -/
def Post {α β : Type} (T : Tb) (rep : Hp → List Addr → α → β → Prop) (F : Hp) (A : List Addr) (Q : β → Hp → Prop) (E : XK) : X1 α → Prop
  | .ok a μ' => ∀ v H' F' A', Ext F A F' A' → SRel T μ' H' F' A' → rep F' A' a v → Q v H'
  | .er d μ' => ∀ cls dd H' F' A', Ext F A F' A' → SRel T μ' H' F' A' → XRep T F' d cls dd → E cls dd H'
theorem Post.mono {α β : Type} {T : Tb} {rep : Hp → List Addr → α → β → Prop} {F F1 : Hp} {A A1 : List Addr} {Q : β → Hp → Prop} {E : XK} {r : X1 α} (e : Ext F A F1 A1) (h : Post T rep F A Q E r) : Post T rep F1 A1 Q E r := by
  cases r with
  | ok a m => exact fun v H' F' A' x => h v H' F' A' (e.trans x)
  | er d m => exact fun c dd H' F' A' x => h c dd H' F' A' (e.trans x)
abbrev PostW (T : Tb) := Post (α := W) (β := V) T (fun F A w v => RepW T F A w v)
abbrev PostL (T : Tb) := Post (α := List W) (β := List V) T (fun F A w v => RepWs T F A w v)
abbrev PostB (T : Tb) := Post (α := Bool) (β := Bool) T (fun _ _ w v => w = v)

def TyE (T : Tb) (Φ : Phi) (X : Cx) (e : Expr) (ie : IE) : Prop := ∀ (ρ : Env) (μ : Mu) (σ : L2.St) (H F : Hp) (A : List Addr) (r : X1 W) (Q : VK) (E : WX),
  Takes X E → SRel T μ H F A → ERel T ρ σ F A → evE Φ ie ρ μ = some r → PostW T F A Q (fun c d h => E c d σ h) r → wE X e σ H Q
def TyL (T : Tb) (Φ : Phi) (X : Cx) (es : List Expr) (is : List IE) : Prop := ∀ (ρ : Env) (μ : Mu) (σ : L2.St) (H F : Hp) (A : List Addr) (r : X1 (List W)) (Q : List V → Hp → Prop) (E : WX),
  Takes X E → SRel T μ H F A → ERel T ρ σ F A → evL Φ is ρ μ = some r → PostL T F A Q (fun c d h => E c d σ h) r → wL X es σ H Q
/-- the test of an expression -/
def evB (Φ : Phi) (e : IE) (ρ : Env) (μ : Mu) : R Bool := (evE Φ e ρ μ).bind fun w μ1 => R.of ((view μ1 w).bind truth) μ1
def TyB (T : Tb) (Φ : Phi) (X : Cx) (e : Expr) (ie : IE) : Prop := ∀ (ρ : Env) (μ : Mu) (σ : L2.St) (H F : Hp) (A : List Addr) (r : X1 Bool) (Q : Bool → Hp → Prop) (E : WX),
  Takes X E → SRel T μ H F A → ERel T ρ σ F A → evB Φ ie ρ μ = some r → PostB T F A Q (fun c d h => E c d σ h) r → wT X e σ H Q

section
variable {T : Tb} {Φ : Phi} {X : Cx} {pos : Pos} {a b : Expr} {ia ib : IE}
/-- what R.bind gives -/
theorem bind_some {α β : Type} {r : R α} {f : α → Mu → R β} {y : X1 β} (h : r.bind f = some y) : (∃ d m, r = some (.er d m) ∧ y = .er d m) ∨ ∃ a m, r = some (.ok a m) ∧ f a m = some y := by
  unfold R.bind at h
  split at h
  · cases h
  · cases h
    exact .inl ⟨_, _, rfl, rfl⟩
  · exact .inr ⟨_, _, rfl, h⟩
/-- one expression, then more -/
theorem TyE.then {α β : Type} (h : TyE T Φ X a ia) {rep : Hp → List Addr → α → β → Prop} {f : W → Mu → R α} {r : X1 α} {ρ : Env} {μ : Mu} {σ : L2.St} {H F : Hp} {A : List Addr} {Q : VK} {Q2 : β → Hp → Prop} {E : WX}
    (tk : Takes X E) (s : SRel T μ H F A) (er : ERel T ρ σ F A) (e : (evE Φ ia ρ μ).bind f = some r) (p : Post T rep F A Q2 (fun c d h => E c d σ h) r)
    (hQ : ∀ w μ1 v H1 F1 A1, Ext F A F1 A1 → SRel T μ1 H1 F1 A1 → ERel T ρ σ F1 A1 → RepW T F1 A1 w v → f w μ1 = some r → Post T rep F1 A1 Q2 (fun c d h => E c d σ h) r → Q v H1) : wE X a σ H Q := by
  rcases bind_some e with ⟨d, m, e1, rfl⟩ | ⟨w, m, e1, e2⟩
  · exact h ρ μ σ H F A _ Q E tk s er e1 p
  · exact h ρ μ σ H F A _ Q E tk s er e1 fun v H1 F1 A1 x s1 r1 => hQ w m v H1 F1 A1 x s1 (er.mono x) r1 e2 (p.mono x)
theorem TyL.then {α β : Type} {es : List Expr} {is : List IE} (h : TyL T Φ X es is) {rep : Hp → List Addr → α → β → Prop} {f : List W → Mu → R α} {r : X1 α} {ρ : Env} {μ : Mu} {σ : L2.St} {H F : Hp} {A : List Addr} {Q : List V → Hp → Prop} {Q2 : β → Hp → Prop} {E : WX}
    (tk : Takes X E) (s : SRel T μ H F A) (er : ERel T ρ σ F A) (e : (evL Φ is ρ μ).bind f = some r) (p : Post T rep F A Q2 (fun c d h => E c d σ h) r)
    (hQ : ∀ w μ1 v H1 F1 A1, Ext F A F1 A1 → SRel T μ1 H1 F1 A1 → ERel T ρ σ F1 A1 → RepWs T F1 A1 w v → f w μ1 = some r → Post T rep F1 A1 Q2 (fun c d h => E c d σ h) r → Q v H1) : wL X es σ H Q := by
  rcases bind_some e with ⟨d, m, e1, rfl⟩ | ⟨w, m, e1, e2⟩
  · exact h ρ μ σ H F A _ Q E tk s er e1 p
  · exact h ρ μ σ H F A _ Q E tk s er e1 fun v H1 F1 A1 x s1 r1 => hQ w m v H1 F1 A1 x s1 (er.mono x) r1 e2 (p.mono x)
theorem TyB.then {α β : Type} (h : TyB T Φ X a ia) {rep : Hp → List Addr → α → β → Prop} {f : Bool → Mu → R α} {r : X1 α} {ρ : Env} {μ : Mu} {σ : L2.St} {H F : Hp} {A : List Addr} {Q : Bool → Hp → Prop} {Q2 : β → Hp → Prop} {E : WX}
    (tk : Takes X E) (s : SRel T μ H F A) (er : ERel T ρ σ F A) (e : (evB Φ ia ρ μ).bind f = some r) (p : Post T rep F A Q2 (fun c d h => E c d σ h) r)
    (hQ : ∀ w μ1 H1 F1 A1, Ext F A F1 A1 → SRel T μ1 H1 F1 A1 → ERel T ρ σ F1 A1 → f w μ1 = some r → Post T rep F1 A1 Q2 (fun c d h => E c d σ h) r → Q w H1) : wT X a σ H Q := by
  rcases bind_some e with ⟨d, m, e1, rfl⟩ | ⟨w, m, e1, e2⟩
  · exact h ρ μ σ H F A _ Q E tk s er e1 p
  · exact h ρ μ σ H F A _ Q E tk s er e1 fun v H1 F1 A1 x s1 r1 => by
      subst r1
      exact hQ w m H1 F1 A1 x s1 (er.mono x) e2 (p.mono x)
/-- data comes out -/
theorem PQ.of {d : D} {Q : VK} {E : XK} {μ : Mu} {H F : Hp} {A : List Addr} (s : SRel T μ H F A) (p : PostW T F A Q E (.ok (.d d) μ)) : PQ T F H d Q :=
  fun v F' H' g r => p v H' F' A (g.ext A) (g.srel s) r

theorem ty_var {i : Nat} {x : Str} (hN : X.N[i]? = some x) (hv : Vis X.env.scope x) (h1 : (x == ("__debug__" : Str)) = false) (h2 : (x == ("__classdict__" : Str)) = false) : TyE T Φ X (.Name x pos) (.var i) := by
  intro ρ μ σ H F A r Q E tk s er e p
  simp only [evE] at e
  split at e
  · rename_i w hw
    cases e
    obtain ⟨v, h3, h4⟩ := er.2 i w hw
    exact wE_of (pe_var hN hv h1 h2) ⟨v, h3, p v H F A (.refl F A) s h4⟩
  · cases e
theorem ty_cst {e : Expr} {d : D} {v : V} (h : PE X e (tC v)) (hr : ∀ F, Rep T F d v) : TyE T Φ X e (.cst d) := by
  intro ρ μ σ H F A r Q E tk s er e p
  simp only [evE] at e
  cases e
  exact wE_of h (p v H F A (.refl F A) s (hr F))
theorem ty_nil : TyL T Φ X [] [] := by
  intro ρ μ σ H F A r Q E tk s er e p
  simp only [evL] at e
  cases e
  exact wL_of pa_nil (p [] H F A (.refl F A) s .nil)
theorem ty_cons {es : List Expr} {is : List IE} (h : TyE T Φ X a ia) (t : TyL T Φ X es is) (hs : starEach (a :: es) X.env = (false, eval a X.env) :: starEach es X.env) : TyL T Φ X (a :: es) (ia :: is) := by
  intro ρ μ σ H F A r Q E tk s er e p
  simp only [evL] at e
  refine wL_of (pa_cons pe_w pl_w hs) ?_
  refine h.then tk s er e p fun w μ1 v H1 F1 A1 x s1 er1 r1 e1 p1 => ?_
  refine t.then tk s1 er1 e1 p1 fun ws μ2 vs H2 F2 A2 x2 s2 er2 r2 e2 p2 => ?_
  cases e2
  exact p2 (v :: vs) H2 F2 A2 (.refl _ _) s2 (.cons (r1.mono x2) r2)
/-- a two-place operation -/
theorem op2_go {o : Op} {f : Value → Value → Sem Value} (ho : Op2 T X f (fun x y => sem o [x, y])) (ha : TyE T Φ X a ia) (hb : TyE T Φ X b ib) {ρ : Env} {μ : Mu} {σ : L2.St} {H F : Hp} {A : List Addr} {r : X1 W} {Q : VK} {E : WX}
    (tk : Takes X E) (s : SRel T μ H F A) (er : ERel T ρ σ F A) (e : evE Φ (.op o [ia, ib]) ρ μ = some r) (p : PostW T F A Q (fun c d h => E c d σ h) r) :
    tOp (fun x y H Q => ∃ F d1 d2 d, Sub F H ∧ RepV T F H d1 x ∧ RepV T F H d2 y ∧ sem o [d1, d2] = some d ∧ PQ T F H d Q) (wE X a) (wE X b) σ H Q := by
  simp only [evE, evL] at e
  have e' : (evE Φ ia ρ μ).bind (fun w μ1 => (evE Φ ib ρ μ1).bind fun u μ2 => (match views μ2 [w, u] with
      | none => none
      | some ds => match sem o ds with
        | none => none
        | some d => rok (.d d) μ2 : R W)) = some r := by
    rw [← e]
    unfold R.bind
    cases evE Φ ia ρ μ with
    | none => rfl
    | some x1 =>
      cases x1 with
      | er d m => rfl
      | ok w m =>
        dsimp only
        cases evE Φ ib ρ m with
        | none => rfl
        | some x2 => cases x2 <;> rfl
  refine ha.then tk s er e' p fun w μ1 v H1 F1 A1 x s1 er1 r1 e1 p1 => ?_
  refine hb.then tk s1 er1 e1 p1 fun u μ2 y H2 F2 A2 x2 s2 er2 r2 e2 p2 => ?_
  split at e2
  · cases e2
  · rename_i ds hd
    split at e2
    · cases e2
    · rename_i d hs
      cases e2
      have pr := s2.views (.cons (r1.mono x2) (.cons r2 .nil)) hd
      cases pr with
      | cons q1 q =>
        cases q with
        | cons q2 q =>
          cases q
          exact ⟨F2, _, _, d, s2.sub, q1, q2, hs, .of s2 p2⟩
theorem ty_bin {o : Op} {op : Operator} (ho : Op2 T X (binaryOp op) (fun x y => sem o [x, y])) (ha : TyE T Φ X a ia) (hb : TyE T Φ X b ib) : TyE T Φ X (.BinOp a op b pos) (.op o [ia, ib]) := by
  intro ρ μ σ H F A r Q E tk s er e p
  exact wE_of (pe_op ho pe_w pe_w) (op2_go ho ha hb tk s er e p)
theorem ty_cmp {o : Op} {op : CmpOp} (ho : Op2 T X (compareOp op) (fun x y => sem o [x, y])) (ha : TyE T Φ X a ia) (hb : TyE T Φ X b ib) (hm : behindInMarks op b = false) : TyE T Φ X (.Compare a [op] [b] pos) (.op o [ia, ib]) := by
  intro ρ μ σ H F A r Q E tk s er e p
  exact wE_of (pe_cmpR ho pe_w pe_w hm) (op2_go ho ha hb tk s er e p)

/-! ### built-in functions -/
theorem opn_go {o : Op} {f : Value} {es : List Expr} {is : List IE} (ho : OpC T X f o) (hs : TyL T Φ X es is) {ρ : Env} {μ : Mu} {σ : L2.St} {H F : Hp} {A : List Addr} {r : X1 W} {Q : VK} {E : WX}
    (tk : Takes X E) (s : SRel T μ H F A) (er : ERel T ρ σ F A) (e : evE Φ (.op o is) ρ μ = some r) (p : PostW T F A Q (fun c d h => E c d σ h) r) :
    tCB (fun xs H Q => ∃ F ds d, Sub F H ∧ Paired (fun x d => RepV T F H d x) xs ds ∧ sem o ds = some d ∧ PQ T F H d Q) (wL X es) σ H Q := by
  simp only [evE] at e
  refine hs.then tk s er e p fun ws μ1 vs H1 F1 A1 x s1 er1 r1 e1 p1 => ?_
  split at e1
  · cases e1
  · rename_i ds hd
    split at e1
    · cases e1
    · rename_i d hsm
      cases e1
      exact ⟨F1, ds, d, s1.sub, s1.views r1 hd, hsm, .of s1 p1⟩
theorem ty_callB {o : Op} {id : String} {x : Str} {p : Pos} {es : List Expr} {is : List IE} (ho : OpC T X (.builtin id) o) (hg : Gl X x) (hm : X.mg x = none) (hv : bootBuiltins x = some (.builtin id)) (hs : TyL T Φ X (a :: es) is)
    (hn : x ≠ "__name__") (hdb : (x == ("__debug__" : Str)) = false) (he : starEach (a :: es) X.env = (false, eval a X.env) :: starEach es X.env) (hpl : (backTo pos (starEach es X.env)).any (·.1) = false) : TyE T Φ X (.Call (.Name x p) (a :: es) [] pos) (.op o is) := by
  intro ρ μ σ H F A r Q E tk s er e p
  exact wE_of (pe_callB ho hg hm hv pl_w hn hdb he hpl) (opn_go ho hs tk s er e p)
theorem ty_callTy {o : Op} {n : String} {x : Str} {p : Pos} {es : List Expr} {is : List IE} (ho : OpC T X (.type n) o) (hg : Gl X x) (hm : X.mg x = none) (hv : bootBuiltins x = some (.type n)) (hs : TyL T Φ X (a :: es) is)
    (hn : x ≠ "__name__") (hdb : (x == ("__debug__" : Str)) = false) (he : starEach (a :: es) X.env = (false, eval a X.env) :: starEach es X.env) (hpl : (backTo pos (starEach es X.env)).any (·.1) = false) : TyE T Φ X (.Call (.Name x p) (a :: es) [] pos) (.op o is) := by
  intro ρ μ σ H F A r Q E tk s er e p
  exact wE_of (pe_callTy ho hg hm hv pl_w hn hdb he hpl) (opn_go ho hs tk s er e p)
/-- a one-place operation -/
theorem op1_go {o : Op} (ha : TyE T Φ X a ia) {ρ : Env} {μ : Mu} {σ : L2.St} {H F : Hp} {A : List Addr} {r : X1 W} {Q2 : VK} {Q : VK} {E : WX}
    (tk : Takes X E) (s : SRel T μ H F A) (er : ERel T ρ σ F A) (e : evE Φ (.op o [ia]) ρ μ = some r) (p : PostW T F A Q (fun c d h => E c d σ h) r)
    (hQ : ∀ v H1 F1 d1 d, Sub F1 H1 → RepV T F1 H1 d1 v → sem o [d1] = some d → PQ T F1 H1 d Q → Q2 v H1) : wE X a σ H Q2 := by
  have e' : (evE Φ ia ρ μ).bind (fun w μ1 => (match views μ1 [w] with
      | none => none
      | some ds => match sem o ds with
        | none => none
        | some d => rok (.d d) μ1 : R W)) = some r := by
    simp only [evE, evL] at e
    rw [← e]
    unfold R.bind
    cases evE Φ ia ρ μ with
    | none => rfl
    | some x1 => cases x1 <;> rfl
  refine ha.then tk s er e' p fun w μ1 v H1 F1 A1 x s1 er1 r1 e1 p1 => ?_
  split at e1
  · cases e1
  · rename_i ds hd
    split at e1
    · cases e1
    · rename_i d hsm
      cases e1
      have pr := s1.views (.cons r1 .nil) hd
      cases pr with
      | cons q1 q =>
        cases q
        exact hQ v H1 F1 _ d s1.sub q1 hsm (.of s1 p1)
theorem ty_neg (ha : TyE T Φ X a ia) : TyE T Φ X (.UnaryOp .USub a pos) (.op .neg [ia]) := by
  intro ρ μ σ H F A r Q E tk s er e p
  refine wE_of (pe_un un_neg pe_w) (op1_go ha tk s er e p fun v H1 F1 d1 d sb q1 hs pq => ?_)
  cases d1 with
  | int i =>
    simp only [sem] at hs
    cases hs
    cases q1.int
    exact ⟨i, rfl, pq.int sb⟩
  | _ => simp only [sem] at hs; cases hs
theorem ty_not (hK : X.K = T.K) (ha : TyE T Φ X a ia) : TyE T Φ X (.UnaryOp .Not a pos) (.op .not [ia]) := by
  intro ρ μ σ H F A r Q E tk s er e p
  refine wE_of (pe_notT pe_w) (op1_go ha tk s er e p fun v H1 F1 d1 d sb q1 hs pq => ?_)
  simp only [sem] at hs
  obtain ⟨k, hk, rfl⟩ := Option.map_eq_some_iff.mp hs
  exact ⟨k, truV_of hK sb q1 hk, pq.bl sb⟩
theorem ty_isN {j : Nat} {p' : Pos} (ha : TyE T Φ X a ia) : TyE T Φ X (.Compare a [.Is] [.Constant .none j p'] pos) (.op .isN [ia]) := by
  intro ρ μ σ H F A r Q E tk s er e p
  refine wE_of (pe_cmp (pc_isN pe_w) rfl) (op1_go ha tk s er e p fun v H1 F1 d1 d sb q1 hs pq => ?_)
  simp only [sem] at hs
  cases hs
  have := pq.bl sb
  cases d1 with
  | non => cases q1.non; exact this
  | bl b => cases q1.bl; exact this
  | int b => cases q1.int; exact this
  | str b => cases q1.str; exact this
  | tup ds => obtain ⟨a, vs, rfl, _⟩ := q1.tup; exact this
  | lst ds => obtain ⟨a, vs, rfl, _⟩ := q1.lst; exact this
  | scr ds => obtain ⟨a, vs, rfl, _⟩ := q1.scr; exact this
  | dic t ks ds => obtain ⟨a, vs, rfl, _⟩ := q1; exact this
  | ins c ns ds => simp only [RepV, Rep] at q1; obtain ⟨a, C, dx, vs, rfl, _⟩ := q1; exact this
  | exc c ns ds => simp only [RepV, Rep] at q1; obtain ⟨a, C, dx, vs, rfl, _⟩ := q1; exact this
  | fn f => simp only [RepV, Rep] at q1; obtain ⟨a, rfl, _⟩ := q1; exact this
theorem ty_isnotN {j : Nat} {p' : Pos} (ha : TyE T Φ X a ia) : TyE T Φ X (.Compare a [.IsNot] [.Constant .none j p'] pos) (.op .isnotN [ia]) := by
  intro ρ μ σ H F A r Q E tk s er e p
  refine wE_of (pe_cmp (pc_notN pe_w) rfl) (op1_go ha tk s er e p fun v H1 F1 d1 d sb q1 hs pq => ?_)
  simp only [sem] at hs
  cases hs
  have := pq.bl sb
  cases d1 with
  | non => cases q1.non; exact this
  | bl b => cases q1.bl; exact this
  | int b => cases q1.int; exact this
  | str b => cases q1.str; exact this
  | tup ds => obtain ⟨a, vs, rfl, _⟩ := q1.tup; exact this
  | lst ds => obtain ⟨a, vs, rfl, _⟩ := q1.lst; exact this
  | scr ds => obtain ⟨a, vs, rfl, _⟩ := q1.scr; exact this
  | dic t ks ds => obtain ⟨a, vs, rfl, _⟩ := q1; exact this
  | ins c ns ds => simp only [RepV, Rep] at q1; obtain ⟨a, C, dx, vs, rfl, _⟩ := q1; exact this
  | exc c ns ds => simp only [RepV, Rep] at q1; obtain ⟨a, C, dx, vs, rfl, _⟩ := q1; exact this
  | fn f => simp only [RepV, Rep] at q1; obtain ⟨a, rfl, _⟩ := q1; exact this
theorem ty_ix (hK : X.K = T.K) (hu : X.A.units + 65 < cLine) (ha : TyE T Φ X a ia) (hb : TyE T Φ X b ib) (hp : PlainIx b) : TyE T Φ X (.Subscript a b pos) (.op .ix [ia, ib]) := by
  intro ρ μ σ H F A r Q E tk s er e p
  refine wE_of (pe_ix (o_ix hK hu) pe_w pe_w hp) ?_
  have hsem : ∀ x y, sem .ix [x, y] = dIx x y := fun x y => rfl
  simp only [evE, evL] at e
  have e' : (evE Φ ia ρ μ).bind (fun w μ1 => (evE Φ ib ρ μ1).bind fun u μ2 => (match views μ2 [w, u] with
      | none => none
      | some ds => match sem .ix ds with
        | none => none
        | some d => rok (.d d) μ2 : R W)) = some r := by
    rw [← e]
    unfold R.bind
    cases evE Φ ia ρ μ with
    | none => rfl
    | some x1 =>
      cases x1 with
      | er d m => rfl
      | ok w m =>
        dsimp only
        cases evE Φ ib ρ m with
        | none => rfl
        | some x2 => cases x2 <;> rfl
  refine ha.then tk s er e' p fun w μ1 v H1 F1 A1 x s1 er1 r1 e1 p1 => ?_
  refine hb.then tk s1 er1 e1 p1 fun u μ2 y H2 F2 A2 x2 s2 er2 r2 e2 p2 => ?_
  split at e2
  · cases e2
  · rename_i ds hd
    split at e2
    · cases e2
    · rename_i d hs
      cases e2
      have pr := s2.views (.cons (r1.mono x2) (.cons r2 .nil)) hd
      cases pr with
      | cons q1 q =>
        cases q with
        | cons q2 q =>
          cases q
          exact ⟨F2, _, _, d, s2.sub, q1, q2, hs, .of s2 p2⟩

/-- displays -/
theorem ty_tup {es : List Expr} {is : List IE} {k : Nat} (hs : TyL T Φ X es is) : TyE T Φ X (.Tuple es k pos) (.tup is) := by
  intro ρ μ σ H F A r Q E tk s er e p
  simp only [evE] at e
  refine wE_of (pe_tup pl_w) (hs.then tk s er e p fun ws μ1 vs H1 F1 A1 x s1 er1 r1 e1 p1 => ?_)
  split at e1
  · cases e1
  · rename_i ds μ2 hd
    split at e1
    · rename_i hz
      cases e1
      obtain ⟨F2, s2, sb, rp⟩ := s1.toDs r1 hd
      refine ⟨by rw [← rp.len]; exact lim_le hz, fun q hq => ?_⟩
      exact (PQ.of s2 (p1.mono ⟨sb, List.prefix_refl A1⟩)).tup s2.sub rp hq
    · cases e1
theorem ty_lst {es : List Expr} {is : List IE} (hs : TyL T Φ X es is) : TyE T Φ X (.List es pos) (.lst is) := by
  intro ρ μ σ H F A r Q E tk s er e p
  simp only [evE] at e
  refine wE_of (pe_lst pl_w) (hs.then tk s er e p fun ws μ1 vs H1 F1 A1 x s1 er1 r1 e1 p1 => ?_)
  split at e1
  · cases e1
  · rename_i ds μ2 hd
    split at e1
    · rename_i hz
      cases e1
      obtain ⟨F2, s2, sb, rp⟩ := s1.toDs r1 hd
      refine ⟨by rw [← rp.len]; exact lim_le hz, fun q hq => ?_⟩
      exact (PQ.of s2 (p1.mono ⟨sb, List.prefix_refl A1⟩)).lst s2.sub rp hq
    · cases e1

/-! ### and, or, if else -/
theorem ty_one {op : BoolOp} (ha : TyE T Φ X a ia) : TyE T Φ X (.BoolOp op [a] pos) ia := by
  intro ρ μ σ H F A r Q E tk s er e p
  exact wE_of (pe_one pe_w) (ha ρ μ σ H F A r Q E tk s er e p)
theorem ty_and {rest : List Expr} (hK : X.K = T.K) (ha : TyE T Φ X a ia) (hb : TyE T Φ X (.BoolOp .And (b :: rest) pos) ib) : TyE T Φ X (.BoolOp .And (a :: b :: rest) pos) (.and ia ib) := by
  intro ρ μ σ H F A r Q E tk s er e p
  simp only [evE] at e
  refine wE_of (pe_andT pe_w pe_w) (ha.then tk s er e p fun w μ1 v H1 F1 A1 x s1 er1 r1 e1 p1 => ?_)
  split at e1
  · cases e1
  · rename_i hk
    obtain ⟨d, hv, ht⟩ := Option.bind_eq_some_iff.mp hk
    refine ⟨true, truV_of hK s1.sub (s1.view r1 hv) ht, ?_⟩
    rw [if_pos rfl]
    exact hb ρ μ1 σ H1 F1 A1 r Q E tk s1 er1 e1 p1
  · rename_i hk
    obtain ⟨d, hv, ht⟩ := Option.bind_eq_some_iff.mp hk
    refine ⟨false, truV_of hK s1.sub (s1.view r1 hv) ht, ?_⟩
    rw [if_neg Bool.false_ne_true]
    cases e1
    exact p1 v H1 F1 A1 (.refl _ _) s1 r1
theorem ty_or {rest : List Expr} (hK : X.K = T.K) (ha : TyE T Φ X a ia) (hb : TyE T Φ X (.BoolOp .Or (b :: rest) pos) ib) : TyE T Φ X (.BoolOp .Or (a :: b :: rest) pos) (.or ia ib) := by
  intro ρ μ σ H F A r Q E tk s er e p
  simp only [evE] at e
  refine wE_of (pe_orT pe_w pe_w) (ha.then tk s er e p fun w μ1 v H1 F1 A1 x s1 er1 r1 e1 p1 => ?_)
  split at e1
  · cases e1
  · rename_i hk
    obtain ⟨d, hv, ht⟩ := Option.bind_eq_some_iff.mp hk
    refine ⟨true, truV_of hK s1.sub (s1.view r1 hv) ht, ?_⟩
    rw [if_pos rfl]
    cases e1
    exact p1 v H1 F1 A1 (.refl _ _) s1 r1
  · rename_i hk
    obtain ⟨d, hv, ht⟩ := Option.bind_eq_some_iff.mp hk
    refine ⟨false, truV_of hK s1.sub (s1.view r1 hv) ht, ?_⟩
    rw [if_neg Bool.false_ne_true]
    exact hb ρ μ1 σ H1 F1 A1 r Q E tk s1 er1 e1 p1

/-! ### tests -/
theorem evB_of {e : IE} {ρ : Env} {μ : Mu} {r : X1 Bool} (h : evB Φ e ρ μ = some r) : (evE Φ e ρ μ).bind (fun w μ1 => R.of ((view μ1 w).bind truth) μ1) = some r := h
theorem of_some {α : Type} {o : Option α} {μ : Mu} {r : X1 α} (h : R.of o μ = some r) : ∃ a, o = some a ∧ r = .ok a μ := by
  cases o with
  | none => cases h
  | some a =>
    cases h
    exact ⟨a, rfl, rfl⟩
/-- a value as a test -/
theorem tb_val (hK : X.K = T.K) (ha : TyE T Φ X a ia) (he : ∀ whole, isTrue a X.env whole = (do let v ← whole; standAt a.pos; holding [v] (truthy v))) : TyB T Φ X a ia := by
  intro ρ μ σ H F A r Q E tk s er e p
  refine wT_of (pt_truth pe_w he) (ha.then tk s er (evB_of e) p fun w μ1 v H1 F1 A1 x s1 er1 r1 e1 p1 => ?_)
  obtain ⟨k, hk, rfl⟩ := of_some e1
  obtain ⟨d, hv, ht⟩ := Option.bind_eq_some_iff.mp hk
  exact ⟨k, truV_of hK s1.sub (s1.view r1 hv) ht, p1 k H1 F1 A1 (.refl _ _) s1 rfl⟩
theorem evB_not {ρ : Env} {μ : Mu} : evB Φ (.op .not [ia]) ρ μ = (evB Φ ia ρ μ).bind fun b μ1 => rok (!b) μ1 := by
  unfold evB
  simp only [evE, evL]
  cases evE Φ ia ρ μ with
  | none => rfl
  | some x1 =>
    cases x1 with
    | er d m => rfl
    | ok w m =>
      simp only [R.bind, views]
      cases hv : view m w with
      | none => rfl
      | some d =>
        simp only [sem]
        cases ht : truth d with
        | none => simp [R.of, ht]
        | some k =>
          have z : (view m (.d (.bl (!k)))).bind truth = some (!k) := rfl
          simp [R.of, ht, z]
theorem tb_not (ha : TyB T Φ X a ia) : TyB T Φ X (.UnaryOp .Not a pos) (.op .not [ia]) := by
  intro ρ μ σ H F A r Q E tk s er e p
  rw [evB_not] at e
  refine wT_of (pt_not pt_w) (ha.then tk s er e p fun b μ1 H1 F1 A1 x s1 er1 e1 p1 => ?_)
  cases e1
  exact p1 (!b) H1 F1 A1 (.refl _ _) s1 rfl
theorem evB_and {ρ : Env} {μ : Mu} : evB Φ (.and ia ib) ρ μ = (evB Φ ia ρ μ).bind fun b μ1 => if b = true then evB Φ ib ρ μ1 else rok false μ1 := by
  unfold evB
  simp only [evE]
  cases evE Φ ia ρ μ with
  | none => rfl
  | some x1 =>
    cases x1 with
    | er d m => rfl
    | ok w m =>
      simp only [R.bind]
      cases hk : (view m w).bind truth with
      | none => rfl
      | some k =>
        cases k with
        | true => simp [R.of]
        | false => simp [R.of, hk]
theorem evB_or {ρ : Env} {μ : Mu} : evB Φ (.or ia ib) ρ μ = (evB Φ ia ρ μ).bind fun b μ1 => if b = true then rok true μ1 else evB Φ ib ρ μ1 := by
  unfold evB
  simp only [evE]
  cases evE Φ ia ρ μ with
  | none => rfl
  | some x1 =>
    cases x1 with
    | er d m => rfl
    | ok w m =>
      simp only [R.bind]
      cases hk : (view m w).bind truth with
      | none => rfl
      | some k =>
        cases k with
        | true => simp [R.of, hk]
        | false => simp [R.of]
/-- .. whatever its whole is -/
def wP (X : Cx) (e : Expr) : TT := fun σ H Q => ∀ (whole : Sem Value) (pins : List (Addr × Obj)) (s : Shared), Inv X pins σ H s → wpAny (model X.prog X.w) X.A (isTrue e X.env whole) (TP X pins σ Q) X.xe s
theorem pw_w {e : Expr} : PW X e (wP X e) := ⟨fun whole pins s σ H Q I h => h whole pins s I⟩
theorem wP_of {e : Expr} {t : TT} (h : PW X e t) {σ : L2.St} {H : Hp} {Q : Bool → Hp → Prop} (q : t σ H Q) : wP X e σ H Q := fun whole pins s I => h.run whole pins s σ H Q I q
def TyP (T : Tb) (Φ : Phi) (X : Cx) (e : Expr) (ie : IE) : Prop := ∀ (ρ : Env) (μ : Mu) (σ : L2.St) (H F : Hp) (A : List Addr) (r : X1 Bool) (Q : Bool → Hp → Prop) (E : WX),
  Takes X E → SRel T μ H F A → ERel T ρ σ F A → evB Φ ie ρ μ = some r → PostB T F A Q (fun c d h => E c d σ h) r → wP X e σ H Q
theorem TyP.toB {e : Expr} {ie : IE} (h : TyP T Φ X e ie) : TyB T Φ X e ie := fun ρ μ σ H F A r Q E tk s er e p pins st I => h ρ μ σ H F A r Q E tk s er e p _ pins st I
theorem tp_and1 (ha : TyB T Φ X a ia) : TyP T Φ X (.BoolOp .And [a] pos) ia := fun ρ μ σ H F A r Q E tk s er e p => wP_of (pw_and1 pt_w) (ha ρ μ σ H F A r Q E tk s er e p)
theorem tp_or1 (ha : TyB T Φ X a ia) : TyP T Φ X (.BoolOp .Or [a] pos) ia := fun ρ μ σ H F A r Q E tk s er e p => wP_of (pw_or1 pt_w) (ha ρ μ σ H F A r Q E tk s er e p)
theorem tp_and {rest : List Expr} (ha : TyB T Φ X a ia) (hb : TyP T Φ X (.BoolOp .And (b :: rest) pos) ib) : TyP T Φ X (.BoolOp .And (a :: b :: rest) pos) (.and ia ib) := by
  intro ρ μ σ H F A r Q E tk s er e p
  rw [evB_and] at e
  refine wP_of (pw_and pt_w pw_w) (ha.then tk s er e p fun k μ1 H1 F1 A1 x s1 er1 e1 p1 => ?_)
  cases k with
  | true => rw [if_pos rfl] at e1 ⊢; exact hb ρ μ1 σ H1 F1 A1 r Q E tk s1 er1 e1 p1
  | false => rw [if_neg Bool.false_ne_true] at e1 ⊢; cases e1; exact p1 false H1 F1 A1 (.refl _ _) s1 rfl
theorem tp_or {rest : List Expr} (ha : TyB T Φ X a ia) (hb : TyP T Φ X (.BoolOp .Or (b :: rest) pos) ib) : TyP T Φ X (.BoolOp .Or (a :: b :: rest) pos) (.or ia ib) := by
  intro ρ μ σ H F A r Q E tk s er e p
  rw [evB_or] at e
  refine wP_of (pw_or pt_w pw_w) (ha.then tk s er e p fun k μ1 H1 F1 A1 x s1 er1 e1 p1 => ?_)
  cases k with
  | true => rw [if_pos rfl] at e1 ⊢; cases e1; exact p1 true H1 F1 A1 (.refl _ _) s1 rfl
  | false => rw [if_neg Bool.false_ne_true] at e1 ⊢; exact hb ρ μ1 σ H1 F1 A1 r Q E tk s1 er1 e1 p1
/-- a comparison as a test -/
theorem tb_cmp {o : Op} {op : CmpOp} (hc : ∀ x y d, sem o [x, y] = some d → ∃ k, d = .bl k) (ho : Op2 T X (compareOp op) (fun x y => sem o [x, y])) (ha : TyE T Φ X a ia) (hb : TyE T Φ X b ib) (hm : behindInMarks op b = false) : TyB T Φ X (.Compare a [op] [b] pos) (.op o [ia, ib]) := by
  intro ρ μ σ H F A r Q E tk s er e p
  refine wT_of (pt_cmpR ho pe_w pe_w hm) ?_
  have e' : (evE Φ ia ρ μ).bind (fun w μ1 => (evE Φ ib ρ μ1).bind fun u μ2 => (match views μ2 [w, u] with
      | none => none
      | some ds => match sem o ds with
        | none => none
        | some d => R.of (truth d) μ2 : R Bool)) = some r := by
    rw [← e]
    unfold evB
    simp only [evE, evL]
    unfold R.bind
    cases evE Φ ia ρ μ with
    | none => rfl
    | some x1 =>
      cases x1 with
      | er d m => rfl
      | ok w m =>
        dsimp only
        cases evE Φ ib ρ m with
        | none => rfl
        | some x2 =>
          cases x2 with
          | er d m => rfl
          | ok u m2 =>
            dsimp only
            cases views m2 [w, u] with
            | none => rfl
            | some ds =>
              dsimp only
              cases sem o ds <;> rfl
  refine ha.then tk s er e' p fun w μ1 v H1 F1 A1 x s1 er1 r1 e1 p1 => ?_
  refine hb.then tk s1 er1 e1 p1 fun u μ2 y H2 F2 A2 x2 s2 er2 r2 e2 p2 => ?_
  split at e2
  · cases e2
  · rename_i ds hd
    split at e2
    · cases e2
    · rename_i d hs
      have pr := s2.views (.cons (r1.mono x2) (.cons r2 .nil)) hd
      cases pr with
      | cons q1 q =>
        cases q with
        | cons q2 q =>
          cases q
          obtain ⟨c, rfl⟩ := hc _ _ _ hs
          cases e2
          refine ⟨F2, _, _, .bl c, s2.sub, q1, q2, hs, fun v F' H' g rv => ⟨c, by simpa only [Rep] using rv, ?_⟩⟩
          exact p2 c H' F' A2 (g.ext A2) (g.srel s2) rfl
end
end PI
/-! PI5: calls, slices, isinstance, what is walked, comprehensions. -/
namespace PI
open PySem PySem.Spec PyProof.Rows L2

section
variable {T : Tb} {Φ : Phi} {X : Cx} {pos : Pos} {a b c : Expr} {ia ib ic : IE}

theorem ty_ite (hc : TyB T Φ X c ic) (ha : TyE T Φ X a ia) (hb : TyE T Φ X b ib) : TyE T Φ X (.IfExp c a b pos) (.ite ic ia ib) := by
  intro ρ μ σ H F A r Q E tk s er e p
  have e' : (evB Φ ic ρ μ).bind (fun k μ1 => if k = true then evE Φ ia ρ μ1 else evE Φ ib ρ μ1) = some r := by
    rw [← e]
    unfold evB
    simp only [evE]
    cases evE Φ ic ρ μ with
    | none => rfl
    | some x1 =>
      cases x1 with
      | er d m => rfl
      | ok w m =>
        simp only [R.bind]
        cases hk : (view m w).bind truth with
        | none => rfl
        | some k => cases k <;> simp [R.of]
  refine wE_of (pe_ifExp pt_w pe_w pe_w) (hc.then tk s er e' p fun k μ1 H1 F1 A1 x s1 er1 e1 p1 => ?_)
  cases k with
  | true => rw [if_pos rfl] at e1 ⊢; exact ha ρ μ1 σ H1 F1 A1 r Q E tk s1 er1 e1 p1
  | false => rw [if_neg Bool.false_ne_true] at e1 ⊢; exact hb ρ μ1 σ H1 F1 A1 r Q E tk s1 er1 e1 p1

/-! ### slices -/
/-- what is wanted of a part of a slice -/
def wO (X : Cx) (e : Option Expr) : TO := match e with
  | none => tNoPart
  | some e => tPart (wE X e)
theorem po_w {e : Option Expr} : PO X e (wO X e) := by
  cases e with
  | none => exact po_none
  | some e => exact po_some pe_w
/-- what a part of a slice gives -/
def evP (Φ : Phi) (f : Bool) (e : IE) (ρ : Env) (μ : Mu) : R (Option Int) := if f = true then (evE Φ e ρ μ).bind toI else rok none μ
def TyO (T : Tb) (Φ : Phi) (X : Cx) (f : Bool) (e : Option Expr) (ie : IE) : Prop := ∀ (ρ : Env) (μ : Mu) (σ : L2.St) (H F : Hp) (A : List Addr) (r : X1 (Option Int)) (Q : Option Int → Hp → Prop) (E : WX),
  Takes X E → SRel T μ H F A → ERel T ρ σ F A → evP Φ f ie ρ μ = some r → Post (α := Option Int) (β := Option Int) T (fun _ _ w v => w = v) F A Q (fun c d h => E c d σ h) r → wO X e σ H Q
theorem to_none : TyO T Φ X false none ia := by
  intro ρ μ σ H F A r Q E tk s er e p
  simp only [evP, Bool.false_eq_true, if_false] at e
  cases e
  exact p none H F A (.refl _ _) s rfl
theorem to_some (ha : TyE T Φ X a ia) : TyO T Φ X true (some a) ia := by
  intro ρ μ σ H F A r Q E tk s er e p
  have e' : (evE Φ ia ρ μ).bind toI = some r := e
  refine ha.then tk s er e' p fun w μ1 v H1 F1 A1 x s1 er1 r1 e1 p1 => ?_
  unfold toI at e1
  split at e1
  · cases e1
    simp only [RepW, Rep] at r1
    exact ⟨_, r1, p1 _ H1 F1 A1 (.refl _ _) s1 rfl⟩
  · cases e1
theorem TyO.then {α β : Type} {f : Bool} {o : Option Expr} (h : TyO T Φ X f o ia) {rep : Hp → List Addr → α → β → Prop} {g : Option Int → Mu → R α} {r : X1 α} {ρ : Env} {μ : Mu} {σ : L2.St} {H F : Hp} {A : List Addr} {Q : Option Int → Hp → Prop} {Q2 : β → Hp → Prop} {E : WX}
    (tk : Takes X E) (s : SRel T μ H F A) (er : ERel T ρ σ F A) (e : (evP Φ f ia ρ μ).bind g = some r) (p : Post T rep F A Q2 (fun c d h => E c d σ h) r)
    (hQ : ∀ w μ1 H1 F1 A1, Ext F A F1 A1 → SRel T μ1 H1 F1 A1 → ERel T ρ σ F1 A1 → g w μ1 = some r → Post T rep F1 A1 Q2 (fun c d h => E c d σ h) r → Q w H1) : wO X o σ H Q := by
  rcases bind_some e with ⟨d, m, e1, rfl⟩ | ⟨w, m, e1, e2⟩
  · exact h ρ μ σ H F A _ Q E tk s er e1 p
  · exact h ρ μ σ H F A _ Q E tk s er e1 fun v H1 F1 A1 x s1 r1 => by
      subst r1
      exact hQ w m H1 F1 A1 x s1 (er.mono x) e2 (p.mono x)
theorem ty_sl {fl fh : Bool} {lo hi : Option Expr} {il ih : IE} {p2 : Pos} (hK : X.K = T.K) (ha : TyE T Φ X a ia) (hl : TyO T Φ X fl lo il) (hh : TyO T Φ X fh hi ih) : TyE T Φ X (.Subscript a (.Slice lo hi none p2) pos) (.sl fl fh ia il ih) := by
  intro ρ μ σ H F A r Q E tk s er e p
  simp only [evE] at e
  refine wE_of (pe_slice (o_slice hK) pe_w po_w po_w) (ha.then tk s er e p fun w μ1 v H1 F1 A1 x s1 er1 r1 e1 p1 => ?_)
  refine hl.then tk s1 er1 e1 p1 fun l μ2 H2 F2 A2 x2 s2 er2 e2 p2 => ?_
  refine hh.then tk s2 er2 e2 p2 fun h μ3 H3 F3 A3 x3 s3 er3 e3 p3 => ?_
  obtain ⟨w', hw, rfl⟩ := of_some e3
  obtain ⟨d, hd, rfl⟩ := Option.map_eq_some_iff.mp hw
  obtain ⟨d0, hv, hc⟩ := Option.bind_eq_some_iff.mp hd
  exact ⟨F3, d0, d, s3.sub, s3.view (r1.mono (x2.trans x3)) hv, hc, .of s3 p3⟩

/-! ### a call of a def of the text -/
/-- what a def promises, by what Φ does -/
def spF (T : Tb) (Φ : Phi) (f : Str) (np : Nat) : Sp := fun vs H Q E => vs.length = np ∧ ∃ ws μ F A r, RepWs T F A ws vs ∧ SRel T μ H F A ∧ Φ f ws μ = some r ∧ PostW T F A Q E r
/-- how the call of the object at fa with these arguments does what Φ does with vs -/
def RunAt (T : Tb) (Φ : Phi) (X : Cx) (fa : Addr) (x : Str) (np : Nat) (us : List Value) (kw : List (Str × Value)) (vs : List V) : Prop := ∀ (pins : List (Addr × Obj)) (σ : L2.St) (H : Hp) (s : Shared) (Q : VK) (E : WX),
  Takes X E → Inv X pins σ H s → spF T Φ x np vs H Q (fun c d h => E c d σ h) → wpAny (model X.prog X.w) X.A (call (.ref fa) us kw) (EP X pins σ Q) X.xe s
/-- the same program, the same module -/
structure Sim (X Y : Cx) : Prop where
  prog : Y.prog = X.prog
  w : Y.w = X.w
  K : Y.K = X.K
  mg : Y.mg = X.mg
  base : Y.base = X.base
theorem Sim.refl {X : Cx} : Sim X X := ⟨rfl, rfl, rfl, rfl, rfl⟩
theorem Sim.trans {X Y Z : Cx} (a : Sim X Y) (b : Sim Y Z) : Sim X Z := ⟨b.prog.trans a.prog, b.w.trans a.w, b.K.trans a.K, b.mg.trans a.mg, b.base.trans a.base⟩
/-- what is called x is what Φ says; kf: how its keywords are put in order -/
structure Callee (T : Tb) (Φ : Phi) (kf : Str → List Str → Option (List Nat)) (X : Cx) (x : Str) (np : Nat) : Prop where
  len : ∀ ws μ r, Φ x ws μ = some r → ws.length = np
  ex : ∃ fa k, X.mg x = some (.ref fa) ∧ PySem.W.keepIn X.K (.ref fa) = true ∧ Room k X.A ∧ ∀ Y, Sim X Y → Room k Y.A → (∀ us vs, Vals vs us → RunAt T Φ Y fa x np us [] vs) ∧
    ∀ ks pm ws zs vs, kf x ks = some pm → Vals zs ws → zs.length = ks.length → permL pm zs = some vs → RunAt T Φ Y fa x np [] (ks.zip ws) vs
theorem Callee.at {kf : Str → List Str → Option (List Nat)} {x : Str} {np : Nat} (h : Callee T Φ kf X x np) : ∃ fa, X.mg x = some (.ref fa) ∧ PySem.W.keepIn X.K (.ref fa) = true ∧ (∀ us vs, Vals vs us → RunAt T Φ X fa x np us [] vs) ∧
    ∀ ks pm ws zs vs, kf x ks = some pm → Vals zs ws → zs.length = ks.length → permL pm zs = some vs → RunAt T Φ X fa x np [] (ks.zip ws) vs := by
  obtain ⟨fa, k, h1, h2, h3, h4⟩ := h.ex
  exact ⟨fa, h1, h2, h4 X .refl h3⟩
theorem Callee.sim {kf : Str → List Str → Option (List Nat)} {Y : Cx} {x : Str} {np : Nat} (h : Callee T Φ kf X x np) (e : Sim X Y) (hA : ∀ k, Room k X.A → Room k Y.A) : Callee T Φ kf Y x np := by
  obtain ⟨fa, k, h1, h2, h3, h4⟩ := h.ex
  exact ⟨h.len, fa, k, by rw [e.mg]; exact h1, by rw [e.K]; exact h2, hA k h3, fun Z z hz => h4 Z (e.trans z) hz⟩
variable {kf : Str → List Str → Option (List Nat)}
theorem ty_call {x : Str} {np : Nat} {p : Pos} {es : List Expr} {is : List IE} (hf : Callee T Φ kf X x np) (hg : Gl X x) (hs : TyL T Φ X (a :: es) is) (hdb : (x == ("__debug__" : Str)) = false) (he : starEach (a :: es) X.env = (false, eval a X.env) :: starEach es X.env)
    (hpl : (backTo pos (starEach es X.env)).any (·.1) = false) : TyE T Φ X (.Call (.Name x p) (a :: es) [] pos) (.call x is) := by
  intro ρ μ σ H F A r Q E tk s er e p
  obtain ⟨fa, hm, hk, run, _⟩ := hf.at
  simp only [evE] at e
  intro pins st I
  refine wpAny_Call_Name_kw (ld_glob I hg hm ?_ hdb)
  refine PySem.W.callWith_K (h₀ := X.base) I.ok.mod.kin hk ?_ he hpl
  refine wpAny_mono (hs.then (Q := fun vs H1 => spF T Φ x np vs H1 Q (fun c d h => E c d σ h)) tk s er e p (fun ws μ1 vs H1 F1 A1 x s1 er1 r1 e1 p1 => ?_) pos pins st I) (fun us s1 hh => ?_) fun _ _ z => z
  · exact ⟨by rw [← Paired.length r1]; exact hf.len _ _ _ e1, ws, μ1, F1, A1, r, r1, s1, e1, p1⟩
  · obtain ⟨vs, H1, I1, rv, q⟩ := hh
    exact ⟨I1.kIn, run us vs rv pins σ H1 s1 Q E tk I1 q⟩

/-! ### in, isinstance -/
theorem o_in (hK : X.K = T.K) (hu : X.A.units + 65 < cLine) : Op2 T X (compareOp .In) (fun x y => sem .in_ [x, y]) := by
  intro pins s σ H x y v u Q I rx ry h
  obtain ⟨F, d1, d2, d, sF, r1, r2, e, q⟩ := h
  simp only [sem] at e
  obtain ⟨k, hk, rfl⟩ := Option.map_eq_some_iff.mp e
  exact (o_inV hK hu I rx ry sF r1 r2 hk).1 (q.bl sF)
theorem o_notin (hK : X.K = T.K) (hu : X.A.units + 65 < cLine) : Op2 T X (compareOp .NotIn) (fun x y => sem .notin [x, y]) := by
  intro pins s σ H x y v u Q I rx ry h
  obtain ⟨F, d1, d2, d, sF, r1, r2, e, q⟩ := h
  simp only [sem] at e
  obtain ⟨k, hk, rfl⟩ := Option.map_eq_some_iff.mp e
  exact (o_inV hK hu I rx ry sF r1 r2 hk).2 (q.bl sF)

/-- a built-in type by its name -/
def tyS : Str → Option Ty := fun x => if x = "int" then some .tint else if x = "bool" then some .tbool else if x = "str" then some .tstr else if x = "list" then some .tlist else if x = "tuple" then some .ttuple else if x = "dict" then some .tdict else none
theorem tyS_ok {x : Str} {t : Ty} (h : tyS x = some t) : ∃ n, tyN t = some n ∧ bootBuiltins x = some (.type n) ∧ x ≠ "__name__" ∧ (x == ("__debug__" : Str)) = false := by
  unfold tyS at h
  split at h
  · rename_i e; subst e; cases h; exact ⟨_, rfl, by decide +kernel, by decide, by decide⟩
  split at h
  · rename_i e; subst e; cases h; exact ⟨_, rfl, by decide +kernel, by decide, by decide⟩
  split at h
  · rename_i e; subst e; cases h; exact ⟨_, rfl, by decide +kernel, by decide, by decide⟩
  split at h
  · rename_i e; subst e; cases h; exact ⟨_, rfl, by decide +kernel, by decide, by decide⟩
  split at h
  · rename_i e; subst e; cases h; exact ⟨_, rfl, by decide +kernel, by decide, by decide⟩
  split at h
  · rename_i e; subst e; cases h; exact ⟨_, rfl, by decide +kernel, by decide, by decide⟩
  · cases h
theorem pe_ty {x : Str} {n : String} {p : Pos} (hg : Gl X x) (hm : X.mg x = none) (hv : bootBuiltins x = some (.type n)) (hn : x ≠ "__name__") (hd : (x == ("__debug__" : Str)) = false) : PE X (.Name x p) (tC (.ty n)) := pe_bltn hg hm hv rfl hn hd
theorem dTys_one {d : D} {t : Ty} : dTys d [t] = (dTy d t).map fun a => a || false := by
  simp only [dTys]
  cases dTy d t <;> rfl
/-- isinstance(a, T) -/
theorem ty_isi1 {x : Str} {p p' : Pos} {t : Ty} (hK : X.K = T.K) (hg : Gl X "isinstance") (hm : X.mg "isinstance" = none) (ht : tyS x = some t) (hgx : Gl X x) (hmx : X.mg x = none) (ha : TyE T Φ X a ia)
    (hs : starEach (a :: [.Name x p']) X.env = (false, eval a X.env) :: starEach [.Name x p'] X.env) : TyE T Φ X (.Call (.Name "isinstance" p) [a, .Name x p'] [] pos) (.op (.isi [t]) [ia]) := by
  intro ρ μ σ H F A r Q E tk s er e p
  obtain ⟨n, hn, hv, h1, h2⟩ := tyS_ok ht
  refine wE_of (pe_callB call_isi hg hm (by decide +kernel) (pa_cons pe_w (pa_cons (pe_ty hgx hmx hv h1 h2) pa_nil) hs) (by decide) (by decide) hs (by rfl)) ?_
  refine op1_go ha tk s er e p fun v H1 F1 d1 d sb q1 hsm pq => ?_
  simp only [sem] at hsm
  obtain ⟨k, hk, rfl⟩ := Option.map_eq_some_iff.mp hsm
  rw [dTys_one] at hk
  obtain ⟨k', hk', e2⟩ := Option.map_eq_some_iff.mp hk
  rw [Bool.or_false] at e2
  subst e2
  obtain ⟨u, hx, hb, _⟩ := tyX_of hK sb q1 hk' hn
  exact ⟨v, .ty n, .type u, .type n, k', rfl, .ty n, hx, kit_ty hb, pq.bl sb⟩
/-- the names of a tuple of types -/
def tyNames : List Expr → Option (List (Str × Ty))
  | [] => some []
  | .Name x _ :: r => match tyS x, tyNames r with
    | some t, some l => some ((x, t) :: l)
    | _, _ => none
  | _ => none
theorem pa_tys : ∀ {es : List Expr} {l : List (Str × Ty)}, tyNames es = some l → (∀ p ∈ l, Gl X p.1 ∧ X.mg p.1 = none) → ∃ ns : List String, l.map (fun p => tyN p.2) = ns.map some ∧ PA X es (fun _ H Q => Q (ns.map V.ty) H)
  | [], l, h, _ => by
    simp only [tyNames] at h
    cases h
    exact ⟨[], rfl, pa_nil⟩
  | .Name x p :: r, l, h, hl => by
    simp only [tyNames] at h
    split at h
    · rename_i t l' h1 h2
      cases h
      obtain ⟨n, hn, hv, h3, h4⟩ := tyS_ok h1
      obtain ⟨ns, h5, h6⟩ := pa_tys h2 fun q hq => hl q (List.mem_cons_of_mem _ hq)
      obtain ⟨g1, g2⟩ := hl (x, t) List.mem_cons_self
      refine ⟨n :: ns, by simp [hn, h5], ?_⟩
      exact pa_cons (pe_ty g1 g2 hv h3 h4) h6
    · cases h
  | .BoolOp .. :: r, l, h, hl => by cases h
  | .NamedExpr .. :: r, l, h, hl => by cases h
  | .BinOp .. :: r, l, h, hl => by cases h
  | .UnaryOp .. :: r, l, h, hl => by cases h
  | .Lambda .. :: r, l, h, hl => by cases h
  | .IfExp .. :: r, l, h, hl => by cases h
  | .Dict .. :: r, l, h, hl => by cases h
  | .Set .. :: r, l, h, hl => by cases h
  | .ListComp .. :: r, l, h, hl => by cases h
  | .SetComp .. :: r, l, h, hl => by cases h
  | .DictComp .. :: r, l, h, hl => by cases h
  | .GeneratorExp .. :: r, l, h, hl => by cases h
  | .Await .. :: r, l, h, hl => by cases h
  | .Yield .. :: r, l, h, hl => by cases h
  | .YieldFrom .. :: r, l, h, hl => by cases h
  | .Compare .. :: r, l, h, hl => by cases h
  | .Call .. :: r, l, h, hl => by cases h
  | .FormattedValue .. :: r, l, h, hl => by cases h
  | .JoinedStr .. :: r, l, h, hl => by cases h
  | .Constant .. :: r, l, h, hl => by cases h
  | .Attribute .. :: r, l, h, hl => by cases h
  | .Subscript .. :: r, l, h, hl => by cases h
  | .Starred .. :: r, l, h, hl => by cases h
  | .List .. :: r, l, h, hl => by cases h
  | .Tuple .. :: r, l, h, hl => by cases h
  | .Slice .. :: r, l, h, hl => by cases h
theorem kit_tys {d : D} {u : String} (hb : ∀ t' k' n', dTy d t' = some k' → tyN t' = some n' → kitB u n' = some k') : ∀ {ts : List Ty} {ns : List String} {k : Bool}, ts.map tyN = ns.map some → dTys d ts = some k → PySem.W.kitAny T.K (.type u) (ns.map Value.type) = some k
  | [], ns, k, h, e => by
    cases ns with
    | nil => simp only [dTys] at e; cases e; exact kitAny_nil
    | cons n ns => cases h
  | t :: ts, ns, k, h, e => by
    cases ns with
    | nil => cases h
    | cons n ns =>
      simp only [List.map_cons, List.cons.injEq] at h
      simp only [dTys] at e
      split at e
      · rename_i k1 k2 h1 h2
        cases e
        have ih := kit_tys hb h.2 h2
        refine kitAny_cons (kit_ty (hb t k1 n h1 h.1)) (fun z => ?_) fun z => ?_
        · rw [z, Bool.false_or]; exact ih
        · rw [z]; rfl
      · cases e
theorem cls_tys : ∀ ns : List String, Paired ClsV (ns.map V.ty) (ns.map Value.type)
  | [] => .nil
  | n :: ns => .cons (.ty n) (cls_tys ns)
/-- isinstance(a, (T1, T2, ..)) -/
theorem ty_isiN {p p' : Pos} {es : List Expr} {l : List (Str × Ty)} {kt : Nat} (hK : X.K = T.K) (hg : Gl X "isinstance") (hm : X.mg "isinstance" = none) (hl : tyNames es = some l) (hz : l.length ≤ 100) (hgl : ∀ p ∈ l, Gl X p.1 ∧ X.mg p.1 = none) (ha : TyE T Φ X a ia)
    (hne : l ≠ []) (hs : starEach (a :: [.Tuple es kt p']) X.env = (false, eval a X.env) :: starEach [.Tuple es kt p'] X.env) : TyE T Φ X (.Call (.Name "isinstance" p) [a, .Tuple es kt p'] [] pos) (.op (.isi (l.map (·.2))) [ia]) := by
  intro ρ μ σ H F A r Q E tk s er e p
  obtain ⟨ns, h1, h2⟩ := pa_tys hl hgl
  refine wE_of (pe_callB call_isiT hg hm (by decide +kernel) (pa_cons pe_w (pa_cons (pe_tup h2) pa_nil) hs) (by decide) (by decide) hs (by rfl)) ?_
  refine op1_go ha tk s er e p fun v H1 F1 d1 d sb q1 hsm pq => ?_
  simp only [sem] at hsm
  obtain ⟨k, hk, rfl⟩ := Option.map_eq_some_iff.mp hsm
  have hlen : ns.length = l.length := by
    have := congrArg List.length h1
    simpa using this.symm
  refine ⟨by rw [List.length_map]; exact Nat.le_trans (by omega : ns.length ≤ 100) (by decide), fun q hq => ?_⟩
  obtain ⟨t, ts, hts⟩ : ∃ t ts, l.map (·.2) = t :: ts := by
    cases l with
    | nil => exact absurd rfl hne
    | cons x y => exact ⟨x.2, y.map (·.2), rfl⟩
  have hk0 := hk
  rw [hts] at hk0
  simp only [dTys] at hk0
  split at hk0
  · rename_i k1 k2 z1 z2
    obtain ⟨n, hn⟩ : ∃ n, tyN t = some n := by
      cases ns with
      | nil =>
        cases l with
        | nil => exact absurd rfl hne
        | cons x y => simp at hlen
      | cons n ns =>
        cases l with
        | nil => cases hts
        | cons x y =>
          simp only [List.map_cons, List.cons.injEq] at h1 hts
          exact ⟨n, by rw [← hts.1]; exact h1.1⟩
    have g0 : Same H1 (upd H1 q (.tup (ns.map V.ty))) := fun b u z => by
      rw [upd_ne (ne_of_none z hq)]
      exact z
    have q2 : RepV T F1 (upd H1 q (.tup (ns.map V.ty))) d1 v := by
      cases d1 with
      | lst ds => obtain ⟨a, vs, e1, e2, e3⟩ := q1; exact ⟨a, vs, e1, g0 _ _ e2, e3⟩
      | dic t ks ds => obtain ⟨a, vs, e1, e2, e5⟩ := q1; exact ⟨a, vs, e1, e2, e5.imp fun u _ z => z.elim (fun y => .inl (g0 _ _ y)) fun ⟨o, y⟩ => .inr ⟨o, g0 _ _ y⟩⟩
      | _ => exact q1
    obtain ⟨u, hx2, _, hall⟩ := tyX_of hK (sb.trans g0) q2 z1 hn
    have kt := kit_tys (T := T) hall (ts := l.map (·.2)) (ns := ns) (by rw [List.map_map]; exact h1) hk
    refine ⟨v, q, ns.map V.ty, .type u, ns.map Value.type, k, rfl, upd_same, cls_tys ns, hx2, hK ▸ kt, ?_⟩
    have g := Grow.new (o := .tup (ns.map V.ty)) sb hq
    exact pq (.bl k) _ _ g (by simp only [Rep])
  · cases hk0
end
end PI
/-! PI6: what is walked; comprehensions. -/
namespace PI
open PySem PySem.Spec PyProof.Rows L2

def wI (X : Cx) (tg iter : Expr) : TI := fun σ H R => ∀ (pins : List (Addr × Obj)) (s : Shared), Inv X pins σ H s →
  wpAny (model X.prog X.w) X.A (eval iter X.env) (fun v s1 => wpAny (model X.prog X.w) X.A (pyIter v) (PIE X pins σ tg R) X.xe s1) X.xe s
theorem pi_w {X : Cx} {tg iter : Expr} : PI X tg iter (wI X tg iter) := ⟨fun pins s σ H R I h => h pins s I⟩
theorem wI_of {X : Cx} {tg iter : Expr} {t : TI} (h : L2.PI X tg iter t) {σ : L2.St} {H : Hp} {R : It → Hp → Prop} (q : t σ H R) : wI X tg iter σ H R := fun pins s I => h.run pins s σ H R I q

/-- J walks the data xs, while the objects of F stand -/
structure WalkD (T : Tb) (F : Hp) (J : It) (xs : List D) : Prop where
  goes : ∀ i H, i < xs.length → Sub F H → J.go i H
  stops : ∀ H, Sub F H → J.stop xs.length H
  yields : ∀ i H F1 x H', i < xs.length → Sub F F1 → Sub F1 H → J.yld i H x H' → ∃ d F2, xs[i]? = some d ∧ Grow F1 H F2 H' ∧ Rep T F2 d x
abbrev PostI (T : Tb) := Post (α := List D) (β := It) T (fun F _ xs J => WalkD T F J xs)
def TyI (T : Tb) (Φ : Phi) (X : Cx) (tg iter : Expr) (it : IT) : Prop := ∀ (ρ : Env) (μ : Mu) (σ : L2.St) (H F : Hp) (A : List Addr) (r : X1 (List D)) (R : It → Hp → Prop) (E : WX),
  Takes X E → SRel T μ H F A → ERel T ρ σ F A → evT Φ it ρ μ = some r → PostI T F A R (fun c d h => E c d σ h) r → wI X tg iter σ H R

section
variable {T : Tb} {Φ : Phi} {X : Cx} {pos : Pos} {a b c tg : Expr} {ia ib ic : IE} {F H : Hp} {K : PySem.W.Frag}
theorem walkD_list {ad : Addr} {xs : List D} {vs : List V} (h : F ad = some (.lst vs)) (r : Reps T F xs vs) : WalkD T F (Itl K ad) xs := by
  have sq : ∀ {H : Hp}, Sub F H → SqL K H ad vs := fun s => .of (s _ _ h)
  refine ⟨fun i H hi s => ?_, fun H s => ⟨vs, sq s, by rw [r.len]; exact Nat.le_refl _⟩, fun i H F1 x H' hi s1 s2 y => ?_⟩
  · obtain ⟨v, h1, _⟩ := r.get (i := i) (d := xs[i]) (by simp [hi])
    exact ⟨vs, v, sq s, h1⟩
  · obtain ⟨e, y⟩ := y
    subst e
    obtain ⟨v, h1, h2⟩ := r.get (i := i) (d := xs[i]) (by simp [hi])
    have := y vs (sq (s1.trans s2))
    rw [h1] at this
    cases this
    exact ⟨xs[i], F1, by simp [hi], .refl s2, h2.mono s1⟩
theorem walkD_tup {ad : Addr} {xs : List D} {vs : List V} (h : F ad = some (.tup vs)) (r : Reps T F xs vs) : WalkD T F (Itt K ad) xs := by
  have sq : ∀ {H : Hp}, Sub F H → SqT K H ad vs := fun s => sub_sqT s h
  refine ⟨fun i H hi s => ?_, fun H s => ⟨vs, sq s, by rw [r.len]; exact Nat.le_refl _⟩, fun i H F1 x H' hi s1 s2 y => ?_⟩
  · obtain ⟨v, h1, _⟩ := r.get (i := i) (d := xs[i]) (by simp [hi])
    exact ⟨vs, v, sq s, h1⟩
  · obtain ⟨e, y⟩ := y
    subst e
    obtain ⟨v, h1, h2⟩ := r.get (i := i) (d := xs[i]) (by simp [hi])
    have := y vs (sq (s1.trans s2))
    rw [h1] at this
    cases this
    exact ⟨xs[i], F1, by simp [hi], .refl s2, h2.mono s1⟩
theorem walkD_range {lo : Int} {n : Nat} : WalkD T F (Itr lo n) ((List.range n).map fun i => .int (lo + (i : Nat))) := by
  refine ⟨fun i H hi s => (by simpa using hi : i < n), fun H s => by simp [Itr], fun i H F1 x H' hi s1 s2 y => ?_⟩
  obtain ⟨e, y⟩ := y
  subst e y
  have hi' : i < n := by simpa using hi
  exact ⟨.int (lo + i), F1, by simp [hi'], .refl s2, by simp only [Rep]⟩
theorem walkD_str {z : Str} : WalkD T F (Its z) (z.cps.toList.map fun c => .str ⟨#[c]⟩) := by
  have hl : (z.cps.toList.map fun c => (D.str ⟨#[c]⟩ : D)).length = z.cps.size := by simp
  refine ⟨fun i H hi s => by rw [hl] at hi; exact hi, fun H s => by rw [hl]; exact Nat.le_refl _, fun i H F1 x H' hi s1 s2 y => ?_⟩
  obtain ⟨e, c, hc, rfl⟩ := y
  subst e
  refine ⟨.str ⟨#[c]⟩, F1, ?_, .refl s2, by simp only [Rep]⟩
  rw [List.getElem?_map]
  have : z.cps.toList[i]? = some c := by simpa using hc
  rw [this]
  rfl
/-- the keys of a locked dict -/
theorem walkD_keys {ad : Addr} {o : Obj} {ks : List D} {kl : List Key} {vs : List V} (h : F ad = some (.frz o (.dK (kl.zip vs)))) (h1 : keysD ks = some kl) (h2 : kl.length = vs.length) : WalkD T F (Itk ad o (kl.zip vs)) ks := by
  have hl : (kl.zip vs).length = ks.length := by rw [List.length_zip, ← h2, Nat.min_self, keysD_len h1]
  refine ⟨fun i H hi s => ⟨s _ _ h, by rw [hl]; exact hi⟩, fun H s => ⟨s _ _ h, by rw [hl]; exact Nat.le_refl _⟩, fun i H F1 x H' hi s1 s2 y => ?_⟩
  obtain ⟨rfl, k, v, e1, rfl⟩ := y
  have rp : Reps T F1 ks (kl.map kV) := keysD_reps h1
  obtain ⟨w, hw, rw'⟩ := rp.get (i := i) (d := ks[i]) (by simp [hi])
  refine ⟨ks[i], F1, by simp [hi], .refl s2, ?_⟩
  rw [List.getElem?_map] at hw
  obtain ⟨k', hk', rfl⟩ := Option.map_eq_some_iff.mp hw
  have : k' = k := by
    have q := List.getElem?_zip_eq_some.mp e1
    rw [q.1] at hk'
    exact (Option.some.inj hk').symm
  rw [← this]
  exact rw'
theorem keysT_get : ∀ {ks : List D} {kl : List (List Key)} {i : Nat} {k : List Key} {x : D}, keysT ks = some kl → kl[i]? = some k → ks[i]? = some x → keyT x = some k
  | [], kl, i, k, x, h, e1, e2 => by simp at e2
  | y :: ks, kl, i, k, x, h, e1, e2 => by
    simp only [keysT] at h
    split at h
    · rename_i a b h1 h2
      cases h
      cases i with
      | zero =>
        simp at e1 e2
        subst e1 e2
        exact h1
      | succ i => exact keysT_get h2 (by simpa using e1) (by simpa using e2)
    · cases h
theorem walkD_keysT {ad : Addr} {o : Obj} {ks : List D} {kl : List (List Key)} {vs : List V} (h : F ad = some (.frz o (.dT (kl.zip vs)))) (h1 : keysT ks = some kl) (h2 : kl.length = vs.length) : WalkD T F (Itkt ad o (kl.zip vs)) ks := by
  have hl : (kl.zip vs).length = ks.length := by rw [List.length_zip, ← h2, Nat.min_self, keysT_len h1]
  refine ⟨fun i H hi s => ⟨s _ _ h, by rw [hl]; exact hi⟩, fun H s => ⟨s _ _ h, by rw [hl]; exact Nat.le_refl _⟩, fun i H F1 x H' hi s1 s2 y => ?_⟩
  obtain ⟨rfl, k, v, q, e1, rfl, hq⟩ := y
  obtain ⟨F', g, hF⟩ := Grow.keys s2 [q] (fun b hb => by
    have : b = q := by simpa using hb
    subst this
    exact ⟨_, hq⟩)
  have ez := List.getElem?_zip_eq_some.mp e1
  exact ⟨ks[i], F', by simp [hi], g, keyT_rep (keysT_get h1 ez.1 (by simp [hi])) (by rw [hF q (by simp)]; exact hq)⟩
/-- a value that is a dict may be locked -/
theorem wE_lock {e : Expr} {σ : L2.St} {H : Hp} {Q : VK} (h : wE X e σ H fun v H1 => Q v H1 ∨ ∃ d u, H1 d = some u ∧ Mut (some u) ∧ ∀ od, Q v (upd H1 d (.frz od u))) : wE X e σ H Q := by
  intro pins s I
  refine wpAny_mono (h pins s I) (fun v s1 ⟨x, H1, I1, r, q⟩ => ?_) fun _ _ z => z
  rcases q with q | ⟨d, u, hd, mu, q⟩
  · exact ⟨x, H1, I1, r, q⟩
  · obtain ⟨od, I2⟩ := I1.lock hd mu
    exact ⟨x, _, I2, r, q od⟩
theorem zipWith_get {α β γ : Type} {f : α → β → γ} : ∀ {xs : List α} {ys : List β} {i : Nat} {x : α} {y : β}, xs[i]? = some x → ys[i]? = some y → (xs.zipWith f ys)[i]? = some (f x y)
  | [], _, _, _, _, h, _ => by simp at h
  | _ :: _, [], _, _, _, _, h => by simp at h
  | x :: xs, y :: ys, 0, _, _, h1, h2 => by simp at h1 h2; subst h1 h2; rfl
  | x :: xs, y :: ys, i + 1, _, _, h1, h2 => by
    simp only [List.getElem?_cons_succ] at h1 h2
    simp only [List.zipWith_cons_cons, List.getElem?_cons_succ]
    exact zipWith_get h1 h2
theorem walkD_enum {ad : Addr} {xs : List D} {vs : List V} (h : F ad = some (.lst vs)) (r : Reps T F xs vs) : WalkD T F (Ite K ad) ((List.range xs.length).zipWith (fun i x => .tup [.int (i : Nat), x]) xs) := by
  have sq : ∀ {H : Hp}, Sub F H → SqL K H ad vs := fun s => .of (s _ _ h)
  have hl : ((List.range xs.length).zipWith (fun i x => (D.tup [.int (i : Nat), x] : D)) xs).length = xs.length := by simp
  refine ⟨fun i H hi s => ?_, fun H s => ⟨vs, sq s, by rw [hl, r.len]; exact Nat.le_refl _⟩, fun i H F1 x H' hi s1 s2 y => ?_⟩
  · rw [hl] at hi
    obtain ⟨v, h1, _⟩ := r.get (i := i) (d := xs[i]) (by simp [hi])
    exact ⟨vs, v, sq s, h1⟩
  · rw [hl] at hi
    obtain ⟨p, v, rfl, hp, rfl, y⟩ := y
    obtain ⟨v', h1, h2⟩ := r.get (i := i) (d := xs[i]) (by simp [hi])
    have := y vs (sq (s1.trans s2))
    rw [h1] at this
    cases this
    have g := Grow.new (o := .tup [.int (i : Nat), v]) s2 hp
    refine ⟨_, _, zipWith_get (x := i) (y := xs[i]) (by simp [hi]) (by simp [hi]), g, ?_⟩
    simp only [Rep]
    exact ⟨p, _, rfl, upd_same, .cons (by simp only [Rep]) (.cons (h2.mono (s1.trans g.fs)) .nil)⟩
theorem walkD_enumT {ad : Addr} {xs : List D} {vs : List V} (h : F ad = some (.tup vs)) (r : Reps T F xs vs) : WalkD T F (IteT K ad) ((List.range xs.length).zipWith (fun i x => .tup [.int (i : Nat), x]) xs) := by
  have sq : ∀ {H : Hp}, Sub F H → SqT K H ad vs := fun s => sub_sqT s h
  have hl : ((List.range xs.length).zipWith (fun i x => (D.tup [.int (i : Nat), x] : D)) xs).length = xs.length := by simp
  refine ⟨fun i H hi s => ?_, fun H s => ⟨vs, sq s, by rw [hl, r.len]⟩, fun i H F1 x H' hi s1 s2 y => ?_⟩
  · rw [hl] at hi
    obtain ⟨v, h1, _⟩ := r.get (i := i) (d := xs[i]) (by simp [hi])
    exact ⟨vs, v, sq s, h1⟩
  · rw [hl] at hi
    obtain ⟨p, v, rfl, hp, rfl, y⟩ := y
    obtain ⟨v', h1, h2⟩ := r.get (i := i) (d := xs[i]) (by simp [hi])
    have := y vs (sq (s1.trans s2))
    rw [h1] at this
    cases this
    have g := Grow.new (o := .tup [.int (i : Nat), v]) s2 hp
    refine ⟨_, _, zipWith_get (x := i) (y := xs[i]) (by simp [hi]) (by simp [hi]), g, ?_⟩
    simp only [Rep]
    exact ⟨p, _, rfl, upd_same, .cons (by simp only [Rep]) (.cons (h2.mono (s1.trans g.fs)) .nil)⟩
theorem zip_len {α β γ : Type} {f : α → β → γ} {xs : List α} {ys : List β} : (xs.zipWith f ys).length = min xs.length ys.length := by simp
theorem walkD_zip {a1 a2 : Addr} {xs ys : List D} {vs us : List V} (h : F a1 = some (.lst vs)) (r : Reps T F xs vs) (h2 : F a2 = some (.lst us)) (r2 : Reps T F ys us) : WalkD T F (Itz K a1 a2) (xs.zipWith (fun x y => .tup [x, y]) ys) := by
  have sq : ∀ {H : Hp}, Sub F H → SqL K H a1 vs := fun s => .of (s _ _ h)
  have sq2 : ∀ {H : Hp}, Sub F H → SqL K H a2 us := fun s => .of (s _ _ h2)
  have l1 := r.len
  have l2 := r2.len
  refine ⟨fun i H hi s => ?_, fun H s => ⟨vs, us, sq s, sq2 s, by rw [zip_len]; omega⟩, fun i H F1 x H' hi s1 s2 y => ?_⟩
  · rw [zip_len] at hi
    obtain ⟨v, q1, _⟩ := r.get (i := i) (d := xs[i]'(by omega)) (by rw [List.getElem?_eq_getElem])
    obtain ⟨u, q2, _⟩ := r2.get (i := i) (d := ys[i]'(by omega)) (by rw [List.getElem?_eq_getElem])
    exact ⟨vs, us, v, u, sq s, sq2 s, q1, q2⟩
  · rw [zip_len] at hi
    obtain ⟨p, v, u, rfl, hp, rfl, y1, y2⟩ := y
    obtain ⟨v', q1, q1'⟩ := r.get (i := i) (d := xs[i]'(by omega)) (by rw [List.getElem?_eq_getElem])
    obtain ⟨u', q2, q2'⟩ := r2.get (i := i) (d := ys[i]'(by omega)) (by rw [List.getElem?_eq_getElem])
    have z1 := y1 vs (sq (s1.trans s2))
    have z2 := y2 us (sq2 (s1.trans s2))
    rw [q1] at z1
    rw [q2] at z2
    cases z1
    cases z2
    have g := Grow.new (o := .tup [v, u]) s2 hp
    refine ⟨_, _, zipWith_get (x := xs[i]'(by omega)) (y := ys[i]'(by omega)) (by rw [List.getElem?_eq_getElem]) (by rw [List.getElem?_eq_getElem]), g, ?_⟩
    simp only [Rep]
    exact ⟨p, _, rfl, upd_same, .cons (q1'.mono (s1.trans g.fs)) (.cons (q2'.mono (s1.trans g.fs)) .nil)⟩
theorem walkD_zipT {a1 a2 : Addr} {xs ys : List D} {vs us : List V} (h : F a1 = some (.tup vs)) (r : Reps T F xs vs) (h2 : F a2 = some (.tup us)) (r2 : Reps T F ys us) : WalkD T F (RZ.ItzT K a1 a2) (xs.zipWith (fun x y => .tup [x, y]) ys) := by
  have sq : ∀ {H : Hp}, Sub F H → SqT K H a1 vs := fun s => sub_sqT s h
  have sq2 : ∀ {H : Hp}, Sub F H → SqT K H a2 us := fun s => sub_sqT s h2
  have l1 := r.len
  have l2 := r2.len
  refine ⟨fun i H hi s => ?_, fun H s => ⟨vs, us, sq s, sq2 s, by rw [zip_len]; omega⟩, fun i H F1 x H' hi s1 s2 y => ?_⟩
  · rw [zip_len] at hi
    obtain ⟨v, q1, _⟩ := r.get (i := i) (d := xs[i]'(by omega)) (by rw [List.getElem?_eq_getElem])
    obtain ⟨u, q2, _⟩ := r2.get (i := i) (d := ys[i]'(by omega)) (by rw [List.getElem?_eq_getElem])
    exact ⟨vs, us, v, u, sq s, sq2 s, q1, q2⟩
  · rw [zip_len] at hi
    obtain ⟨p, v, u, rfl, hp, rfl, y1, y2⟩ := y
    obtain ⟨v', q1, q1'⟩ := r.get (i := i) (d := xs[i]'(by omega)) (by rw [List.getElem?_eq_getElem])
    obtain ⟨u', q2, q2'⟩ := r2.get (i := i) (d := ys[i]'(by omega)) (by rw [List.getElem?_eq_getElem])
    have z1 := y1 vs (sq (s1.trans s2))
    have z2 := y2 us (sq2 (s1.trans s2))
    rw [q1] at z1
    rw [q2] at z2
    cases z1
    cases z2
    have g := Grow.new (o := .tup [v, u]) s2 hp
    refine ⟨_, _, zipWith_get (x := xs[i]'(by omega)) (y := ys[i]'(by omega)) (by rw [List.getElem?_eq_getElem]) (by rw [List.getElem?_eq_getElem]), g, ?_⟩
    simp only [Rep]
    exact ⟨p, _, rfl, upd_same, .cons (q1'.mono (s1.trans g.fs)) (.cons (q2'.mono (s1.trans g.fs)) .nil)⟩

theorem walkD_zipS {x y : Str} : WalkD T F (ItzS x y) ((x.cps.toList.map fun c => D.str ⟨#[c]⟩).zipWith (fun x y => .tup [x, y]) (y.cps.toList.map fun c => D.str ⟨#[c]⟩)) := by
  have hl : ((x.cps.toList.map fun c => (D.str ⟨#[c]⟩ : D)).zipWith (fun x y => (D.tup [x, y] : D)) (y.cps.toList.map fun c => D.str ⟨#[c]⟩)).length = min x.cps.size y.cps.size := by simp
  refine ⟨fun i H hi s => ?_, fun H s => ?_, fun i H F1 v H' hi s1 s2 y' => ?_⟩
  · rw [hl] at hi
    exact ⟨by omega, by omega⟩
  · rw [hl]
    exact ⟨Nat.min_le_left _ _, Nat.min_le_right _ _, by omega⟩
  · obtain ⟨p, c, d, rfl, hp, rfl, hc, hd⟩ := y'
    have g := Grow.new (o := .tup [.str ⟨#[c]⟩, .str ⟨#[d]⟩]) s2 hp
    refine ⟨_, _, zipWith_get (x := .str ⟨#[c]⟩) (y := .str ⟨#[d]⟩) ?_ ?_, g, ?_⟩
    · rw [List.getElem?_map, Array.getElem?_toList, hc]
      rfl
    · rw [List.getElem?_map, Array.getElem?_toList, hd]
      rfl
    · simp only [Rep]
      exact ⟨p, _, rfl, upd_same, .cons (by simp only [Rep]) (.cons (by simp only [Rep]) .nil)⟩

/-! ### the rules -/
/-- a list, a tuple, a text: whichever it is -/
def iSeq (K : PySem.W.Frag) (te : TE) : TI := fun σ H R => te σ H fun x H1 => (∃ a, x = .ref a ∧ (∃ xs, SqL K H1 a xs) ∧ R (Itl K a) H1) ∨ (∃ a, x = .ref a ∧ (∃ xs, SqT K H1 a xs) ∧ R (Itt K a) H1) ∨ (∃ z, x = .str z ∧ R (Its z) H1) ∨
  (∃ d o, x = .ref d ∧ ((∃ kvs, H1 d = some (.frz o (.dK kvs)) ∧ R (Itk d o kvs) H1) ∨ ∃ kvs, H1 d = some (.frz o (.dT kvs)) ∧ R (Itkt d o kvs) H1))
theorem pi_seq {l : Expr} {tl : TE} (hl : PE X l tl) : L2.PI X tg l (iSeq X.K tl) := by
  refine ⟨fun pins s σ H R I h => ?_⟩
  refine thn (hl.run pins s σ H _ I h) fun v s1 ⟨x, H1, I1, r1, q1⟩ => ?_
  rcases q1 with ⟨a, e, ⟨xs, hq⟩, q⟩ | ⟨a, e, ⟨xs, hq⟩, q⟩ | ⟨z, e, q⟩ | ⟨d, o, ex, q⟩
  · subst e
    cases r1
    obtain ⟨its, rv, p, hz⟩ := I1.list hq
    refine wpAny_pyIter_list p.isList ?_
    refine ⟨s1.heap.objs.size, [s1.heap.objs.size], _, _, H1, rfl, I1.kept (t' := s1.toks) fun b o e => Heap.get?_push_of_some _ e, turn_list a _, ⟨_, Heap.get?_push_size _ rfl, rfl, rfl⟩, fun b hb => ?_, q⟩
    have e : b = s1.heap.objs.size := by simpa using hb
    subst e
    exact I1.fpOk (Nat.le_refl _) (I1.hok.fresh (Nat.le_refl _))
  · subst e
    cases r1
    obtain ⟨its, rv, p, hz⟩ := I1.tuple hq
    refine wpAny_pyIter_tuple (show s1.heap.IsTuple a its.toArray from p) ?_
    refine ⟨s1.heap.objs.size, [s1.heap.objs.size], _, _, H1, rfl, I1.kept (t' := s1.toks) fun b o e => Heap.get?_push_of_some _ e, turn_tuple a _, ⟨_, Heap.get?_push_size _ rfl, rfl, rfl⟩, fun b hb => ?_, q⟩
    have e : b = s1.heap.objs.size := by simpa using hb
    subst e
    exact I1.fpOk (Nat.le_refl _) (I1.hok.fresh (Nat.le_refl _))
  · subst e
    obtain ⟨t, rfl⟩ := r1
    cases ha : z.cps.all (· < 128)
    · exact wpAny_pyIter_wide ha (pi_one (tk := s1.toks) I1 _ (turn_str _ z t "str_iterator" (.inr rfl)) ⟨_, Heap.get?_push_size _ rfl, rfl, rfl⟩ q)
    · exact wpAny_pyIter_ascii ha (pi_one (tk := s1.toks) I1 _ (turn_str _ z t "str_ascii_iterator" (.inl rfl)) ⟨_, Heap.get?_push_size _ rfl, rfl, rfl⟩ q)
  · subst ex
    cases r1
    rcases q with ⟨kvs, hd, q⟩ | ⟨kvs, hd, q⟩
    · obtain ⟨hs, hgd, hx, es, ep, vs, hdt, hsz, kv, hm⟩ := I1.frzK hd
      refine iter_keys hs hgd hx hdt (pi_one (tk := s1.toks) I1 _ (turn_keys _ hdt) ⟨_, Heap.get?_push_size _ rfl, rfl, ?_⟩ q)
      rw [hsz] <;> rfl
    · obtain ⟨hs, hgd, hx, es, ep, hdt, hsz, ent⟩ := I1.frzT hd
      refine iter_keys hs hgd hx hdt (pi_one (tk := s1.toks) I1 _ (turn_keysT _ hdt) ⟨_, Heap.get?_push_size _ rfl, rfl, ?_⟩ q)
      rw [hsz] <;> rfl
theorem ti_seq (hK : X.K = T.K) (ha : TyE T Φ X a ia) : TyI T Φ X tg a (.seq ia) := by
  intro ρ μ σ H F A r R E tk s er e po
  simp only [evT] at e
  refine wI_of (pi_seq pe_w) (wE_lock ?_)
  refine ha.then tk s er e po fun w μ1 v H1 F1 A1 x s1 er1 r1 e1 p1 => ?_
  have data : ∀ {d : D} {xs : List D} {μ2 : Mu} {F2 : Hp}, SRel T μ2 H1 F2 A1 → Sub F1 F2 → Rep T F2 d v → dSeq d = some xs → r = .ok xs μ2 →
      ((∃ a, v = .ref a ∧ (∃ xs, SqL X.K H1 a xs) ∧ R (Itl X.K a) H1) ∨ (∃ a, v = .ref a ∧ (∃ xs, SqT X.K H1 a xs) ∧ R (Itt X.K a) H1) ∨ (∃ z, v = .str z ∧ R (Its z) H1) ∨
      (∃ d o, v = .ref d ∧ ((∃ kvs, H1 d = some (.frz o (.dK kvs)) ∧ R (Itk d o kvs) H1) ∨ ∃ kvs, H1 d = some (.frz o (.dT kvs)) ∧ R (Itkt d o kvs) H1))) := by
    intro d xs μ2 F2 s2 sb rp hx er'
    subst er'
    have x2 : Ext F1 A1 F2 A1 := ⟨sb, List.prefix_refl _⟩
    cases d with
    | lst ds =>
      simp only [dSeq] at hx
      cases hx
      simp only [Rep] at rp
      obtain ⟨ad, vs, rfl, h1, h2⟩ := rp
      exact .inl ⟨ad, rfl, ⟨vs, .of (s2.sub _ _ h1)⟩, p1 _ H1 F2 A1 x2 s2 (walkD_list h1 h2)⟩
    | tup ds =>
      simp only [dSeq] at hx
      cases hx
      simp only [Rep] at rp
      obtain ⟨ad, vs, rfl, h1, h2⟩ := rp
      exact .inr (.inl ⟨ad, rfl, ⟨vs, hK ▸ sub_sqT s2.sub h1⟩, p1 _ H1 F2 A1 x2 s2 (walkD_tup h1 h2)⟩)
    | str z =>
      simp only [dSeq] at hx
      split at hx
      · cases hx
        simp only [Rep] at rp
        subst rp
        exact .inr (.inr (.inl ⟨z, rfl, p1 _ H1 F2 A1 x2 s2 walkD_str⟩))
      · cases hx
    | dic t ks ds =>
      simp only [dSeq] at hx
      cases hx
      simp only [Rep] at rp
      obtain ⟨ad, vs, rfl, h1, h2⟩ := rp
      refine .inr (.inr (.inr ?_))
      cases t with
      | true =>
        obtain ⟨kl, k1, k2, _, o, k4⟩ := h2
        exact ⟨ad, o, rfl, .inr ⟨_, s2.sub _ _ k4, p1 _ H1 F2 A1 x2 s2 (walkD_keysT k4 k1 k2)⟩⟩
      | false =>
        obtain ⟨kl, k1, k2, _, o, k4⟩ := h2
        exact ⟨ad, o, rfl, .inl ⟨_, s2.sub _ _ k4, p1 _ H1 F2 A1 x2 s2 (walkD_keys k4 k1 k2)⟩⟩
    | _ => simp only [dSeq] at hx; cases hx
  split at e1
  · cases e1
  · rename_i xs μ2 hd
    cases e1
    unfold seqW at hd
    cases w with
    | d y =>
      obtain ⟨ys, hy, hz⟩ := Option.map_eq_some_iff.mp hd
      cases hz
      exact .inl (data s1 (Same.refl _) r1 hy rfl)
    | r k =>
      obtain ⟨ad, hA, rfl⟩ := r1
      simp only at hd
      split at hd
      · rename_i ys hk
        cases hd
        obtain ⟨F2, s2, sb, rp⟩ := s1.toD (w := .r k) (v := .ref ad) (d := .lst xs) (μ' := μ1.set k (.fz (.lst xs))) ⟨ad, hA, rfl⟩ (by simp only [toD, hk])
        exact .inl (data s2 sb rp rfl rfl)
      · rename_i t ks ds hk
        cases hd
        obtain ⟨hF, vs, rv, dh⟩ := s1.obj k ad _ hA hk
        obtain ⟨u, mu, _, hu, mk⟩ := dh.get
        refine .inr ⟨ad, u, hu, mu, fun od => ?_⟩
        have sb : Sub F1 (upd F1 ad (.frz od u)) := fun b u q => by
          rw [upd_ne (ne_of_none q hF)]
          exact q
        have rp : Rep T (upd F1 ad (.frz od u)) (.dic t xs ds) (.ref ad) := by
          simp only [Rep]
          exact ⟨ad, vs, rfl, rv.mono sb, mk _ ⟨od, upd_same⟩⟩
        obtain ⟨s2, _⟩ := s1.lock (u := .frz od u) hA hk (fun x z => nomatch z) rp
        have x2 : Ext F1 A1 (upd F1 ad (.frz od u)) A1 := ⟨sb, List.prefix_refl _⟩
        refine .inr (.inr (.inr ⟨ad, od, rfl, ?_⟩))
        cases t with
        | true =>
          obtain ⟨kl, k1, k2, _, k4⟩ := dh
          have eu : u = .dT (kl.zip vs) := by rw [hu] at k4; exact Option.some.inj k4
          subst eu
          exact .inr ⟨_, upd_same, p1 _ _ _ A1 x2 s2 (walkD_keysT upd_same k1 k2)⟩
        | false =>
          obtain ⟨kl, k1, k2, _, k4⟩ := dh
          have eu : u = .dK (kl.zip vs) := by rw [hu] at k4; exact Option.some.inj k4
          subst eu
          exact .inl ⟨_, upd_same, p1 _ _ _ A1 x2 s2 (walkD_keys upd_same k1 k2)⟩
      · rename_i y hk
        obtain ⟨ys, hy, hz⟩ := Option.map_eq_some_iff.mp hd
        cases hz
        exact .inl (data s1 (Same.refl _) (s1.obj k ad _ hA hk) hy rfl)
      · cases hd
      · cases hd
theorem tl1 (ha : TyE T Φ X a ia) (hs : starEach [a] X.env = (false, eval a X.env) :: starEach [] X.env) : TyL T Φ X [a] [ia] := ty_cons ha ty_nil hs
theorem ti_rng1 {p : Pos} (hg : Gl X "range") (hm : X.mg "range" = none) (ha : TyE T Φ X a ia) (he : starEach [a] X.env = (false, eval a X.env) :: starEach [] X.env) : TyI T Φ X tg (.Call (.Name "range" p) [a] [] pos) (.rng1 ia) := by
  intro ρ μ σ H F A r R E tk s er e po
  simp only [evT] at e
  refine wI_of (pi_range1 hg hm (pa_cons pe_w pa_nil he) he) (ha.then tk s er e po fun w μ1 v H1 F1 A1 x s1 er1 r1 e1 p1 => ?_)
  split at e1
  · split at e1
    · rename_i j hz
      cases e1
      simp only [RepW, Rep] at r1
      subst r1
      exact ⟨j, rfl, hz.1, hz.2, p1 _ H1 F1 A1 (.refl _ _) s1 walkD_range⟩
    · cases e1
  · cases e1
theorem ti_rng2 {p : Pos} (hg : Gl X "range") (hm : X.mg "range" = none) (ha : TyE T Φ X a ia) (hb : TyE T Φ X b ib) (he : starEach (a :: [b]) X.env = (false, eval a X.env) :: starEach [b] X.env) (he2 : starEach (b :: []) X.env = (false, eval b X.env) :: starEach [] X.env) : TyI T Φ X tg (.Call (.Name "range" p) [a, b] [] pos) (.rng2 ia ib) := by
  intro ρ μ σ H F A r R E tk s er e po
  simp only [evT] at e
  refine wI_of (pi_range2 hg hm (pa_cons pe_w (pa_cons pe_w pa_nil he2) he) (by rw [he, he2]; rfl) he2) (ha.then tk s er e po fun w μ1 v H1 F1 A1 x s1 er1 r1 e1 p1 => ?_)
  refine hb.then tk s1 er1 e1 p1 fun u μ2 v2 H2 F2 A2 x2 s2 er2 r2 e2 p2 => ?_
  split at e2
  · split at e2
    · rename_i i j hz
      cases e2
      simp only [RepW, Rep] at r1 r2
      subst r1 r2
      exact ⟨i, j, rfl, ⟨hz.1.1, hz.1.2, hz.2.1, hz.2.2⟩, p2 _ H2 F2 A2 (.refl _ _) s2 walkD_range⟩
    · cases e2
  · cases e2
theorem ti_enu {p tpos : Pos} {elts : List Expr} {kk : Nat} (hg : Gl X "enumerate") (hm : X.mg "enumerate" = none) (ha : TyE T Φ X a ia) (he : starEach [a] X.env = (false, eval a X.env) :: starEach [] X.env) : TyI T Φ X (.Tuple elts kk tpos) (.Call (.Name "enumerate" p) [a] [] pos) (.enu ia) := by
  intro ρ μ σ H F A r R E tk s er e po
  simp only [evT] at e
  refine wI_of (pi_enumB hg hm (pa_cons pe_w pa_nil he) he) (ha.then tk s er e po fun w μ1 v H1 F1 A1 x s1 er1 r1 e1 p1 => ?_)
  split at e1
  · cases e1
  · rename_i d μ2 hd
    obtain ⟨F2, s2, sb, rp⟩ := s1.toD r1 hd
    have x2 : Ext F1 A1 F2 A1 := ⟨sb, List.prefix_refl _⟩
    split at e1
    · rename_i xs
      cases e1
      simp only [Rep] at rp
      obtain ⟨ad, vs, rfl, h1, h2⟩ := rp
      exact ⟨ad, vs, rfl, .inl ⟨.of (s2.sub _ _ h1), p1 _ H1 F2 A1 x2 s2 (walkD_enum h1 h2)⟩⟩
    · rename_i xs
      cases e1
      simp only [Rep] at rp
      obtain ⟨ad, vs, rfl, h1, h2⟩ := rp
      exact ⟨ad, vs, rfl, .inr ⟨sub_sqT s2.sub h1, p1 _ H1 F2 A1 x2 s2 (walkD_enumT h1 h2)⟩⟩
    · cases e1
theorem ti_zip {p tpos : Pos} {elts : List Expr} {kk : Nat} (hK : X.K = T.K) (hg : Gl X "zip") (hm : X.mg "zip" = none) (ha : TyE T Φ X a ia) (hb : TyE T Φ X b ib) (he : starEach (a :: [b]) X.env = (false, eval a X.env) :: starEach [b] X.env) (he2 : starEach (b :: []) X.env = (false, eval b X.env) :: starEach [] X.env)
    (hpl : (backTo pos (starEach [b] X.env)).any (·.1) = false) : TyI T Φ X (.Tuple elts kk tpos) (.Call (.Name "zip" p) [a, b] [] pos) (.zip ia ib) := by
  intro ρ μ σ H F A r R E tk s er e po
  simp only [evT] at e
  refine wI_of (pi_zipB hg hm (pa_cons pe_w (pa_cons pe_w pa_nil he2) he) he hpl) (ha.then tk s er e po fun w μ1 v H1 F1 A1 x s1 er1 r1 e1 p1 => ?_)
  refine hb.then tk s1 er1 e1 p1 fun u μ2 v2 H2 F2 A2 x2 s2 er2 r2 e2 p2 => ?_
  split at e2
  · cases e2
  · rename_i d μ3 hd
    obtain ⟨F3, s3, sb3, rp3⟩ := s2.toD (r1.mono x2) hd
    have x3 : Ext F2 A2 F3 A2 := ⟨sb3, List.prefix_refl _⟩
    split at e2
    · cases e2
    · rename_i d' μ4 hd'
      obtain ⟨F4, s4, sb4, rp4⟩ := s3.toD (r2.mono x3) hd'
      have x4 : Ext F2 A2 F4 A2 := x3.trans ⟨sb4, List.prefix_refl _⟩
      have rp3' := Rep.mono sb4 _ _ rp3
      split at e2
      · cases e2
        simp only [Rep] at rp3' rp4
        obtain ⟨a1, vs, rfl, h1, h2⟩ := rp3'
        obtain ⟨a2, us, rfl, h3, h4⟩ := rp4
        exact .inl ⟨a1, a2, vs, us, rfl, .inl ⟨.of (s4.sub _ _ h1), .of (s4.sub _ _ h3), p2 _ H2 F4 A2 x4 s4 (walkD_zip h1 h2 h3 h4)⟩⟩
      · cases e2
        simp only [Rep] at rp3' rp4
        obtain ⟨a1, vs, rfl, h1, h2⟩ := rp3'
        obtain ⟨a2, us, rfl, h3, h4⟩ := rp4
        exact .inl ⟨a1, a2, vs, us, rfl, .inr ⟨hK ▸ sub_sqT s4.sub h1, hK ▸ sub_sqT s4.sub h3, p2 _ H2 F4 A2 x4 s4 (walkD_zipT h1 h2 h3 h4)⟩⟩
      · rename_i x y
        split at e2
        · rename_i hz
          obtain ⟨z1, z2⟩ := Bool.and_eq_true_iff.mp hz
          cases e2
          simp only [Rep] at rp3' rp4
          subst rp3' rp4
          exact .inr ⟨_, _, rfl, z1, z2, p2 _ H2 F4 A2 x4 s4 walkD_zipS⟩
        · cases e2
      · cases e2
end
end PI
/-! PI33: reversed(range(n)) is walked. -/
namespace PI
open PySem PySem.Spec PyProof.Rows L2
section
variable {T : Tb} {Φ : Phi} {X : Cx} {pos : Pos} {a b c tg : Expr} {ia ib ic : IE} {F H : Hp}
theorem walkD_rangeC {lo c : Int} {n : Nat} : WalkD T F (Itc lo c n) ((List.range n).map fun i => .int (lo + (i : Nat) * c)) := by
  refine ⟨fun i H hi s => (by simpa using hi : i < n), fun H s => by simp [Itc], fun i H F1 x H' hi s1 s2 y => ?_⟩
  obtain ⟨e, y⟩ := y
  subst e y
  have hi' : i < n := by simpa using hi
  exact ⟨.int (lo + (i : Nat) * c), F1, by simp [hi'], .refl s2, by simp only [Rep]⟩
theorem ti_rvr1 {p p2 pos2 : Pos} (hg : Gl X "reversed") (hm : X.mg "reversed" = none) (hg2 : Gl X "range") (hm2 : X.mg "range" = none) (ha : TyE T Φ X a ia) (he : starEach [a] X.env = (false, eval a X.env) :: starEach [] X.env) : TyI T Φ X tg (.Call (.Name "reversed" p) [.Call (.Name "range" p2) [a] [] pos2] [] pos) (.rvr1 ia) := by
  intro ρ μ σ H F A r R E tk s er e po
  simp only [evT] at e
  refine wI_of (pi_revR hg hm (prg_1 hg2 hm2 pe_w he)) (ha.then tk s er e po fun w μ1 v H1 F1 A1 x s1 er1 r1 e1 p1 => ?_)
  split at e1
  · split at e1
    · rename_i j hz
      cases e1
      simp only [RepW, Rep] at r1
      subst r1
      refine ⟨j, rfl, by decide, by decide, hz.1, hz.2, ?_⟩
      have hw : WalkD T F1 (Itc (0 + (((j - 0).toNat : Nat) : Int) - 1) (-1) (j - 0).toNat) ((List.range j.toNat).map fun i => .int ((j.toNat : Int) - 1 - (i : Nat))) := by
        have h := walkD_rangeC (T := T) (F := F1) (lo := 0 + (((j - 0).toNat : Nat) : Int) - 1) (c := -1) (n := (j - 0).toNat)
        rw [Int.sub_zero] at h ⊢
        have e : (fun i : Nat => D.int (0 + ((j.toNat : Nat) : Int) - 1 + (i : Nat) * (-1))) = fun i : Nat => D.int ((j.toNat : Int) - 1 - (i : Nat)) := by
          funext i
          congr 1
          omega
        rw [e] at h
        exact h
      exact p1 _ H1 F1 A1 (.refl _ _) s1 hw
    · cases e1
  · cases e1
end
end PI
/-! PI7: targets, comprehensions. -/
namespace PI
open PySem PySem.Spec PyProof.Rows L2

/-! ### targets -/
theorem putL_len : ∀ {is : List Nat} {xs : List D} {ρ ρ' : Env}, putL is xs ρ = some ρ' → xs.length = is.length
  | [], [], ρ, ρ', e => rfl
  | [], x :: xs, ρ, ρ', e => by simp only [putL] at e; cases e
  | i :: is, [], ρ, ρ', e => by simp only [putL] at e; cases e
  | i :: is, x :: xs, ρ, ρ', e => by
    simp only [putL] at e
    simp [putL_len e]
def gS : List Nat → TGs
  | [] => gNil
  | i :: r => gCons (gName i) (gS r)
def gT (K : PySem.W.Frag) : Tg → TG
  | .one i => gName i
  | .tup is => fun v σ H Q => gTup K is.length (gS is) v σ H Q ∨ gLst K is.length (gS is) v σ H Q
theorem pg_or {X : Cx} {e : Expr} {t1 t2 : TG} (h1 : PG X e t1) (h2 : PG X e t2) : PG X e (fun v σ H Q => t1 v σ H Q ∨ t2 v σ H Q) :=
  ⟨fun pins s σ H v u Q I r h => h.elim (h1.run pins s σ H v u Q I r) (h2.run pins s σ H v u Q I r)⟩
section
variable {T : Tb} {F F' H H' : Hp} {A A' : List Addr} {ρ ρ' : Env} {σ : L2.St}
theorem gS_ok : ∀ {is : List Nat} {xs : List D} {vs : List V} {ρ ρ' : Env} {σ : L2.St} {Q : L2.St → Hp → Prop}, putL is xs ρ = some ρ' → Reps T F xs vs → ERel T ρ σ F A →
    (∀ σ', ERel T ρ' σ' F A → (∀ ws, (∀ i ∈ is, i ∈ ws) → L2.wipe σ' ws = L2.wipe σ ws) → Q σ' H) → (∀ (i : Nat) (x : Option V) (s : L2.St) ws, i ∈ ws → L2.wipe (s.set i x) ws = L2.wipe s ws) → gS is vs σ H Q
  | [], [], vs, ρ, ρ', σ, Q, e, r, er, h, hw => by
    simp only [putL] at e
    cases e
    simp only [Reps] at r
    exact ⟨r, h σ er fun _ _ => rfl⟩
  | [], x :: xs, vs, ρ, ρ', σ, Q, e, r, er, h, hw => by simp only [putL] at e; cases e
  | i :: is, [], vs, ρ, ρ', σ, Q, e, r, er, h, hw => by simp only [putL] at e; cases e
  | i :: is, x :: xs, vs, ρ, ρ', σ, Q, e, r, er, h, hw => by
    simp only [putL] at e
    simp only [Reps] at r
    obtain ⟨v, r', rfl, h1, h2⟩ := r
    refine ⟨v, r', rfl, ?_⟩
    refine gS_ok e h2 (er.set (w := .d x) h1) (fun σ' er' hws => h σ' er' fun ws hm => ?_) hw
    rw [hws ws fun j hj => hm j (List.mem_cons_of_mem _ hj)]
    exact hw i _ σ ws (hm i List.mem_cons_self)
theorem wipe_set : ∀ {ws : List Nat} {i : Nat} {x : Option V} {s : L2.St}, i ∈ ws → L2.wipe (s.set i x) ws = L2.wipe s ws
  | v :: ws, i, x, s, h => by
    simp only [L2.wipe]
    by_cases hi : i ∈ ws
    · rw [wipe_set hi]
    · have e : i = v := by
        rcases List.mem_cons.mp h with z | z
        · exact z
        · exact absurd z hi
      subst e
      have key : ∀ (ws : List Nat) (s : L2.St), i ∉ ws → L2.wipe (s.set i x) ws = (L2.wipe s ws).set i x := by
        intro ws
        induction ws with
        | nil => intro s _; rfl
        | cons u us ih =>
          intro s hn
          simp only [L2.wipe]
          rw [ih s (fun z => hn (List.mem_cons_of_mem _ z)), List.set_comm _ _ (fun z => hn (by rw [z]; exact List.mem_cons_self))]
      rw [key ws s hi, List.set_set]
theorem wipe_wipe : ∀ (ws : List Nat) (s : L2.St), L2.wipe (L2.wipe s ws) ws = L2.wipe s ws := by
  intro ws s
  have key : ∀ (us : List Nat) (s : L2.St), (∀ u ∈ us, u ∈ ws) → L2.wipe (L2.wipe s us) ws = L2.wipe s ws := by
    intro us
    induction us with
    | nil => intro s _; rfl
    | cons u us ih =>
      intro s hm
      simp only [L2.wipe]
      rw [wipe_set (hm u List.mem_cons_self)]
      exact ih s fun v hv => hm v (List.mem_cons_of_mem _ hv)
  exact key ws s fun _ h => h
theorem gT_ok {t : Tg} {d : D} {v : V} {Q : L2.St → Hp → Prop} (e : t.put d ρ = some ρ') (r : Rep T F d v) (sb : Sub F H) (er : ERel T ρ σ F A) {K : PySem.W.Frag} (hK : K = T.K)
    (h : ∀ σ', ERel T ρ' σ' F A → (∀ ws, (∀ i ∈ (match t with | .one i => [i] | .tup is => is), i ∈ ws) → L2.wipe σ' ws = L2.wipe σ ws) → Q σ' H) : gT K t v σ H Q := by
  cases t with
  | one i =>
    simp only [Tg.put] at e
    cases e
    exact h _ (er.set (w := .d d) r) fun ws hm => wipe_set (hm i (by simp))
  | tup is =>
    simp only [Tg.put] at e
    have key : ∀ {xs : List D} {vs : List V}, putL is xs ρ = some ρ' → Reps T F xs vs → vs.length = is.length ∧ gS is vs σ H Q := fun {xs vs} e h2 => by
      exact ⟨by rw [← h2.len]; exact putL_len e, gS_ok e h2 er h fun _ _ _ _ hm => wipe_set hm⟩
    split at e
    · rename_i xs
      simp only [Rep] at r
      obtain ⟨a, vs, rfl, h1, h2⟩ := r
      obtain ⟨k1, k2⟩ := key e h2
      exact .inl ⟨a, vs, rfl, hK ▸ sub_sqT sb h1, k1, k2⟩
    · rename_i xs
      simp only [Rep] at r
      obtain ⟨a, vs, rfl, h1, h2⟩ := r
      obtain ⟨k1, k2⟩ := key e h2
      exact .inr ⟨a, vs, rfl, .of (sb _ _ h1), k1, k2⟩
    · cases e
theorem ERel.forget2 {i : Nat} {x : Option V} (h : ERel T ρ σ F A) : ERel T (ρ.set i none) (σ.set i x) F A := by
  refine ⟨by simp [h.1], fun j u q => ?_⟩
  by_cases hj : i = j
  · subst hj
    by_cases hi : i < ρ.length
    · rw [List.getElem?_set_self hi] at q; cases q
    · rw [List.getElem?_eq_none (by simpa using hi)] at q; cases q
  · rw [List.getElem?_set_ne hj] at q
    rw [List.getElem?_set_ne hj]
    exact h.2 j u q
theorem ERel.wipe (er : ERel T ρ σ F A) : ∀ ws : List Nat, ERel T (wipeE ρ ws) (L2.wipe σ ws) F A
  | [] => er
  | v :: ws => by
    simp only [wipeE, L2.wipe]
    exact (ERel.wipe er ws).forget2
end

/-! ### the tests of a comprehension -/
def wC (X : Cx) (cs : List Expr) : TT := fun σ H Q => ∀ (pins : List (Addr × Obj)) (s : Shared), Inv X pins σ H s → wpAny (model X.prog X.w) X.A (forIn cs true fun c r => if r = true then do let ok ← isTrue c X.env (eval c X.env); pure (ForInStep.yield ok) else pure (ForInStep.yield r)) (TP X pins σ Q) X.xe s
theorem pc_w {X : Cx} {cs : List Expr} : PTs X cs (wC X cs) := ⟨fun pins s σ H Q I h => h pins s I⟩
def TyC (T : Tb) (Φ : Phi) (X : Cx) (cs : List Expr) (is : List IE) : Prop := ∀ (ρ : Env) (μ : Mu) (σ : L2.St) (H F : Hp) (A : List Addr) (r : X1 Bool) (Q : Bool → Hp → Prop) (E : WX),
  Takes X E → SRel T μ H F A → ERel T ρ σ F A → evC Φ is ρ μ = some r → PostB T F A Q (fun c d h => E c d σ h) r → wC X cs σ H Q
section
variable {T : Tb} {Φ : Phi} {X : Cx} {c : Expr} {ic : IE}
theorem tc_nil : TyC T Φ X [] [] := by
  intro ρ μ σ H F A r Q E tk s er e p pins st I
  simp only [evC] at e
  cases e
  exact (pts_nil (X := X)).run pins st σ H Q I (p true H F A (.refl _ _) s rfl)
theorem tc_one (hc : TyB T Φ X c ic) : TyC T Φ X [c] [ic] := by
  intro ρ μ σ H F A r Q E tk s er e p pins st I
  refine (pts_one (pt_w (X := X) (e := c))).run pins st σ H Q I ?_
  have e' : evB Φ ic ρ μ = some r := by
    rw [← e]
    unfold evB
    simp only [evC]
    cases evE Φ ic ρ μ with
    | none => rfl
    | some x1 =>
      cases x1 with
      | er d m => rfl
      | ok w m =>
        simp only [R.bind]
        cases hk : (view m w).bind truth with
        | none => rfl
        | some k => cases k <;> rfl
  exact hc ρ μ σ H F A r Q E tk s er e' p
end

/-- in a block nothing is raised -/
theorem takes0 {X : Cx} : Takes X fun _ _ _ _ => False := fun u s' ⟨a, B, sI, pins, σ, H, cls, d, e, I, nb, up, sky, na, os, ag, w⟩ => w.elim

section
variable {T : Tb} {Φ : Phi} {X : Cx} {pos : Pos} {elt iter tg : Expr} {cs : List Expr} {ie : IE} {it : IT} {ics : List IE}
/-- [e for t in it if ..]: its end is told by pE, pO -/
theorem lc_core {scope : Scope} {own : List (Str × Nat)} {t : Tg} (hK : X.K = T.K) (hc : X.calm = true) (hN : X.N.Nodup) (hi : TyI T Φ X tg iter it) (ok : BlkOk X.N X.env.scope scope own)
    (hv : ∀ i ∈ (match t with | .one i => [i] | .tup is => is), i ∈ own.map (·.2))
    (hg : ∀ (s : Shared) (H : Hp) (C : Addr) (cl : List (Str × Addr)) (fp : List Addr), PG (X.blk s H scope (compEnvC scope cl C X.env) fp) tg (gT X.K t))
    (ht : ∀ (s : Shared) (H : Hp) (C : Addr) (cl : List (Str × Addr)) (fp : List Addr), TyC T Φ (X.blk s H scope (compEnvC scope cl C X.env) fp) cs ics)
    (he : ∀ (s : Shared) (H : Hp) (C : Addr) (cl : List (Str × Addr)) (fp : List Addr), TyE T Φ (X.blk s H scope (compEnvC scope cl C X.env) fp) elt ie)
    (ρ : Env) (μ : Mu) (σ : L2.St) (H F : Hp) (A : List Addr) (r : X1 W) (Q : VK) (E : WX) (tk : Takes X E) (s : SRel T μ H F A) (er : ERel T ρ σ F A) (e : evE Φ (.lc (own.map (·.2)) t it ics ie) ρ μ = some r)
    (pE : ∀ d m, r = .er d m → ∀ cls dd H' F' A', Ext F A F' A' → SRel T m H' F' A' → XRep T F' d cls dd → E cls dd σ H')
    (pO : ∀ ys m, r = .ok (.d (.lst ys)) m → ∀ q H' F' A', Ext F A F' A' → SRel T m H' F' A' → q ∉ A' → ObjRel T F' H' q (.lst ys) → Q (.ref q) H') :
    tLc (wI X tg iter) (gT X.K t) (fun σ H Q => ∀ s H0 C cl fp, wC (X.blk s H0 scope (compEnvC scope cl C X.env) fp) cs σ H Q) (fun σ H Q => ∀ s H0 C cl fp, wE (X.blk s H0 scope (compEnvC scope cl C X.env) fp) elt σ H Q) (own.map (·.2)) σ H Q := by
  simp only [evE] at e
  rcases bind_some e with ⟨d, m, e1, rfl⟩ | ⟨xs, μ1, e1, e2⟩
  · exact hi ρ μ σ H F A _ _ E tk s er e1 (pE d m rfl)
  refine hi ρ μ σ H F A _ _ E tk s er e1 fun J H1 F1 A1 x1 s1 wk D hD => ?_
  split at e2
  · cases e2
  rename_i μ2 hcol
  split at e2
  · rename_i ys hys
    cases e2
    have hk : A1.length = μ1.length := s1.len
    have s1' : SRel T (μ1 ++ [.lst []]) (upd H1 D (.lst [])) F1 (A1 ++ [D]) := s1.alloc (ob := .lst []) hD ⟨s1.sub.free hD, [], upd_same, .nil⟩
    refine ⟨fun i m H' => m = xs.length - i ∧ i ≤ xs.length ∧ ∃ F' μi, Sub F1 F' ∧ SRel T μi H' F' (A1 ++ [D]) ∧ collect _ μ1.length (xs.drop i) μi = some μ2, ⟨_, rfl, Nat.zero_le _, F1, _, Same.refl F1, s1', by rw [List.drop_zero]; exact hcol⟩, ?_⟩
    rintro i m H' ⟨rfl, hle, F', μi, sb, si, hcl⟩
    by_cases hlt : i < xs.length
    · refine .inr ⟨wk.goes i H' hlt (sb.trans si.sub), _, fun H'' z => ⟨xs.length - (i + 1), by omega, rfl, by omega, z⟩, fun x H2 hy => ?_⟩
      obtain ⟨d, F2, hd, g2, rd⟩ := wk.yields i H' F' x H2 hlt sb si.sub hy
      have s2 := g2.srel si
      have hdrop : xs.drop i = d :: xs.drop (i + 1) := by
        have hg : xs[i] = d := by
          rw [List.getElem?_eq_getElem hlt] at hd
          exact Option.some.inj hd
        rw [← hg]
        exact List.drop_eq_getElem_cons hlt
      rw [hdrop] at hcl
      unfold collect at hcl
      -- the turn
      have x12 : Ext F A F2 (A1 ++ [D]) := ⟨(x1.sub.trans sb).trans g2.fs, x1.pre.trans (List.prefix_append _ _)⟩
      have er2 : ERel T (wipeE ρ (own.map (·.2))) (L2.wipe σ (own.map (·.2))) F2 (A1 ++ [D]) := (er.mono x12).wipe _
      cases hput : t.put d (wipeE ρ (own.map (·.2))) with
      | none => rw [hput] at hcl; cases hcl
      | some ρ1 =>
        rw [hput] at hcl
        refine gT_ok hput rd s2.sub er2 hK fun σ2 er3 hw => ⟨(hw _ hv).trans (wipe_wipe _ _), ?_⟩
        -- the tests
        dsimp only at hcl
        cases hC : evC Φ ics ρ1 μi with
        | none => rw [hC] at hcl; cases hcl
        | some rc =>
          rw [hC] at hcl
          cases rc with
          | er dd mm => cases hcl
          | ok bb m1 =>
            intro sS H0 C cl fp
            refine ht sS H0 C cl fp ρ1 μi σ2 H2 F2 (A1 ++ [D]) _ _ _ takes0 s2 er3 hC fun v H3 F3 A3 x3 s3 ev => ?_
            subst ev
            simp only [R.bind] at hcl
            -- what stands behind a turn
            have cutA : ∀ {A' : List Addr}, (A1 ++ [D]) <+: A' → A'.take (μ1.length + 1) = A1 ++ [D] := fun {A'} h => by
              obtain ⟨B, rfl⟩ := h
              rw [List.take_append_of_le_length (by simp [hk])]
              rw [List.take_of_length_le (by simp [hk])]
            cases bb with
            | true =>
              simp only [if_true] at hcl ⊢
              cases hE : evE Φ ie ρ1 m1 with
              | none => rw [hE] at hcl; cases hcl
              | some re =>
                rw [hE] at hcl
                cases re with
                | er dd mm => cases hcl
                | ok w m2 =>
                  dsimp only at hcl
                  cases hT : toD w m2 with
                  | none => rw [hT] at hcl; cases hcl
                  | some pr =>
                    obtain ⟨y, m3⟩ := pr
                    rw [hT] at hcl
                    dsimp only at hcl
                    intro sS H0 C cl fp
                    refine he sS H0 C cl fp ρ1 m1 σ2 H3 F3 A3 _ _ _ takes0 s3 (er3.mono x3) hE fun v4 H4 F4 A4 x4 s4 rw4 => ?_
                    obtain ⟨F5, s5, sb5, rp5⟩ := s4.toD rw4 hT
                    split at hcl
                    · rename_i acc hacc
                      split at hcl
                      · rename_i hz
                        -- the list at D
                        have pre4 : (A1 ++ [D]) <+: A4 := x3.pre.trans x4.pre
                        have hDk : A4[μ1.length]? = some D := by
                          obtain ⟨B, rfl⟩ := pre4
                          rw [List.getElem?_append_left (by simp [hk])]
                          rw [← hk]
                          simp
                        obtain ⟨hF5, vs, hHD, rvs⟩ := s5.obj μ1.length D _ hDk hacc
                        refine ⟨vs, hHD, by rw [← rvs.len]; exact Nat.lt_of_lt_of_le hz (by decide), ?_⟩
                        refine ⟨F5, _, (sb.trans (g2.fs.trans (x3.sub.trans (x4.sub.trans sb5)))), ?_, hcl⟩
                        have s6 := s5.cut (μ1.length + 1)
                        rw [cutA pre4] at s6
                        refine s6.write (k := μ1.length) (a := D) (o := .lst (vs ++ [v4])) (ob := .lst acc) (ob' := .lst (acc ++ [y])) ?_ ?_ (fun x z => nomatch z) ⟨hF5, _, upd_same, rvs.app (.cons rp5 .nil)⟩
                        · rw [← hk]; simp
                        · rw [List.getElem?_take, if_pos (Nat.lt_succ_self _)]; exact hacc
                      · cases hcl
                    · cases hcl
            | false =>
              simp only [Bool.false_eq_true, if_false] at hcl ⊢
              refine ⟨F3, _, sb.trans (g2.fs.trans x3.sub), ?_, hcl⟩
              have s6 := s3.cut (μ1.length + 1)
              rw [cutA x3.pre] at s6
              exact s6
    · have hi' : i = xs.length := by omega
      subst hi'
      refine .inl ⟨wk.stops H' (sb.trans si.sub), ?_⟩
      rw [List.drop_length] at hcl
      simp only [collect] at hcl
      cases hcl
      have hDk : (A1 ++ [D])[μ1.length]? = some D := by rw [← hk]; simp
      have hO := si.obj μ1.length D _ hDk hys
      have s7 := si.cut μ1.length
      have ec : (A1 ++ [D]).take μ1.length = A1 := by rw [← hk]; simp
      rw [ec] at s7
      exact pO ys _ rfl D H' F' A1 ⟨x1.sub.trans sb, x1.pre⟩ s7 (fun z => s1.thr D z hD) hO
  · cases e2
/-- an object that is nobody's changes no more -/
theorem SRel.give {μ : Mu} {H F : Hp} {A : List Addr} {q : Addr} {ys : List PI.D} (s : SRel T μ H F A) (hq : q ∉ A) (hO : ObjRel T F H q (.lst ys)) : ∃ F', SRel T μ H F' A ∧ Sub F F' ∧ Rep T F' (.lst ys) (.ref q) := by
  obtain ⟨hF, vs, hH, rv⟩ := hO
  have sb : Sub F (upd F q (.lst vs)) := fun b u z => by
    rw [upd_ne (ne_of_none z hF)]
    exact z
  refine ⟨upd F q (.lst vs), ⟨fun b u z => ?_, s.len, s.nod, s.thr, fun k a o h1 h2 => ?_⟩, sb, ?_⟩
  · by_cases hb : b = q
    · subst hb
      rw [upd_same] at z
      cases z
      exact hH
    · rw [upd_ne hb] at z
      exact s.sub _ _ z
  · have ne : a ≠ q := fun e => hq (by rw [← e]; exact List.mem_of_getElem? h1)
    refine (s.obj k a o h1 h2).mono sb fun ho => ⟨?_, rfl⟩
    rw [upd_ne ne]
    exact (s.obj k a o h1 h2).nF ho
  · simp only [Rep]
    exact ⟨q, vs, rfl, upd_same, rv.mono sb⟩
theorem ty_lc {scope : Scope} {own : List (Str × Nat)} {t : Tg} (hK : X.K = T.K) (hc : X.calm = true) (hN : X.N.Nodup) (hi : TyI T Φ X tg iter it) (ok : BlkOk X.N X.env.scope scope own)
    (hv : ∀ i ∈ (match t with | .one i => [i] | .tup is => is), i ∈ own.map (·.2))
    (hg : ∀ (s : Shared) (H : Hp) (C : Addr) (cl : List (Str × Addr)) (fp : List Addr), PG (X.blk s H scope (compEnvC scope cl C X.env) fp) tg (gT X.K t))
    (ht : ∀ (s : Shared) (H : Hp) (C : Addr) (cl : List (Str × Addr)) (fp : List Addr), TyC T Φ (X.blk s H scope (compEnvC scope cl C X.env) fp) cs ics)
    (he : ∀ (s : Shared) (H : Hp) (C : Addr) (cl : List (Str × Addr)) (fp : List Addr), TyE T Φ (X.blk s H scope (compEnvC scope cl C X.env) fp) elt ie)
    (ρ : Env) (μ : Mu) (σ : L2.St) (H F : Hp) (A : List Addr) (r : X1 W) (Q : VK) (E : WX) (tk : Takes X E) (s : SRel T μ H F A) (er : ERel T ρ σ F A) (e : evE Φ (.lc (own.map (·.2)) t it ics ie) ρ μ = some r) (p : PostW T F A Q (fun c d h => E c d σ h) r) :
    tLc (wI X tg iter) (gT X.K t) (fun σ H Q => ∀ s H0 C cl fp, wC (X.blk s H0 scope (compEnvC scope cl C X.env) fp) cs σ H Q) (fun σ H Q => ∀ s H0 C cl fp, wE (X.blk s H0 scope (compEnvC scope cl C X.env) fp) elt σ H Q) (own.map (·.2)) σ H Q := by
  refine lc_core hK hc hN hi ok hv hg ht he ρ μ σ H F A r Q E tk s er e (fun d m er => ?_) (fun ys m er q H' F' A' x s' hq hO => ?_)
  · subst er; exact p
  · subst er
    obtain ⟨F2, s2, sb, rp⟩ := s'.give hq hO
    exact p (.ref q) H' F2 A' (x.trans ⟨sb, List.prefix_refl _⟩) s2 rp
end
end PI
/-! PI8: new lists that may change; statements. -/
namespace PI
open PySem PySem.Spec PyProof.Rows L2

section
variable {T : Tb} {Φ : Phi} {X : Cx} {pos : Pos} {a b c : Expr} {ia ib ic : IE}
/-- as a value -/
theorem ty_lcE {elt iter tg : Expr} {cs : List Expr} {ie : IE} {it : IT} {ics : List IE} {scope : Scope} {own : List (Str × Nat)} {t : Tg} (hK : X.K = T.K) (hc : X.calm = true) (hN : X.N.Nodup) (hi : TyI T Φ X tg iter it) (ok : BlkOk X.N X.env.scope scope own)
    (hv : ∀ i ∈ (match t with | .one i => [i] | .tup is => is), i ∈ own.map (·.2))
    (hg : ∀ (s : Shared) (H : Hp) (C : Addr) (cl : List (Str × Addr)) (fp : List Addr), PG (X.blk s H scope (compEnvC scope cl C X.env) fp) tg (gT X.K t))
    (ht : ∀ (s : Shared) (H : Hp) (C : Addr) (cl : List (Str × Addr)) (fp : List Addr), TyC T Φ (X.blk s H scope (compEnvC scope cl C X.env) fp) cs ics)
    (he : ∀ (s : Shared) (H : Hp) (C : Addr) (cl : List (Str × Addr)) (fp : List Addr), TyE T Φ (X.blk s H scope (compEnvC scope cl C X.env) fp) elt ie) (hs : ∀ x, foldedSetIterable iter X.env x = pure x) :
    TyE T Φ X (.ListComp elt [⟨tg, iter, cs, 0⟩] scope pos) (.lc (own.map (·.2)) t it ics ie) := by
  intro ρ μ σ H F A r Q E tk s er e p
  refine wE_of (pe_lc (g := gT X.K t) (tt := fun σ H Q => ∀ s H0 C cl fp, wC (X.blk s H0 scope (compEnvC scope cl C X.env) fp) cs σ H Q) (te := fun σ H Q => ∀ s H0 C cl fp, wE (X.blk s H0 scope (compEnvC scope cl C X.env) fp) elt σ H Q)
    hc hN pi_w ok hg (fun s H C cl fp => ⟨fun pins st σ H' Q I h => h s H C cl fp pins st I⟩) (fun s H C cl fp => ⟨fun pins st σ H' Q I h => h s H C cl fp pins st I⟩) hs) ?_
  exact ty_lc hK hc hN hi ok hv hg ht he ρ μ σ H F A r Q E tk s er e p

/-! ### new lists, new dicts -/
theorem toO_ne {d : D} {o : O} (h : toO d = some o) : ∀ x, o ≠ .fz x := fun x z => by
  subst z
  cases d <;> simp only [toO] at h <;> cases h
/-- what is to be shown of an object that has just been made and is nobody's -/
def PostFd (T : Tb) (F : Hp) (A : List Addr) (Q : VK) (μ' : Mu) (d : D) : Option O → Prop
  | some o => ∀ p H' F' A', Ext F A F' A' → SRel T μ' H' F' A' → p ∉ A' → ObjRel T F' H' p o → Q (.ref p) H'
  | none => ∀ v H' F' A', Ext F A F' A' → SRel T μ' H' F' A' → Rep T F' d v → Q v H'
def PostF (T : Tb) (F : Hp) (A : List Addr) (Q : VK) (E : XK) : X1 W → Prop
  | .ok (.d d) μ' => PostFd T F A Q μ' d (toO d)
  | .ok w μ' => ∀ v H' F' A', Ext F A F' A' → SRel T μ' H' F' A' → RepW T F' A' w v → Q v H'
  | .er d μ' => ∀ cls dd H' F' A', Ext F A F' A' → SRel T μ' H' F' A' → XRep T F' d cls dd → E cls dd H'
def TyF (T : Tb) (Φ : Phi) (X : Cx) (e : Expr) (ie : IE) : Prop := ∀ (ρ : Env) (μ : Mu) (σ : L2.St) (H F : Hp) (A : List Addr) (r : X1 W) (Q : VK) (E : WX),
  Takes X E → SRel T μ H F A → ERel T ρ σ F A → evE Φ ie ρ μ = some r → PostF T F A Q (fun c d h => E c d σ h) r → wE X e σ H Q
theorem PostFd.mono {F F1 : Hp} {A A1 : List Addr} {Q : VK} {m : Mu} {d : D} {o : Option O} (e : Ext F A F1 A1) (h : PostFd T F A Q m d o) : PostFd T F1 A1 Q m d o := by
  cases o with
  | some o => exact fun p H' F' A' x => h p H' F' A' (e.trans x)
  | none => exact fun v H' F' A' x => h v H' F' A' (e.trans x)
theorem PostF.mono {F F1 : Hp} {A A1 : List Addr} {Q : VK} {E : XK} {r : X1 W} (e : Ext F A F1 A1) (h : PostF T F A Q E r) : PostF T F1 A1 Q E r := by
  cases r with
  | ok w m =>
    cases w with
    | r k => exact fun v H' F' A' x => h v H' F' A' (e.trans x)
    | d y => exact PostFd.mono e h
  | er d m => exact fun c dd H' F' A' x => h c dd H' F' A' (e.trans x)
/-- the error's part -/
theorem PostF.er {F : Hp} {A : List Addr} {Q : VK} {E : XK} {d : D} {m : Mu} (h : PostF T F A Q E (.er d m)) {α β : Type} {rep : Hp → List Addr → α → β → Prop} {Q2 : β → Hp → Prop} : Post (α := α) (β := β) T rep F A Q2 E (.er d m) := h
/-- what bind gives, with the ends of PostF -/
theorem TyE.thenF (h : TyE T Φ X a ia) {f : W → Mu → R W} {r : X1 W} {ρ : Env} {μ : Mu} {σ : L2.St} {H F : Hp} {A : List Addr} {Q : VK} {Q2 : VK} {E : WX}
    (tk : Takes X E) (s : SRel T μ H F A) (er : ERel T ρ σ F A) (e : (evE Φ ia ρ μ).bind f = some r) (p : PostF T F A Q2 (fun c d h => E c d σ h) r)
    (hQ : ∀ w μ1 v H1 F1 A1, Ext F A F1 A1 → SRel T μ1 H1 F1 A1 → ERel T ρ σ F1 A1 → RepW T F1 A1 w v → f w μ1 = some r → PostF T F1 A1 Q2 (fun c d h => E c d σ h) r → Q v H1) : wE X a σ H Q := by
  rcases bind_some e with ⟨d, m, e1, rfl⟩ | ⟨w, m, e1, e2⟩
  · exact h ρ μ σ H F A _ Q E tk s er e1 p.er
  · exact h ρ μ σ H F A _ Q E tk s er e1 fun v H1 F1 A1 x s1 r1 => hQ w m v H1 F1 A1 x s1 (er.mono x) r1 e2 (p.mono x)
theorem TyL.thenF {es : List Expr} {is : List IE} (h : TyL T Φ X es is) {f : List W → Mu → R W} {r : X1 W} {ρ : Env} {μ : Mu} {σ : L2.St} {H F : Hp} {A : List Addr} {Q : List V → Hp → Prop} {Q2 : VK} {E : WX}
    (tk : Takes X E) (s : SRel T μ H F A) (er : ERel T ρ σ F A) (e : (evL Φ is ρ μ).bind f = some r) (p : PostF T F A Q2 (fun c d h => E c d σ h) r)
    (hQ : ∀ w μ1 v H1 F1 A1, Ext F A F1 A1 → SRel T μ1 H1 F1 A1 → ERel T ρ σ F1 A1 → RepWs T F1 A1 w v → f w μ1 = some r → PostF T F1 A1 Q2 (fun c d h => E c d σ h) r → Q v H1) : wL X es σ H Q := by
  rcases bind_some e with ⟨d, m, e1, rfl⟩ | ⟨w, m, e1, e2⟩
  · exact h ρ μ σ H F A _ Q E tk s er e1 p.er
  · exact h ρ μ σ H F A _ Q E tk s er e1 fun v H1 F1 A1 x s1 r1 => hQ w m v H1 F1 A1 x s1 (er.mono x) r1 e2 (p.mono x)
theorem TyO.thenF {f : Bool} {o : Option Expr} (h : TyO T Φ X f o ia) {g : Option Int → Mu → R W} {r : X1 W} {ρ : Env} {μ : Mu} {σ : L2.St} {H F : Hp} {A : List Addr} {Q : Option Int → Hp → Prop} {Q2 : VK} {E : WX}
    (tk : Takes X E) (s : SRel T μ H F A) (er : ERel T ρ σ F A) (e : (evP Φ f ia ρ μ).bind g = some r) (p : PostF T F A Q2 (fun c d h => E c d σ h) r)
    (hQ : ∀ w μ1 H1 F1 A1, Ext F A F1 A1 → SRel T μ1 H1 F1 A1 → ERel T ρ σ F1 A1 → g w μ1 = some r → PostF T F1 A1 Q2 (fun c d h => E c d σ h) r → Q w H1) : wO X o σ H Q := by
  rcases bind_some e with ⟨d, m, e1, rfl⟩ | ⟨w, m, e1, e2⟩
  · exact h ρ μ σ H F A _ Q E tk s er e1 p.er
  · exact h ρ μ σ H F A _ Q E tk s er e1 fun v H1 F1 A1 x s1 r1 => by
      subst r1
      exact hQ w m H1 F1 A1 x s1 (er.mono x) e2 (p.mono x)
theorem SRel.side {μ : Mu} {H F : Hp} {A : List Addr} (s : SRel T μ H F A) {p : Addr} {o : HO} (hp : H p = none) : SRel T μ (upd H p o) F A ∧ F p = none ∧ p ∉ A := by
  have hF : F p = none := s.sub.free hp
  have hA : p ∉ A := fun z => s.thr p z hp
  refine ⟨⟨fun b u q => ?_, s.len, s.nod, fun a ha z => ?_, fun k a ob h1 h2 => ?_⟩, hF, hA⟩
  · rw [upd_ne (ne_of_none q hF)]
    exact s.sub _ _ q
  · have ne : a ≠ p := fun e => hA (by rw [← e]; exact ha)
    rw [upd_ne ne] at z
    exact s.thr a ha z
  · have ne : a ≠ p := fun e => hA (by rw [← e]; exact List.mem_of_getElem? h1)
    exact (s.obj k a ob h1 h2).mono (Same.refl F) fun ho => ⟨(s.obj k a ob h1 h2).nF ho, upd_ne ne⟩
theorem PostFd.new {μ : Mu} {H F : Hp} {A : List Addr} {Q : VK} {d : D} {o : O} {u : HO} (s : SRel T μ H F A) (p : PostFd T F A Q μ d (some o)) {q : Addr} (hq : H q = none) (r : F q = none → ObjRel T F (upd H q u) q o) : Q (.ref q) (upd H q u) := by
  obtain ⟨s3, hF, hA⟩ := s.side (o := u) hq
  exact p q _ F A (.refl _ _) s3 hA (r hF)
/-- an operation whose list is new -/
theorem PF.ofF {μ : Mu} {H F : Hp} {A : List Addr} {Q : VK} {E : XK} {d : D} (hd : ∀ t ks vs, d ≠ .dic t ks vs) (s : SRel T μ H F A) (p : PostF T F A Q E (.ok (.d d) μ)) : PF T F H d Q := by
  cases d with
  | lst ys =>
    intro q vs F' hq g r
    have sg := g.srel s
    obtain ⟨s3, hF, hA⟩ := sg.side (o := .lst vs) hq
    exact p q _ F' A (g.ext A) s3 hA ⟨hF, vs, upd_same, r⟩
  | dic t ks vs => exact absurd rfl (hd t ks vs)
  | _ => exact fun v F' H' g r => p v H' F' A (g.ext A) (g.srel s) r
theorem tf_lst {es : List Expr} {is : List IE} (hs : TyL T Φ X es is) : TyF T Φ X (.List es pos) (.lst is) := by
  intro ρ μ σ H F A r Q E tk s er e p
  simp only [evE] at e
  refine wE_of (pe_lst pl_w) (hs.thenF tk s er e p fun ws μ1 vs H1 F1 A1 x s1 er1 r1 e1 p1 => ?_)
  split at e1
  · cases e1
  · rename_i ds μ2 hd
    split at e1
    · rename_i hz
      cases e1
      obtain ⟨F2, s2, sb, rp⟩ := s1.toDs r1 hd
      refine ⟨by rw [← rp.len]; exact lim_le hz, fun q hq => ?_⟩
      obtain ⟨s3, hF, hA⟩ := s2.side (o := .lst vs) hq
      exact p1 q _ F2 A1 ⟨sb, List.prefix_refl _⟩ s3 hA ⟨hF, vs, upd_same, rp⟩
    · cases e1
/-- {} -/
theorem tf_dnew {t : Bool} : TyF T Φ X (.Dict [] [] pos) (.dnew t) := by
  intro ρ μ σ H F A r Q E tk s er e p
  simp only [evE] at e
  cases e
  cases t with
  | true => exact wE_of pe_dnewT fun q hq => PostFd.new (d := .dic true [] []) s p hq fun hF => ⟨hF, [], .nil, [], rfl, rfl, List.nodup_nil, upd_same⟩
  | false => exact wE_of pe_dnewK fun q hq => PostFd.new (d := .dic false [] []) s p hq fun hF => ⟨hF, [], .nil, [], rfl, rfl, List.nodup_nil, upd_same⟩
/-! ### list(range(n)), tuple(range(n)) -/
theorem rg_reps {T : Tb} {F : Hp} (j : Int) : Reps T F ((List.range j.toNat).map fun i => D.int (0 + (i : Nat))) (rgV 0 j) := by
  unfold rgV
  rw [Int.sub_zero]
  generalize List.range j.toNat = l
  induction l with
  | nil => exact .nil
  | cons x l ih => exact .cons (by simp only [Rep]) ih
theorem rg_go {ρ : Env} {μ : Mu} {r : X1 W} {tp : Bool} (e : evE Φ (.lrng tp ia) ρ μ = some r) : (evE Φ ia ρ μ).bind (fun w μ1 => match w with
    | .d (.int j) => if 0 ≤ j ∧ j ≤ 100000 then rok (.d ((if tp = true then D.tup else D.lst) ((List.range j.toNat).map fun i => .int (0 + (i : Nat))))) μ1 else none
    | _ => none) = some r := by
  simp only [evE] at e
  exact e
theorem ty_tuprg {p p2 : Pos} (hc : X.calm = true) (hg : Gl X "tuple") (hm : X.mg "tuple" = none) (hg2 : Gl X "range") (hm2 : X.mg "range" = none) (ha : TyE T Φ X a ia) (he : starEach [a] X.env = (false, eval a X.env) :: starEach [] X.env) (he2 : starEach [.Call (.Name "range" p2) [a] [] pos] X.env = (false, eval (.Call (.Name "range" p2) [a] [] pos) X.env) :: starEach [] X.env) {pos' : Pos} :
    TyE T Φ X (.Call (.Name "tuple" p) [.Call (.Name "range" p2) [a] [] pos] [] pos') (.lrng true ia) := by
  intro ρ μ σ H F A r Q E tk s er e p
  refine wE_of (pe_tupRg hc hg hm (prg_1 hg2 hm2 pe_w he) he2) (ha.then tk s er (rg_go e) p fun w μ1 v H1 F1 A1 x s1 er1 r1 e1 p1 => ?_)
  split at e1
  · split at e1
    · rename_i j hz
      cases e1
      simp only [RepW, Rep] at r1
      subst r1
      exact ⟨j, rfl, RgOk.of_le (by omega) (by omega) (by omega) (by omega), fun q hq => (PQ.of s1 p1).tup s1.sub (rg_reps j) hq⟩
    · cases e1
  · cases e1
theorem ty_lstrg {p p2 : Pos} (hc : X.calm = true) (hg : Gl X "list") (hm : X.mg "list" = none) (hg2 : Gl X "range") (hm2 : X.mg "range" = none) (ha : TyE T Φ X a ia) (he : starEach [a] X.env = (false, eval a X.env) :: starEach [] X.env) (he2 : starEach [.Call (.Name "range" p2) [a] [] pos] X.env = (false, eval (.Call (.Name "range" p2) [a] [] pos) X.env) :: starEach [] X.env) {pos' : Pos} :
    TyE T Φ X (.Call (.Name "list" p) [.Call (.Name "range" p2) [a] [] pos] [] pos') (.lrng false ia) := by
  intro ρ μ σ H F A r Q E tk s er e p
  refine wE_of (pe_listRg hc hg hm (prg_1 hg2 hm2 pe_w he) he2) (ha.then tk s er (rg_go e) p fun w μ1 v H1 F1 A1 x s1 er1 r1 e1 p1 => ?_)
  split at e1
  · split at e1
    · rename_i j hz
      cases e1
      simp only [RepW, Rep] at r1
      subst r1
      exact ⟨j, rfl, RgOk.of_le (by omega) (by omega) (by omega) (by omega), fun q hq => (PQ.of s1 p1).lst s1.sub (rg_reps j) hq⟩
    · cases e1
  · cases e1
theorem tf_lstrg {p p2 : Pos} (hc : X.calm = true) (hg : Gl X "list") (hm : X.mg "list" = none) (hg2 : Gl X "range") (hm2 : X.mg "range" = none) (ha : TyE T Φ X a ia) (he : starEach [a] X.env = (false, eval a X.env) :: starEach [] X.env) (he2 : starEach [.Call (.Name "range" p2) [a] [] pos] X.env = (false, eval (.Call (.Name "range" p2) [a] [] pos) X.env) :: starEach [] X.env) {pos' : Pos} :
    TyF T Φ X (.Call (.Name "list" p) [.Call (.Name "range" p2) [a] [] pos] [] pos') (.lrng false ia) := by
  intro ρ μ σ H F A r Q E tk s er e p
  refine wE_of (pe_listRg hc hg hm (prg_1 hg2 hm2 pe_w he) he2) (ha.thenF tk s er (rg_go e) p fun w μ1 v H1 F1 A1 x s1 er1 r1 e1 p1 => ?_)
  split at e1
  · split at e1
    · rename_i j hz
      cases e1
      simp only [RepW, Rep] at r1
      subst r1
      exact ⟨j, rfl, RgOk.of_le (by omega) (by omega) (by omega) (by omega), fun q hq => PostFd.new (d := .lst ((List.range j.toNat).map fun i => .int (0 + (i : Nat)))) s1 p1 hq fun hF => ⟨hF, _, upd_same, rg_reps j⟩⟩
    · cases e1
  · cases e1
/-- a slice of a list -/
theorem tf_sl {fl fh : Bool} {lo hi : Option Expr} {il ih : IE} {p2 : Pos} (hK : X.K = T.K) (ha : TyE T Φ X a ia) (hl : TyO T Φ X fl lo il) (hh : TyO T Φ X fh hi ih) : TyF T Φ X (.Subscript a (.Slice lo hi none p2) pos) (.sl fl fh ia il ih) := by
  intro ρ μ σ H F A r Q E tk s er e p
  simp only [evE] at e
  refine wE_of (pe_slice (o_sliceF hK) pe_w po_w po_w) (ha.thenF tk s er e p fun w μ1 v H1 F1 A1 x s1 er1 r1 e1 p1 => ?_)
  refine hl.thenF tk s1 er1 e1 p1 fun l μ2 H2 F2 A2 x2 s2 er2 e2 p2 => ?_
  refine hh.thenF tk s2 er2 e2 p2 fun h μ3 H3 F3 A3 x3 s3 er3 e3 p3 => ?_
  obtain ⟨w', hw, rfl⟩ := of_some e3
  obtain ⟨d, hd, rfl⟩ := Option.map_eq_some_iff.mp hw
  obtain ⟨d0, hv, hc⟩ := Option.bind_eq_some_iff.mp hd
  refine ⟨F3, d0, d, s3.sub, s3.view (r1.mono (x2.trans x3)) hv, hc, .ofF (fun t ks vs z => ?_) s3 p3⟩
  subst z
  unfold dCut at hc
  split at hc
  · cases hc
  · cases hc
  · cases hc
  · split at hc <;> cases hc
  · cases hc
/-- a built-in function whose list is new -/
theorem opn_goF {o : Op} {es : List Expr} {is : List IE} (hnd : ∀ ds d, sem o ds = some d → ∀ t ks vs, d ≠ .dic t ks vs) (hs : TyL T Φ X es is) {ρ : Env} {μ : Mu} {σ : L2.St} {H F : Hp} {A : List Addr} {r : X1 W} {Q : VK} {E : WX}
    (tk : Takes X E) (s : SRel T μ H F A) (er : ERel T ρ σ F A) (e : evE Φ (.op o is) ρ μ = some r) (p : PostF T F A Q (fun c d h => E c d σ h) r) :
    tCB (fun xs H Q => ∃ F ds d, Sub F H ∧ Paired (fun x d => RepV T F H d x) xs ds ∧ sem o ds = some d ∧ PF T F H d Q) (wL X es) σ H Q := by
  simp only [evE] at e
  refine hs.thenF tk s er e p fun ws μ1 vs H1 F1 A1 x s1 er1 r1 e1 p1 => ?_
  split at e1
  · cases e1
  · rename_i ds hd
    split at e1
    · cases e1
    · rename_i d hsm
      cases e1
      exact ⟨F1, ds, d, s1.sub, s1.views r1 hd, hsm, .ofF (hnd _ _ hsm) s1 p1⟩
theorem tf_callB {o : Op} {id : String} {x : Str} {p : Pos} {es : List Expr} {is : List IE} (hnd : ∀ ds d, sem o ds = some d → ∀ t ks vs, d ≠ .dic t ks vs) (ho : OpCF T X (.builtin id) o) (hg : Gl X x) (hm : X.mg x = none) (hv : bootBuiltins x = some (.builtin id)) (hs : TyL T Φ X (a :: es) is)
    (hn : x ≠ "__name__") (hdb : (x == ("__debug__" : Str)) = false) (he : starEach (a :: es) X.env = (false, eval a X.env) :: starEach es X.env) (hpl : (backTo pos (starEach es X.env)).any (·.1) = false) : TyF T Φ X (.Call (.Name x p) (a :: es) [] pos) (.op o is) := by
  intro ρ μ σ H F A r Q E tk s er e p
  exact wE_of (pe_callB ho hg hm hv pl_w hn hdb he hpl) (opn_goF hnd hs tk s er e p)
theorem tf_callTy {o : Op} {n : String} {x : Str} {p : Pos} {es : List Expr} {is : List IE} (hnd : ∀ ds d, sem o ds = some d → ∀ t ks vs, d ≠ .dic t ks vs) (ho : OpCF T X (.type n) o) (hg : Gl X x) (hm : X.mg x = none) (hv : bootBuiltins x = some (.type n)) (hs : TyL T Φ X (a :: es) is)
    (hn : x ≠ "__name__") (hdb : (x == ("__debug__" : Str)) = false) (he : starEach (a :: es) X.env = (false, eval a X.env) :: starEach es X.env) (hpl : (backTo pos (starEach es X.env)).any (·.1) = false) : TyF T Φ X (.Call (.Name x p) (a :: es) [] pos) (.op o is) := by
  intro ρ μ σ H F A r Q E tk s er e p
  exact wE_of (pe_callTy ho hg hm hv pl_w hn hdb he hpl) (opn_goF hnd hs tk s er e p)
theorem list_nd : ∀ ds d, sem .list ds = some d → ∀ t ks vs, d ≠ .dic t ks vs := fun ds d e t ks vs z => by
  obtain ⟨a, rfl⟩ := sem1 e (fun a b r => by cases a <;> rfl) rfl
  subst z
  cases a <;> simp only [sem] at e <;> cases e
theorem sorted_nd : ∀ ds d, sem .sorted ds = some d → ∀ t ks vs, d ≠ .dic t ks vs := fun ds d e t ks vs z => by
  obtain ⟨a, rfl⟩ := sem1 e (fun a b r => by cases a <;> rfl) rfl
  subst z
  cases a <;> simp only [sem] at e <;> first | (cases e; done) | skip
  all_goals
    obtain ⟨_, _, _, _, _, _, q⟩ := dSort_ok e
    cases q
/-- a + b, a * b -/
theorem tf_bin {o : Op} {op : Operator} (hnd : ∀ x y d, sem o [x, y] = some d → ∀ t ks vs, d ≠ .dic t ks vs) (ho : Op2F T X (binaryOp op) (fun x y => sem o [x, y])) (ha : TyE T Φ X a ia) (hb : TyE T Φ X b ib) : TyF T Φ X (.BinOp a op b pos) (.op o [ia, ib]) := by
  intro ρ μ σ H F A r Q E tk s er e p
  refine wE_of (pe_op ho pe_w pe_w) ?_
  simp only [evE, evL] at e
  have e' : (evE Φ ia ρ μ).bind (fun w μ1 => (evE Φ ib ρ μ1).bind fun u μ2 => (match views μ2 [w, u] with
      | none => none
      | some ds => match sem o ds with
        | none => none
        | some d => rok (.d d) μ2 : R W)) = some r := by
    rw [← e]
    unfold R.bind
    cases evE Φ ia ρ μ with
    | none => rfl
    | some x1 =>
      cases x1 with
      | er d m => rfl
      | ok w m =>
        dsimp only
        cases evE Φ ib ρ m with
        | none => rfl
        | some x2 => cases x2 <;> rfl
  refine ha.thenF tk s er e' p fun w μ1 v H1 F1 A1 x s1 er1 r1 e1 p1 => ?_
  refine hb.thenF tk s1 er1 e1 p1 fun u μ2 y H2 F2 A2 x2 s2 er2 r2 e2 p2 => ?_
  split at e2
  · cases e2
  · rename_i ds hd
    split at e2
    · cases e2
    · rename_i d hs
      cases e2
      have pr := s2.views (.cons (r1.mono x2) (.cons r2 .nil)) hd
      cases pr with
      | cons q1 q =>
        cases q with
        | cons q2 q =>
          cases q
          exact ⟨F2, _, _, d, s2.sub, q1, q2, hs, .ofF (hnd _ _ _ hs) s2 p2⟩
theorem add_nd : ∀ x y d, sem .add [x, y] = some d → ∀ t ks vs, d ≠ .dic t ks vs := fun x y d e t ks vs z => by
  subst z
  cases x <;> cases y <;> simp only [sem, dAdd] at e <;> first | (cases e; done) | (split at e <;> cases e)
theorem mul_nd : ∀ x y d, sem .mul [x, y] = some d → ∀ t ks vs, d ≠ .dic t ks vs := fun x y d e t ks vs z => by
  subst z
  cases x <;> cases y <;> simp only [sem, dMul] at e <;> first | (cases e; done) | (split at e <;> cases e)
/-- a comprehension -/
theorem tf_lcE {elt iter tg : Expr} {cs : List Expr} {ie : IE} {it : IT} {ics : List IE} {scope : Scope} {own : List (Str × Nat)} {t : Tg} (hK : X.K = T.K) (hc : X.calm = true) (hN : X.N.Nodup) (hi : TyI T Φ X tg iter it) (ok : BlkOk X.N X.env.scope scope own)
    (hv : ∀ i ∈ (match t with | .one i => [i] | .tup is => is), i ∈ own.map (·.2))
    (hg : ∀ (s : Shared) (H : Hp) (C : Addr) (cl : List (Str × Addr)) (fp : List Addr), PG (X.blk s H scope (compEnvC scope cl C X.env) fp) tg (gT X.K t))
    (ht : ∀ (s : Shared) (H : Hp) (C : Addr) (cl : List (Str × Addr)) (fp : List Addr), TyC T Φ (X.blk s H scope (compEnvC scope cl C X.env) fp) cs ics)
    (he : ∀ (s : Shared) (H : Hp) (C : Addr) (cl : List (Str × Addr)) (fp : List Addr), TyE T Φ (X.blk s H scope (compEnvC scope cl C X.env) fp) elt ie) (hs : ∀ x, foldedSetIterable iter X.env x = pure x) :
    TyF T Φ X (.ListComp elt [⟨tg, iter, cs, 0⟩] scope pos) (.lc (own.map (·.2)) t it ics ie) := by
  intro ρ μ σ H F A r Q E tk s er e p
  refine wE_of (pe_lc (g := gT X.K t) (tt := fun σ H Q => ∀ s H0 C cl fp, wC (X.blk s H0 scope (compEnvC scope cl C X.env) fp) cs σ H Q) (te := fun σ H Q => ∀ s H0 C cl fp, wE (X.blk s H0 scope (compEnvC scope cl C X.env) fp) elt σ H Q)
    hc hN pi_w ok hg (fun s H C cl fp => ⟨fun pins st σ H' Q I h => h s H C cl fp pins st I⟩) (fun s H C cl fp => ⟨fun pins st σ H' Q I h => h s H C cl fp pins st I⟩) hs) ?_
  refine lc_core hK hc hN hi ok hv hg ht he ρ μ σ H F A r Q E tk s er e (fun d m er => ?_) (fun ys m er q H' F' A' x s' hq hO => ?_)
  · subst er; exact p
  · subst er; exact p q H' F' A' x s' hq hO
theorem tf_one {op : BoolOp} (ha : TyF T Φ X a ia) : TyF T Φ X (.BoolOp op [a] pos) ia := by
  intro ρ μ σ H F A r Q E tk s er e p
  exact wE_of (pe_one pe_w) (ha ρ μ σ H F A r Q E tk s er e p)
theorem tf_or {rest : List Expr} (hK : X.K = T.K) (ha : TyF T Φ X a ia) (hb : TyF T Φ X (.BoolOp .Or (b :: rest) pos) ib) : TyF T Φ X (.BoolOp .Or (a :: b :: rest) pos) (.or ia ib) := by
  intro ρ μ σ H F A r Q E tk s er e p
  simp only [evE] at e
  refine wE_of (pe_orT pe_w pe_w) ?_
  rcases bind_some e with ⟨d, m, e1, rfl⟩ | ⟨w, m, e1, e2⟩
  · exact ha ρ μ σ H F A _ _ E tk s er e1 p
  · -- what the first one is worth, behind it
    have post : ∀ (Q' : VK), (∀ v H1 F1 A1, Ext F A F1 A1 → SRel T m H1 F1 A1 → (∀ d k, view m w = some d → truth d = some k → TruV X.K v H1 k) → (∀ (z : PostF T F A Q (fun c d h => E c d σ h) (.ok w m)), Q v H1) → Q' v H1) → PostF T F A Q' (fun c d h => E c d σ h) (.ok w m) := by
      intro Q' h
      cases w with
      | r k => exact fun v H1 F1 A1 x s1 r1 => h v H1 F1 A1 x s1 (fun d k hv ht => truV_of hK s1.sub (s1.view r1 hv) ht) fun z => z v H1 F1 A1 x s1 r1
      | d y =>
        have gen : ∀ {F1 H1 : Hp} {A1 : List Addr} {v : V}, Ext F A F1 A1 → SRel T m H1 F1 A1 → RepV T F1 H1 y v → (PostF T F A Q (fun c d h => E c d σ h) (.ok (.d y) m) → Q v H1) → Q' v H1 := fun {F1 H1 A1 v} x s1 rv hz =>
          h v H1 F1 A1 x s1 (fun d k hv ht => by
            simp only [view] at hv
            cases hv
            exact truV_of hK s1.sub rv ht) hz
        cases y with
        | lst ys => exact fun pp H1 F1 A1 x s1 hA hO => gen x s1 (by obtain ⟨_, vs, hH, rp⟩ := hO; exact ⟨pp, vs, rfl, hH, rp⟩) fun z => z pp H1 F1 A1 x s1 hA hO
        | dic t ks ds => exact fun pp H1 F1 A1 x s1 hA hO => gen x s1 (by obtain ⟨_, vs, rp, dh⟩ := hO; exact ⟨pp, vs, rfl, rp, dh.imp fun u _ z => .inl z⟩) fun z => z pp H1 F1 A1 x s1 hA hO
        | _ => exact fun v H1 F1 A1 x s1 r1 => gen x s1 (Rep.v s1.sub r1) fun z => z v H1 F1 A1 x s1 r1
    refine ha ρ μ σ H F A _ _ E tk s er e1 (post _ fun v H1 F1 A1 x s1 ht hq => ?_)
    split at e2
    · cases e2
    · rename_i hk
      obtain ⟨d, hv, htr⟩ := Option.bind_eq_some_iff.mp hk
      refine ⟨true, ht d true hv htr, ?_⟩
      rw [if_pos rfl]
      cases e2
      exact hq p
    · rename_i hk
      obtain ⟨d, hv, htr⟩ := Option.bind_eq_some_iff.mp hk
      refine ⟨false, ht d false hv htr, ?_⟩
      rw [if_neg Bool.false_ne_true]
      exact hb ρ m σ H1 F1 A1 r Q E tk s1 (er.mono x) e2 (p.mono x)
end
end PI
/-! PI32: comprehensions with two loops. -/
namespace PI
open PySem PySem.Spec PyProof.Rows L2
section
variable {T : Tb} {Φ : Phi} {X : Cx} {pos : Pos} {elt iter tg iter1 tg1 : Expr} {cs cs1 : List Expr} {ie : IE} {it it1 : IT} {ics ics1 : List IE}
/-- the inner loop's turn -/
def lcIn (Φ : Phi) (vs1 : List Nat) (t1 : Tg) (cs1 : List IE) (e : IE) (ρ1 : Env) (y : D) (m : Mu) : R (Option D) := match t1.put y (wipeE ρ1 vs1) with
  | none => none
  | some ρ2 => (evC Φ cs1 ρ2 m).bind fun b m1 => if b = true then (evE Φ e ρ2 m1).bind fun w m2 => match toD w m2 with
      | none => none
      | some (y, m3) => rok (some y) m3
    else rok none m1
def lcOut (Φ : Phi) (vs vs1 : List Nat) (t : Tg) (cs : List IE) (t1 : Tg) (it1 : IT) (cs1 : List IE) (e : IE) (k : Nat) (ρ : Env) (x : D) (m : Mu) : Option Mu := match t.put x (wipeE ρ vs) with
  | none => none
  | some ρ1 => match evC Φ cs ρ1 m with
    | some (.ok true m1) => (match evT Φ it1 ρ1 m1 with
      | some (.ok ys m2) => collect (lcIn Φ vs1 t1 cs1 e ρ1) k ys m2
      | _ => none)
    | some (.ok false m1) => some m1
    | _ => none
theorem lc2_eq (Φ : Phi) (vs vs1 : List Nat) (t : Tg) (it : IT) (cs : List IE) (t1 : Tg) (it1 : IT) (cs1 : List IE) (e : IE) (ρ : Env) (μ : Mu) : evE Φ (.lc2 vs vs1 t it cs t1 it1 cs1 e) ρ μ = (evT Φ it ρ μ).bind fun xs μ1 =>
      match collect2 (lcOut Φ vs vs1 t cs t1 it1 cs1 e μ1.length ρ) μ1.length xs (μ1 ++ [.lst []]) with
      | none => none
      | some μ2 => match μ2[μ1.length]? with
        | some (.lst ys) => rok (.d (.lst ys)) (μ2.take μ1.length)
        | _ => none := by
  rw [evE]
  rfl
theorem lc2_core {scope : Scope} {own : List (Str × Nat)} {t t1 : Tg} (hK : X.K = T.K) (hc : X.calm = true) (hN : X.N.Nodup) (hi : TyI T Φ X tg iter it) (ok : BlkOk X.N X.env.scope scope own)
    (hv : ∀ i ∈ (match t with | .one i => [i] | .tup is => is), i ∈ own.map (·.2))
    (hg : ∀ (s : Shared) (H : Hp) (C : Addr) (cl : List (Str × Addr)) (fp : List Addr), PG (X.blk s H scope (compEnvC scope cl C X.env) fp) tg (gT X.K t))
    (ht : ∀ (s : Shared) (H : Hp) (C : Addr) (cl : List (Str × Addr)) (fp : List Addr), TyC T Φ (X.blk s H scope (compEnvC scope cl C X.env) fp) cs ics)
    (hi1 : ∀ (s : Shared) (H : Hp) (C : Addr) (cl : List (Str × Addr)) (fp : List Addr), TyI T Φ (X.blk s H scope (compEnvC scope cl C X.env) fp) tg1 iter1 it1)
    (hg1 : ∀ (s : Shared) (H : Hp) (C : Addr) (cl : List (Str × Addr)) (fp : List Addr), PG (X.blk s H scope (compEnvC scope cl C X.env) fp) tg1 (gT X.K t1))
    (ht1 : ∀ (s : Shared) (H : Hp) (C : Addr) (cl : List (Str × Addr)) (fp : List Addr), TyC T Φ (X.blk s H scope (compEnvC scope cl C X.env) fp) cs1 ics1)
    (he : ∀ (s : Shared) (H : Hp) (C : Addr) (cl : List (Str × Addr)) (fp : List Addr), TyE T Φ (X.blk s H scope (compEnvC scope cl C X.env) fp) elt ie)
    (ρ : Env) (μ : Mu) (σ : L2.St) (H F : Hp) (A : List Addr) (r : X1 W) (Q : VK) (E : WX) (tk : Takes X E) (s : SRel T μ H F A) (er : ERel T ρ σ F A) (e : evE Φ (.lc2 (own.map (·.2)) t1.slots t it ics t1 it1 ics1 ie) ρ μ = some r)
    (pE : ∀ d m, r = .er d m → ∀ cls dd H' F' A', Ext F A F' A' → SRel T m H' F' A' → XRep T F' d cls dd → E cls dd σ H')
    (pO : ∀ ys m, r = .ok (.d (.lst ys)) m → ∀ q H' F' A', Ext F A F' A' → SRel T m H' F' A' → q ∉ A' → ObjRel T F' H' q (.lst ys) → Q (.ref q) H') :
    tLc2 (wI X tg iter) (gT X.K t) (fun σ H Q => ∀ s H0 C cl fp, wC (X.blk s H0 scope (compEnvC scope cl C X.env) fp) cs σ H Q) (fun σ H R => ∀ s H0 C cl fp, wI (X.blk s H0 scope (compEnvC scope cl C X.env) fp) tg1 iter1 σ H R) (gT X.K t1) (fun σ H Q => ∀ s H0 C cl fp, wC (X.blk s H0 scope (compEnvC scope cl C X.env) fp) cs1 σ H Q) (fun σ H Q => ∀ s H0 C cl fp, wE (X.blk s H0 scope (compEnvC scope cl C X.env) fp) elt σ H Q) (own.map (·.2)) t1.slots σ H Q := by
  rw [lc2_eq] at e
  rcases bind_some e with ⟨d, m, e1, rfl⟩ | ⟨xs, μ1, e1, e2⟩
  · exact hi ρ μ σ H F A _ _ E tk s er e1 (pE d m rfl)
  refine hi ρ μ σ H F A _ _ E tk s er e1 fun J H1 F1 A1 x1 s1 wk D hD => ?_
  split at e2
  · cases e2
  rename_i μ2 hcol
  split at e2
  · rename_i ys hys
    cases e2
    have hk : A1.length = μ1.length := s1.len
    have s1' : SRel T (μ1 ++ [.lst []]) (upd H1 D (.lst [])) F1 (A1 ++ [D]) := s1.alloc (ob := .lst []) hD ⟨s1.sub.free hD, [], upd_same, .nil⟩
    have cutA : ∀ {A' : List Addr}, (A1 ++ [D]) <+: A' → A'.take (μ1.length + 1) = A1 ++ [D] := fun {A'} h => by
      obtain ⟨B, rfl⟩ := h
      rw [List.take_append_of_le_length (by simp [hk])]
      rw [List.take_of_length_le (by simp [hk])]
    refine ⟨fun i m H' => m = xs.length - i ∧ i ≤ xs.length ∧ ∃ F' μi, Sub F1 F' ∧ SRel T μi H' F' (A1 ++ [D]) ∧ collect2 _ μ1.length (xs.drop i) μi = some μ2, ⟨_, rfl, Nat.zero_le _, F1, _, Same.refl F1, s1', by rw [List.drop_zero]; exact hcol⟩, ?_⟩
    rintro i m H' ⟨rfl, hle, F', μi, sb, si, hcl⟩
    by_cases hlt : i < xs.length
    · refine .inr ⟨wk.goes i H' hlt (sb.trans si.sub), _, fun H'' z => ⟨xs.length - (i + 1), by omega, rfl, by omega, z⟩, fun x H2 hy => ?_⟩
      obtain ⟨d, F2, hd, g2, rd⟩ := wk.yields i H' F' x H2 hlt sb si.sub hy
      have s2 := g2.srel si
      have hdrop : xs.drop i = d :: xs.drop (i + 1) := by
        have hg : xs[i] = d := by
          rw [List.getElem?_eq_getElem hlt] at hd
          exact Option.some.inj hd
        rw [← hg]
        exact List.drop_eq_getElem_cons hlt
      rw [hdrop] at hcl
      unfold collect2 at hcl
      -- the turn
      have x12 : Ext F A F2 (A1 ++ [D]) := ⟨(x1.sub.trans sb).trans g2.fs, x1.pre.trans (List.prefix_append _ _)⟩
      have er2 : ERel T (wipeE ρ (own.map (·.2))) (L2.wipe σ (own.map (·.2))) F2 (A1 ++ [D]) := (er.mono x12).wipe _
      cases hf : lcOut Φ (own.map (·.2)) t1.slots t ics t1 it1 ics1 ie μ1.length ρ d μi with
      | none => rw [hf] at hcl; cases hcl
      | some μE =>
        rw [hf] at hcl
        unfold lcOut at hf
        cases hput : t.put d (wipeE ρ (own.map (·.2))) with
        | none => rw [hput] at hf; cases hf
        | some ρ1 =>
          rw [hput] at hf
          refine gT_ok hput rd s2.sub er2 hK fun σ2 er3 hw => ⟨(hw _ hv).trans (wipe_wipe _ _), ?_⟩
          -- the tests
          dsimp only at hf
          cases hC : evC Φ ics ρ1 μi with
          | none => rw [hC] at hf; cases hf
          | some rc =>
            rw [hC] at hf
            cases rc with
            | er dd mm => cases hf
            | ok bb m1 =>
              intro sS H0 C cl fp
              refine ht sS H0 C cl fp ρ1 μi σ2 H2 F2 (A1 ++ [D]) _ _ _ takes0 s2 er3 hC fun v H3 F3 A3 x3 s3 ev => ?_
              subst ev
              cases bb with
              | false =>
                simp only [Bool.false_eq_true, if_false] at hf ⊢
                cases hf
                refine ⟨F3, _, sb.trans (g2.fs.trans x3.sub), ?_, hcl⟩
                have s6 := s3.cut (μ1.length + 1)
                rw [cutA x3.pre] at s6
                exact s6
              | true =>
                simp only [if_true] at hf ⊢
                cases hT1 : evT Φ it1 ρ1 m1 with
                | none => rw [hT1] at hf; cases hf
                | some rt =>
                  rw [hT1] at hf
                  cases rt with
                  | er dd mm => cases hf
                  | ok zs m2 =>
                    dsimp only at hf
                    intro sS H0 C cl fp
                    refine hi1 sS H0 C cl fp ρ1 m1 σ2 H3 F3 A3 _ _ _ takes0 s3 (er3.mono x3) hT1 fun J1 H4 F4 A4 x4 s4 wk1 => ?_
                    have xb : Ext F2 (A1 ++ [D]) F4 A4 := x3.trans x4
                    have er4 : ERel T ρ1 σ2 F4 A4 := er3.mono xb
                    refine ⟨fun j n H' => n = zs.length - j ∧ j ≤ zs.length ∧ ∃ F' μj Aj, Sub F4 F' ∧ (A1 ++ [D]) <+: Aj ∧ (Aj <+: A4) ∧ SRel T μj H' F' Aj ∧ collect (lcIn Φ t1.slots t1 ics1 ie ρ1) μ1.length (zs.drop j) μj = some μE, ⟨_, rfl, Nat.zero_le _, F4, _, A4, Same.refl F4, xb.pre, List.prefix_refl _, s4, by rw [List.drop_zero]; exact hf⟩, ?_⟩
                    rintro j n H5 ⟨rfl, hle1, F5, μj, Aj, sb5, pj, pj4, sj, hcj⟩
                    by_cases hlt1 : j < zs.length
                    · refine .inr ⟨wk1.goes j H5 hlt1 (sb5.trans sj.sub), _, fun H'' z => ⟨zs.length - (j + 1), by omega, rfl, by omega, z⟩, fun y H6 hy1 => ?_⟩
                      obtain ⟨d1, F6, hd1, g6, rd1⟩ := wk1.yields j H5 F5 y H6 hlt1 sb5 sj.sub hy1
                      have s6 := g6.srel sj
                      have hdrop1 : zs.drop j = d1 :: zs.drop (j + 1) := by
                        have hg : zs[j] = d1 := by
                          rw [List.getElem?_eq_getElem hlt1] at hd1
                          exact Option.some.inj hd1
                        rw [← hg]
                        exact List.drop_eq_getElem_cons hlt1
                      rw [hdrop1] at hcj
                      unfold collect at hcj
                      have er5 : ERel T (wipeE ρ1 t1.slots) (L2.wipe σ2 t1.slots) F6 Aj := (er3.mono ⟨(xb.sub.trans sb5).trans g6.fs, pj⟩).wipe _
                      cases hput1 : t1.put d1 (wipeE ρ1 t1.slots) with
                      | none => simp only [lcIn, hput1] at hcj; cases hcj
                      | some ρ2 =>
                        simp only [lcIn, hput1] at hcj
                        refine gT_ok hput1 rd1 s6.sub er5 hK fun σ3 er6 hw1 => ⟨(hw1 _ (fun i hi => by cases t1 <;> exact hi)).trans (wipe_wipe _ _), ?_⟩
                        cases hC1 : evC Φ ics1 ρ2 μj with
                        | none => rw [hC1] at hcj; cases hcj
                        | some rc =>
                          rw [hC1] at hcj
                          cases rc with
                          | er dd mm => cases hcj
                          | ok bb n1 =>
                            intro sS H0 C cl fp
                            refine ht1 sS H0 C cl fp ρ2 μj σ3 H6 F6 Aj _ _ _ takes0 s6 er6 hC1 fun v H7 F7 A7 x7 s7 ev => ?_
                            subst ev
                            simp only [R.bind] at hcj
                            cases bb with
                            | true =>
                              simp only [if_true] at hcj ⊢
                              cases hE : evE Φ ie ρ2 n1 with
                              | none => rw [hE] at hcj; cases hcj
                              | some re =>
                                rw [hE] at hcj
                                cases re with
                                | er dd mm => cases hcj
                                | ok w n2 =>
                                  dsimp only at hcj
                                  cases hT : toD w n2 with
                                  | none => rw [hT] at hcj; cases hcj
                                  | some pr =>
                                    obtain ⟨y', n3⟩ := pr
                                    rw [hT] at hcj
                                    dsimp only at hcj
                                    intro sS H0 C cl fp
                                    refine he sS H0 C cl fp ρ2 n1 σ3 H7 F7 A7 _ _ _ takes0 s7 (er6.mono x7) hE fun v8 H8 F8 A8 x8 s8 rw8 => ?_
                                    obtain ⟨F9, s9, sb9, rp9⟩ := s8.toD rw8 hT
                                    split at hcj
                                    · rename_i acc hacc
                                      split at hcj
                                      · rename_i hz
                                        have pre8 : (A1 ++ [D]) <+: A8 := (pj.trans x7.pre).trans x8.pre
                                        have hDk : A8[μ1.length]? = some D := by
                                          obtain ⟨B, rfl⟩ := pre8
                                          rw [List.getElem?_append_left (by simp [hk])]
                                          rw [← hk]
                                          simp
                                        obtain ⟨hF9, vs, hHD, rvs⟩ := s9.obj μ1.length D _ hDk hacc
                                        refine ⟨vs, hHD, by rw [← rvs.len]; exact Nat.lt_of_lt_of_le hz (by decide), ?_⟩
                                        refine ⟨F9, _, A1 ++ [D], (sb5.trans (g6.fs.trans (x7.sub.trans (x8.sub.trans sb9)))), List.prefix_refl _, xb.pre, ?_, hcj⟩
                                        have s10 := s9.cut (μ1.length + 1)
                                        rw [cutA pre8] at s10
                                        refine s10.write (k := μ1.length) (a := D) (o := .lst (vs ++ [v8])) (ob := .lst acc) (ob' := .lst (acc ++ [y'])) ?_ ?_ (fun x z => nomatch z) ⟨hF9, _, upd_same, rvs.app (.cons rp9 .nil)⟩
                                        · rw [← hk]; simp
                                        · rw [List.getElem?_take, if_pos (Nat.lt_succ_self _)]; exact hacc
                                      · cases hcj
                                    · cases hcj
                            | false =>
                              simp only [Bool.false_eq_true, if_false] at hcj ⊢
                              refine ⟨F7, _, A1 ++ [D], sb5.trans (g6.fs.trans x7.sub), List.prefix_refl _, xb.pre, ?_, hcj⟩
                              have s10 := s7.cut (μ1.length + 1)
                              rw [cutA (pj.trans x7.pre)] at s10
                              exact s10
                    · have hj' : j = zs.length := by omega
                      subst hj'
                      refine .inl ⟨wk1.stops H5 (sb5.trans sj.sub), ?_⟩
                      rw [List.drop_length] at hcj
                      simp only [collect] at hcj
                      cases hcj
                      refine ⟨F5, _, sb.trans (g2.fs.trans (xb.sub.trans sb5)), ?_, hcl⟩
                      have s10 := sj.cut (μ1.length + 1)
                      rw [cutA pj] at s10
                      exact s10
    · have hi' : i = xs.length := by omega
      subst hi'
      refine .inl ⟨wk.stops H' (sb.trans si.sub), ?_⟩
      rw [List.drop_length] at hcl
      simp only [collect2] at hcl
      cases hcl
      have hDk : (A1 ++ [D])[μ1.length]? = some D := by rw [← hk]; simp
      have hO := si.obj μ1.length D _ hDk hys
      have s7 := si.cut μ1.length
      have ec : (A1 ++ [D]).take μ1.length = A1 := by rw [← hk]; simp
      rw [ec] at s7
      exact pO ys _ rfl D H' F' A1 ⟨x1.sub.trans sb, x1.pre⟩ s7 (fun z => s1.thr D z hD) hO
  · cases e2
/-- as a value -/
theorem ty_lc2E {scope : Scope} {own : List (Str × Nat)} {t t1 : Tg} (hK : X.K = T.K) (hc : X.calm = true) (hN : X.N.Nodup) (hi : TyI T Φ X tg iter it) (ok : BlkOk X.N X.env.scope scope own)
    (hv : ∀ i ∈ (match t with | .one i => [i] | .tup is => is), i ∈ own.map (·.2)) (hv1 : ∀ i ∈ t1.slots, i ∈ own.map (·.2))
    (hg : ∀ (s : Shared) (H : Hp) (C : Addr) (cl : List (Str × Addr)) (fp : List Addr), PG (X.blk s H scope (compEnvC scope cl C X.env) fp) tg (gT X.K t))
    (ht : ∀ (s : Shared) (H : Hp) (C : Addr) (cl : List (Str × Addr)) (fp : List Addr), TyC T Φ (X.blk s H scope (compEnvC scope cl C X.env) fp) cs ics)
    (hi1 : ∀ (s : Shared) (H : Hp) (C : Addr) (cl : List (Str × Addr)) (fp : List Addr), TyI T Φ (X.blk s H scope (compEnvC scope cl C X.env) fp) tg1 iter1 it1)
    (hg1 : ∀ (s : Shared) (H : Hp) (C : Addr) (cl : List (Str × Addr)) (fp : List Addr), PG (X.blk s H scope (compEnvC scope cl C X.env) fp) tg1 (gT X.K t1))
    (ht1 : ∀ (s : Shared) (H : Hp) (C : Addr) (cl : List (Str × Addr)) (fp : List Addr), TyC T Φ (X.blk s H scope (compEnvC scope cl C X.env) fp) cs1 ics1)
    (he : ∀ (s : Shared) (H : Hp) (C : Addr) (cl : List (Str × Addr)) (fp : List Addr), TyE T Φ (X.blk s H scope (compEnvC scope cl C X.env) fp) elt ie) (hs : ∀ x, foldedSetIterable iter X.env x = pure x) (hs1 : ∀ env x, foldedSetIterable iter1 env x = pure x) :
    TyE T Φ X (.ListComp elt [⟨tg, iter, cs, 0⟩, ⟨tg1, iter1, cs1, 0⟩] scope pos) (.lc2 (own.map (·.2)) t1.slots t it ics t1 it1 ics1 ie) := by
  intro ρ μ σ H F A r Q E tk s er e p
  refine wE_of (pe_lc2 (g := gT X.K t) (tt := fun σ H Q => ∀ s H0 C cl fp, wC (X.blk s H0 scope (compEnvC scope cl C X.env) fp) cs σ H Q) (wi1 := fun σ H R => ∀ s H0 C cl fp, wI (X.blk s H0 scope (compEnvC scope cl C X.env) fp) tg1 iter1 σ H R) (g1 := gT X.K t1) (tt1 := fun σ H Q => ∀ s H0 C cl fp, wC (X.blk s H0 scope (compEnvC scope cl C X.env) fp) cs1 σ H Q) (te := fun σ H Q => ∀ s H0 C cl fp, wE (X.blk s H0 scope (compEnvC scope cl C X.env) fp) elt σ H Q)
    hc hN pi_w ok hv1 hg (fun s H C cl fp => ⟨fun pins st σ H' Q I h => h s H C cl fp pins st I⟩) (fun s H C cl fp => ⟨fun pins st σ H' Q I h => h s H C cl fp pins st I⟩) hg1 (fun s H C cl fp => ⟨fun pins st σ H' Q I h => h s H C cl fp pins st I⟩) (fun s H C cl fp => ⟨fun pins st σ H' Q I h => h s H C cl fp pins st I⟩) hs hs1) ?_
  refine lc2_core hK hc hN hi ok hv hg ht hi1 hg1 ht1 he ρ μ σ H F A r Q E tk s er e (fun d m er => ?_) (fun ys m er q H' F' A' x s' hq hO => ?_)
  · subst er; exact p
  · subst er
    obtain ⟨F2, s2, sb, rp⟩ := s'.give hq hO
    exact p (.ref q) H' F2 A' (x.trans ⟨sb, List.prefix_refl _⟩) s2 rp
end
end PI
/-! PI9: statements. -/
namespace PI
open PySem PySem.Spec PyProof.Rows L2

def wS (X : Cx) (st : Stmt) : TS := fun D σ H => ∀ (pins : List (Addr × Obj)) (s : Shared), Inv X pins σ H s → wpAny (model X.prog X.w) X.A (exec st X.env) (SP X pins D) X.xe s
def wB (X : Cx) (st : List Stmt) : TS := fun D σ H => ∀ (pins : List (Addr × Obj)) (s : Shared), Inv X pins σ H s → wpAny (model X.prog X.w) X.A (execs st X.env) (SP X pins D) X.xe s
theorem ps_w {X : Cx} {st : Stmt} : PS X st (wS X st) := ⟨fun pins s σ H D I h => h pins s I⟩
theorem pb_w {X : Cx} {st : List Stmt} : PSs X st (wB X st) := ⟨fun pins s σ H D I h => h pins s I⟩
theorem wS_of {X : Cx} {st : Stmt} {t : TS} (h : PS X st t) {D : Ends} {σ : L2.St} {H : Hp} (q : t D σ H) : wS X st D σ H := fun pins s I => h.run pins s σ H D I q
theorem wB_of {X : Cx} {st : List Stmt} {t : TS} (h : PSs X st t) {D : Ends} {σ : L2.St} {H : Hp} (q : t D σ H) : wB X st D σ H := fun pins s I => h.run pins s σ H D I q

def PostS (T : Tb) (F : Hp) (A : List Addr) (D : Ends) (E : WX) : Fl × Mu → Prop
  | (.nx ρ', μ') => ∀ σ' H' F' A', Ext F A F' A' → SRel T μ' H' F' A' → ERel T ρ' σ' F' A' → D.nx σ' H'
  | (.bk ρ', μ') => ∀ σ' H' F' A', Ext F A F' A' → SRel T μ' H' F' A' → ERel T ρ' σ' F' A' → D.bk σ' H'
  | (.ct ρ', μ') => ∀ σ' H' F' A', Ext F A F' A' → SRel T μ' H' F' A' → ERel T ρ' σ' F' A' → D.ct σ' H'
  | (.rt w, μ') => ∀ v H' F' A', Ext F A F' A' → SRel T μ' H' F' A' → RepW T F' A' w v → D.rt v H'
  | (.xc d ρ', μ') => ∀ cls dd σ' H' F' A', Ext F A F' A' → SRel T μ' H' F' A' → ERel T ρ' σ' F' A' → XRep T F' d cls dd → E cls dd σ' H'
theorem PostS.mono {T : Tb} {F F1 : Hp} {A A1 : List Addr} {D : Ends} {E : WX} {r : Fl × Mu} (e : Ext F A F1 A1) (h : PostS T F A D E r) : PostS T F1 A1 D E r := by
  obtain ⟨fl, m⟩ := r
  cases fl with
  | nx ρ => exact fun s H' F' A' x => h s H' F' A' (e.trans x)
  | bk ρ => exact fun s H' F' A' x => h s H' F' A' (e.trans x)
  | ct ρ => exact fun s H' F' A' x => h s H' F' A' (e.trans x)
  | rt w => exact fun v H' F' A' x => h v H' F' A' (e.trans x)
  | xc d ρ => exact fun c dd s H' F' A' x => h c dd s H' F' A' (e.trans x)
def TyS (T : Tb) (Φ : Phi) (X : Cx) (st : Stmt) (is : IS) : Prop := ∀ (ρ : Env) (μ : Mu) (σ : L2.St) (H F : Hp) (A : List Addr) (r : Fl × Mu) (D : Ends) (E : WX),
  Takes X E → SRel T μ H F A → ERel T ρ σ F A → exS Φ is ρ μ = some r → PostS T F A D E r → wS X st D σ H
def TyBl (T : Tb) (Φ : Phi) (X : Cx) (st : List Stmt) (is : List IS) : Prop := ∀ (ρ : Env) (μ : Mu) (σ : L2.St) (H F : Hp) (A : List Addr) (r : Fl × Mu) (D : Ends) (E : WX),
  Takes X E → SRel T μ H F A → ERel T ρ σ F A → exB Φ is ρ μ = some r → PostS T F A D E r → wB X st D σ H

section
variable {T : Tb} {Φ : Phi} {X : Cx} {pos : Pos} {a b c : Expr} {ia ib ic : IE}
theorem st_some {α : Type} {r : R α} {ρ : Env} {f : α → Mu → RS} {y : Fl × Mu} (h : r.st ρ f = some y) : (∃ d m, r = some (.er d m) ∧ y = (.xc d ρ, m)) ∨ ∃ a m, r = some (.ok a m) ∧ f a m = some y := by
  unfold R.st at h
  split at h
  · cases h
  · cases h
    exact .inl ⟨_, _, rfl, rfl⟩
  · exact .inr ⟨_, _, rfl, h⟩
/-- an expression of a statement, then more -/
theorem TyE.st (h : TyE T Φ X a ia) {f : W → Mu → RS} {r : Fl × Mu} {ρ : Env} {μ : Mu} {σ : L2.St} {H F : Hp} {A : List Addr} {Q : VK} {D : Ends} {E : WX}
    (tk : Takes X E) (s : SRel T μ H F A) (er : ERel T ρ σ F A) (e : (evE Φ ia ρ μ).st ρ f = some r) (p : PostS T F A D E r)
    (hQ : ∀ w μ1 v H1 F1 A1, Ext F A F1 A1 → SRel T μ1 H1 F1 A1 → ERel T ρ σ F1 A1 → RepW T F1 A1 w v → f w μ1 = some r → PostS T F1 A1 D E r → Q v H1) : wE X a σ H Q := by
  rcases st_some e with ⟨d, m, e1, rfl⟩ | ⟨w, m, e1, e2⟩
  · exact h ρ μ σ H F A _ Q E tk s er e1 fun cls dd H' F' A' x s' xr => p cls dd σ H' F' A' x s' (er.mono x) xr
  · exact h ρ μ σ H F A _ Q E tk s er e1 fun v H1 F1 A1 x s1 r1 => hQ w m v H1 F1 A1 x s1 (er.mono x) r1 e2 (p.mono x)
/-- an object that was just made -/
theorem TyF.st (h : TyF T Φ X a ia) {f : W → Mu → RS} {r : Fl × Mu} {ρ : Env} {μ : Mu} {σ : L2.St} {H F : Hp} {A : List Addr} {Q : VK} {D : Ends} {E : WX}
    (tk : Takes X E) (s : SRel T μ H F A) (er : ERel T ρ σ F A) (e : (evE Φ ia ρ μ).st ρ f = some r) (p : PostS T F A D E r) (hf : ∀ w m, (∀ d o, w = .d d → toO d ≠ some o) → f w m = none)
    (hQ : ∀ d o μ1 q H1 F1 A1, toO d = some o → Ext F A F1 A1 → SRel T μ1 H1 F1 A1 → ERel T ρ σ F1 A1 → q ∉ A1 → ObjRel T F1 H1 q o → f (.d d) μ1 = some r → PostS T F1 A1 D E r → Q (.ref q) H1) : wE X a σ H Q := by
  rcases st_some e with ⟨d, m, e1, rfl⟩ | ⟨w, m, e1, e2⟩
  · exact h ρ μ σ H F A _ Q E tk s er e1 fun cls dd H' F' A' x s' xr => p cls dd σ H' F' A' x s' (er.mono x) xr
  · cases w with
    | r k => rw [hf (.r k) m (fun d o z => nomatch z)] at e2; cases e2
    | d y =>
      cases ho : toO y with
      | none => rw [hf _ m (fun d o z q => by cases z; rw [ho] at q; cases q)] at e2; cases e2
      | some o =>
        refine h ρ μ σ H F A _ Q E tk s er e1 ?_
        show PostFd T F A Q m y (toO y)
        rw [ho]
        exact fun q H1 F1 A1 x s1 hA hO => hQ y o m q H1 F1 A1 ho x s1 (er.mono x) hA hO e2 (p.mono x)
/-- .. is an object of the store from now on -/
theorem SRel.adopt {μ : Mu} {H F : Hp} {A : List Addr} (s : SRel T μ H F A) {q : Addr} {o : O} (ho : ∀ x, o ≠ .fz x) (h2 : q ∉ A) (hO : ObjRel T F H q o) : SRel T (μ ++ [o]) H F (A ++ [q]) := by
  refine ⟨s.sub, by simp [s.len], ?_, fun a ha z => ?_, fun k a o' ha ho' => ?_⟩
  · rw [List.nodup_append]
    exact ⟨s.nod, by simp, fun a ha b hb => by
      have : b = q := by simpa using hb
      subst this
      exact fun z => h2 (z ▸ ha)⟩
  · rcases List.mem_append.mp ha with z' | z'
    · exact s.thr a z' z
    · have : a = q := by simpa using z'
      subst this
      obtain ⟨u, hu⟩ := hO.there ho
      rw [hu] at z
      cases z
  · by_cases hk : k < μ.length
    · rw [List.getElem?_append_left (by rw [s.len]; exact hk)] at ha
      rw [List.getElem?_append_left hk] at ho'
      exact s.obj k a o' ha ho'
    · have hk' : k = μ.length := by
        have := (List.getElem?_eq_some_iff.mp ho').1
        simp at this
        omega
      subst hk'
      rw [List.getElem?_append_right (Nat.le_refl _)] at ho'
      simp at ho'
      subst ho'
      rw [List.getElem?_append_right (by rw [s.len]; exact Nat.le_refl _), s.len] at ha
      simp at ha
      subst ha
      exact hO

/-- a new object, as an object of the store -/
theorem ty_newr (h : TyF T Φ X a ia) : TyE T Φ X a (.newr ia) := by
  intro ρ μ σ H F A r Q E tk s er e p
  simp only [evE] at e
  rcases bind_some e with ⟨d, m, e1, rfl⟩ | ⟨w, m, e1, e2⟩
  · exact h ρ μ σ H F A _ Q E tk s er e1 p
  · cases w with
    | r k => cases e2
    | d y =>
      simp only at e2
      split at e2
      · rename_i o ho
        cases e2
        refine h ρ μ σ H F A _ Q E tk s er e1 ?_
        show PostFd T F A Q m y (toO y)
        rw [ho]
        intro q H1 F1 A1 x s1 hA hO
        have s2 := s1.adopt (toO_ne ho) hA hO
        have x2 : Ext F1 A1 F1 (A1 ++ [q]) := ⟨Same.refl _, List.prefix_append _ _⟩
        exact p (.ref q) H1 F1 _ (x.trans x2) s2 ⟨q, by rw [← s1.len]; simp, rfl⟩
      · cases e2

/-! ### small statements -/
theorem ty_set {i : Nat} {x : Str} {p' : Pos} (hN : X.N.Nodup) (hi : X.N[i]? = some x) (hx : Loc X.env.scope x) (ha : TyE T Φ X a ia) (hs : swapsWith a (some (.Name x p')) pos.line X.env = pure false) (hf : X.fn x = true ∨ X.env.scope.names.lookup x = some .local) :
    TyS T Φ X (.Assign [.Name x p'] a pos) (.set (.one i) ia) := by
  intro ρ μ σ H F A r D E tk s er e p
  simp only [exS] at e
  refine wS_of (ps_set hN hi hx pe_w hs hf) (ha.st tk s er e p fun w μ1 v H1 F1 A1 x s1 er1 r1 e1 p1 => ?_)
  cases e1
  exact p1 _ H1 F1 A1 (.refl _ _) s1 (er1.set r1)
theorem ty_aug {i : Nat} {x : Str} {p' : Pos} {op : Operator} {o : Op} (hop : (op = .Add ∧ o = .add) ∨ (op = .Sub ∧ o = .sub)) (hN : X.N.Nodup) (hi : X.N[i]? = some x) (hx : Loc X.env.scope x) (ha : TyE T Φ X a ia) (hf : X.fn x = true ∨ X.env.scope.names.lookup x = some .local) :
    TyS T Φ X (.AugAssign (.Name x p') op a pos) (.aug i o ia) := by
  intro ρ μ σ H F A r D E tk s er e p
  simp only [exS] at e
  split at e
  · rename_i n hn
    obtain ⟨v0, hv0, r0⟩ := er.2 i _ hn
    have hv : v0 = .int n := by simpa only [RepW, Rep] using r0
    subst hv
    rcases hop with ⟨rfl, rfl⟩ | ⟨rfl, rfl⟩
    · refine wS_of (ps_aug hN hi hx pe_w ip_add hf) ⟨_, hv0, ha.st tk s er e p fun w μ1 v H1 F1 A1 x s1 er1 r1 e1 p1 => ?_⟩
      split at e1
      · rename_i b _
        have hw : v = .int b := by simpa only [RepW, Rep] using r1
        subst hw
        cases e1
        exact ⟨n, b, rfl, rfl, p1 _ H1 F1 A1 (.refl _ _) s1 (er1.set (w := .d (.int (n + b))) (by simp only [RepW, Rep]))⟩
      · rename_i b h2
        cases h2
      · cases e1
    · refine wS_of (ps_aug hN hi hx pe_w ip_sub hf) ⟨_, hv0, ha.st tk s er e p fun w μ1 v H1 F1 A1 x s1 er1 r1 e1 p1 => ?_⟩
      split at e1
      · rename_i b h2
        cases h2
      · rename_i b _
        have hw : v = .int b := by simpa only [RepW, Rep] using r1
        subst hw
        cases e1
        exact ⟨n, b, rfl, rfl, p1 _ H1 F1 A1 (.refl _ _) s1 (er1.set (w := .d (.int (n - b))) (by simp only [RepW, Rep]))⟩
      · cases e1
  · cases e
theorem ty_setm {i : Nat} {x : Str} {p' : Pos} (hN : X.N.Nodup) (hi : X.N[i]? = some x) (hx : Loc X.env.scope x) (ha : TyF T Φ X a ia) (hs : swapsWith a (some (.Name x p')) pos.line X.env = pure false) (hf : X.fn x = true ∨ X.env.scope.names.lookup x = some .local) :
    TyS T Φ X (.Assign [.Name x p'] a pos) (.setm i ia) := by
  intro ρ μ σ H F A r D E tk s er e p
  simp only [exS] at e
  refine wS_of (ps_set hN hi hx pe_w hs hf) (ha.st tk s er e p (fun w m hw => ?_) fun d o μ1 q H1 F1 A1 ho x s1 er1 hA hO e1 p1 => ?_)
  · cases w with
    | r k => rfl
    | d y => cases y <;> first | rfl | exact absurd rfl (hw _ _ rfl)
  · have s2 := s1.adopt (toO_ne ho) hA hO
    have x2 : Ext F1 A1 F1 (A1 ++ [q]) := ⟨Same.refl _, List.prefix_append _ _⟩
    have er2 := (er1.mono x2).set (i := i) (w := .r μ1.length) (v := .ref q) ⟨q, by rw [← s1.len]; simp, rfl⟩
    cases d <;> simp only [toO] at ho <;> first | (cases ho; done) | (cases ho; cases e1; exact p1 _ H1 F1 _ x2 s2 er2)
theorem ty_retm (ha : TyF T Φ X a ia) : TyS T Φ X (.Return (some a) pos) (.retm ia) := by
  intro ρ μ σ H F A r D E tk s er e p
  simp only [exS] at e
  refine wS_of (ps_ret pe_w) (ha.st tk s er e p (fun w m hw => ?_) fun d o μ1 q H1 F1 A1 ho x s1 er1 hA hO e1 p1 => ?_)
  · cases w with
    | r k => rfl
    | d y => cases y <;> first | rfl | exact absurd rfl (hw _ _ rfl)
  · have s2 := s1.adopt (toO_ne ho) hA hO
    have x2 : Ext F1 A1 F1 (A1 ++ [q]) := ⟨Same.refl _, List.prefix_append _ _⟩
    cases d <;> simp only [toO] at ho <;> first | (cases ho; done) | (cases ho; cases e1; done) | (cases ho; cases e1; exact p1 _ H1 F1 _ x2 s2 ⟨q, by rw [← s1.len]; simp, rfl⟩)
theorem ty_set2 {i j : Nat} {x y : Str} {px py pt pt2 : Pos} {kt k2 : Nat} (hc : X.calm = true) (hN : X.N.Nodup) (hi : X.N[i]? = some x) (hj : X.N[j]? = some y) (hij : i ≠ j) (hx : X.env.scope.names.lookup x = some .local) (hy : X.env.scope.names.lookup y = some .local)
    (ha : TyE T Φ X a ia) (hb : TyE T Φ X b ib) (he : starEach (a :: [b]) X.env = (false, eval a X.env) :: starEach [b] X.env) (he2 : starEach (b :: []) X.env = (false, eval b X.env) :: starEach [] X.env)
    (hw : swappedStores [.Tuple [.Name x px, .Name y py] kt pt] (.Tuple [a, b] k2 pt2) X.env = pure (some [x, y])) :
    TyS T Φ X (.Assign [.Tuple [.Name x px, .Name y py] kt pt] (.Tuple [a, b] k2 pt2) pos) (.set2 i j ia ib) := by
  intro ρ μ σ H F A r D E tk s er e p
  simp only [exS] at e
  refine wS_of (ps_par hc hN hi hj hij hx hy (pa_cons pe_w (pa_cons pe_w pa_nil he2) he) hw) (ha.st tk s er e p fun w μ1 v H1 F1 A1 x s1 er1 r1 e1 p1 => ?_)
  refine hb.st tk s1 er1 e1 p1 fun u μ2 v2 H2 F2 A2 x2 s2 er2 r2 e2 p2 => ?_
  cases e2
  exact ⟨v, v2, rfl, p2 _ H2 F2 A2 (.refl _ _) s2 ((er2.set (r1.mono x2)).set r2)⟩
theorem ty_set3 {i j l : Nat} {x y z : Str} {px py pz pt pt2 : Pos} {kt k2 : Nat} (hc : X.calm = true) (hN : X.N.Nodup) (hi : X.N[i]? = some x) (hj : X.N[j]? = some y) (hl : X.N[l]? = some z) (hij : i ≠ j) (hil : i ≠ l) (hjl : j ≠ l) (hx : X.env.scope.names.lookup x = some .local) (hy : X.env.scope.names.lookup y = some .local) (hz : X.env.scope.names.lookup z = some .local)
    (ha : TyE T Φ X a ia) (hb : TyE T Φ X b ib) (hcc : TyE T Φ X c ic) (he : starEach (a :: [b, c]) X.env = (false, eval a X.env) :: starEach [b, c] X.env) (he2 : starEach (b :: [c]) X.env = (false, eval b X.env) :: starEach [c] X.env) (he3 : starEach (c :: []) X.env = (false, eval c X.env) :: starEach [] X.env)
    (hw : swappedStores [.Tuple [.Name x px, .Name y py, .Name z pz] kt pt] (.Tuple [a, b, c] k2 pt2) X.env = pure (some [x, y, z])) :
    TyS T Φ X (.Assign [.Tuple [.Name x px, .Name y py, .Name z pz] kt pt] (.Tuple [a, b, c] k2 pt2) pos) (.set3 i j l ia ib ic) := by
  intro ρ μ σ H F A r D E tk s er e p
  simp only [exS] at e
  refine wS_of (ps_par3 hc hN hi hj hl hij hil hjl hx hy hz (pa_cons pe_w (pa_cons pe_w (pa_cons pe_w pa_nil he3) he2) he) hw) (ha.st tk s er e p fun w μ1 v H1 F1 A1 x s1 er1 r1 e1 p1 => ?_)
  refine hb.st tk s1 er1 e1 p1 fun u μ2 v2 H2 F2 A2 x2 s2 er2 r2 e2 p2 => ?_
  refine hcc.st tk s2 er2 e2 p2 fun u3 μ3 v3 H3 F3 A3 x3 s3 er3 r3 e3 p3 => ?_
  cases e3
  exact ⟨v, v2, v3, rfl, p3 _ H3 F3 A3 (.refl _ _) s3 (((er3.set (r1.mono (x2.trans x3))).set (r2.mono x3)).set r3)⟩
theorem ty_expr (ha : TyE T Φ X a ia) (hs : swapsWith a none pos.line X.env = pure false) : TyS T Φ X (.Expr a pos) (.expr ia) := by
  intro ρ μ σ H F A r D E tk s er e p
  simp only [exS] at e
  refine wS_of (ps_expr pe_w hs) (ha.st tk s er e p fun w μ1 v H1 F1 A1 x s1 er1 r1 e1 p1 => ?_)
  cases e1
  exact p1 σ H1 F1 A1 (.refl _ _) s1 er1
theorem ty_ret (ha : TyE T Φ X a ia) : TyS T Φ X (.Return (some a) pos) (.ret ia) := by
  intro ρ μ σ H F A r D E tk s er e p
  simp only [exS] at e
  refine wS_of (ps_ret pe_w) (ha.st tk s er e p fun w μ1 v H1 F1 A1 x s1 er1 r1 e1 p1 => ?_)
  cases e1
  exact p1 v H1 F1 A1 (.refl _ _) s1 r1
theorem ty_retN : TyS T Φ X (.Return none pos) .retN := by
  intro ρ μ σ H F A r D E tk s er e p
  simp only [exS] at e
  cases e
  exact wS_of ps_retN (p .non H F A (.refl _ _) s (by simp only [RepW, Rep]))
theorem ty_brk : TyS T Φ X (.Break pos) .brk := by
  intro ρ μ σ H F A r D E tk s er e p
  simp only [exS] at e
  cases e
  exact wS_of ps_break (p σ H F A (.refl _ _) s er)
theorem ty_cont : TyS T Φ X (.Continue pos) .cont := by
  intro ρ μ σ H F A r D E tk s er e p
  simp only [exS] at e
  cases e
  exact wS_of ps_continue (p σ H F A (.refl _ _) s er)
/-- o[i] = v -/
theorem nodup_snoc {α : Type} {l : List α} {x : α} (h : l.Nodup) (hx : x ∉ l) : (l ++ [x]).Nodup := by
  rw [List.nodup_append]
  exact ⟨h, by simp, fun a ha b hb => by
    have : b = x := by simpa using hb
    subst this
    exact fun z => hx (z ▸ ha)⟩
def rSetLD : V → V → V → Hp → (Hp → Prop) → Prop := fun o i v H Q => rSetL o i v H Q ∨ rSetD o i v H Q
theorem set_ld (hu : X.A.units + 1 < cLine) : PSet X rSetLD := by
  intro pins s σ H x y z o i u Q I rx ry rz h
  rcases h with h | h
  · exact set_list pins s σ H x y z o i u Q I rx ry rz h
  · exact set_dict hu pins s σ H x y z o i u Q I rx ry rz h
theorem ty_setix {pos' : Pos} {o i v : Expr} {io ii iv : IE} (hu : X.A.units + 1 < cLine) (ho : TyE T Φ X o io) (hi : TyE T Φ X i ii) (hv : TyE T Φ X v iv)
    (h1 : ∀ u, assign (.Subscript o i pos') X.env u = (do
      let ov ← holding [u] (eval o X.env)
      let iv ← holding [u, ov] (eval i X.env)
      standAt pos'
      holding [u, ov, iv] (setItem ov iv u)
      release [u, ov, iv] []))
    (hs : swapsWithSole [.Subscript o i pos'] v pos.line X.env = pure false) (hw : swappedStores [.Subscript o i pos'] v X.env = pure none) (h3 : (assignEach [.Subscript o i pos'] X.env).map (·.2) = [assign (.Subscript o i pos') X.env]) :
    TyS T Φ X (.Assign [.Subscript o i pos'] v pos) (.setix io ii iv) := by
  intro ρ μ σ H F A r D E tk s er e p
  simp only [exS] at e
  refine wS_of (ps_asg pe_w (pg_sub pe_w pe_w (set_ld hu) h1) hs hw h3) (hv.st tk s er e p fun wv μ1 vv H1 F1 A1 x1 s1 er1 r1 e1 p1 => ?_)
  refine ho.st tk s1 er1 e1 p1 fun wo μ2 vo H2 F2 A2 x2 s2 er2 r2 e2 p2 => ?_
  refine hi.st tk s2 er2 e2 p2 fun wi μ3 vi H3 F3 A3 x3 s3 er3 r3 e3 p3 => ?_
  cases wo with
  | d y => cases e3
  | r k =>
    simp only at e3
    split at e3
    · cases e3
    · rename_i y μ4 hd
      obtain ⟨F4, s4, sb4, rp4⟩ := s3.toD (r1.mono (x2.trans x3)) hd
      split at e3
      · rename_i xs j hxs
        split at e3
        · rename_i n hn
          cases e3
          obtain ⟨ad, hA, rfl⟩ := r2.mono x3
          obtain ⟨hF, vs, hH, rvs⟩ := s4.obj k ad _ hA hxs
          simp only [RepW, Rep] at r3
          subst r3
          refine .inl ⟨ad, vs, j, n, rfl, rfl, hH, by rw [← rvs.len]; exact hn, ?_⟩
          have s5 := s4.write (o := .lst (vs.set n vv)) (ob' := .lst (xs.set n y)) hA hxs (fun x z => nomatch z) ⟨hF, _, upd_same, rvs.set n rp4⟩
          have x4 : Ext F3 A3 F4 A3 := ⟨sb4, List.prefix_refl _⟩
          exact p3 σ _ F4 A3 x4 s5 (er3.mono x4)
        · cases e3
      · rename_i t ks ds xk hxs
        obtain ⟨ad, hA, rfl⟩ := r2.mono x3
        obtain ⟨hF, vs, rvs, dh⟩ := s4.obj k ad _ hA hxs
        have r3' : Rep T F4 xk vi := Rep.mono sb4 _ _ r3
        have x4 : Ext F3 A3 F4 A3 := ⟨sb4, List.prefix_refl _⟩
        have hl := dh.len
        split at e3
        · rename_i n hn
          split at e3
          rotate_left
          · cases e3
          rename_i hzz
          cases e3
          have hlt := kFind_lt hn
          refine .inr ⟨ad, ?_⟩
          cases t with
          | true =>
            obtain ⟨kl, k1, k2, k3, k4⟩ := dh
            simp only [kFind] at hn
            obtain ⟨kx, hk, hn'⟩ := Option.map_eq_some_iff.mp hn
            obtain ⟨b, rfl, hb⟩ := rep_keyT hk r3'
            rw [find_keysT k1] at hn'
            have s5 := s4.write (o := .dT (kl.zip (vs.set n vv))) (ob' := .dic true ks (ds.set n y)) hA hxs (fun x z => nomatch z) ⟨hF, _, rvs.set n rp4, kl, k1, by rw [List.length_set]; exact k2, k3, upd_same⟩
            refine ⟨_, rfl, .inr ⟨_, kx, b, k4, rfl, s4.sub _ _ hb, ?_, rfl⟩, ?_⟩
            · rw [List.length_zip, ← k2, Nat.min_self, keysT_len k1]
              exact Nat.lt_of_lt_of_le hzz (by decide)
            · rw [putK_at k3 k2 hn']
              exact p3 σ _ F4 A3 x4 s5 (er3.mono x4)
          | false =>
            obtain ⟨kl, k1, k2, k3, k4⟩ := dh
            simp only [kFind] at hn
            obtain ⟨kx, hk, hn'⟩ := Option.map_eq_some_iff.mp hn
            have ev := rep_keyD hk r3'
            subst ev
            rw [find_keysD k1] at hn'
            have s5 := s4.write (o := .dK (kl.zip (vs.set n vv))) (ob' := .dic false ks (ds.set n y)) hA hxs (fun x z => nomatch z) ⟨hF, _, rvs.set n rp4, kl, k1, by rw [List.length_set]; exact k2, k3, upd_same⟩
            refine ⟨_, rfl, .inl ⟨_, kx, k4, rfl, ?_, rfl⟩, ?_⟩
            · rw [List.length_zip, ← k2, Nat.min_self, keysD_len k1]
              exact Nat.lt_of_lt_of_le hzz (by decide)
            · rw [putK_at k3 k2 hn']
              exact p3 σ _ F4 A3 x4 s5 (er3.mono x4)
        · rename_i hn
          split at e3
          · rename_i hz
            cases e3
            refine .inr ⟨ad, ?_⟩
            cases t with
            | true =>
              obtain ⟨kl, k1, k2, k3, k4⟩ := dh
              simp only [kFind] at hn
              obtain ⟨kx, hk, hn'⟩ := Option.map_eq_some_iff.mp hn
              obtain ⟨b, rfl, hb⟩ := rep_keyT hk r3'
              rw [find_keysT k1] at hn'
              have s5 := s4.write (o := .dT ((kl ++ [kx]).zip (vs ++ [vv]))) (ob' := .dic true (ks ++ [xk]) (ds ++ [y])) hA hxs (fun x z => nomatch z) ⟨hF, _, rvs.app (.cons rp4 .nil), kl ++ [kx], keysT_snoc hk k1, by simp [k2], nodup_snoc k3 (find_none hn'), upd_same⟩
              refine ⟨_, rfl, .inr ⟨_, kx, b, k4, rfl, s4.sub _ _ hb, ?_, rfl⟩, ?_⟩
              · rw [List.length_zip, ← k2, Nat.min_self, keysT_len k1]
                exact Nat.lt_of_lt_of_le hz (by decide)
              · rw [putK_end k2 hn']
                exact p3 σ _ F4 A3 x4 s5 (er3.mono x4)
            | false =>
              obtain ⟨kl, k1, k2, k3, k4⟩ := dh
              simp only [kFind] at hn
              obtain ⟨kx, hk, hn'⟩ := Option.map_eq_some_iff.mp hn
              have ev := rep_keyD hk r3'
              subst ev
              rw [find_keysD k1] at hn'
              have s5 := s4.write (o := .dK ((kl ++ [kx]).zip (vs ++ [vv]))) (ob' := .dic false (ks ++ [xk]) (ds ++ [y])) hA hxs (fun x z => nomatch z) ⟨hF, _, rvs.app (.cons rp4 .nil), kl ++ [kx], keysD_snoc hk k1, by simp [k2], nodup_snoc k3 (find_none hn'), upd_same⟩
              refine ⟨_, rfl, .inl ⟨_, kx, k4, rfl, ?_, rfl⟩, ?_⟩
              · rw [List.length_zip, ← k2, Nat.min_self, keysD_len k1]
                exact Nat.lt_of_lt_of_le hz (by decide)
              · rw [putK_end k2 hn']
                exact p3 σ _ F4 A3 x4 s5 (er3.mono x4)
          · cases e3
        · cases e3
      · cases e3
/-- o.append(v) -/
theorem ty_app {apos cpos : Pos} {o v : Expr} {io iv : IE} (ho : TyE T Φ X o io) (hv : TyE T Φ X v iv) (hs : swapsWith (.Call (.Attribute o "append" apos) [v] [] cpos) none pos.line X.env = pure false)
    (hpe : ∀ {r : V → List V → Hp → VK → Prop} {to : TE} {t : TA}, MtR X "list.append" r → PE X o to → PA X [v] t → PE X (.Call (.Attribute o "append" apos) [v] [] cpos) (tBM X.K "list" r to t)) (he : starEach (v :: []) X.env = (false, eval v X.env) :: starEach [] X.env) :
    TyS T Φ X (.Expr (.Call (.Attribute o "append" apos) [v] [] cpos) pos) (.app io iv) := by
  intro ρ μ σ H F A r D E tk s er e p
  simp only [exS] at e
  refine wS_of (ps_expr (hpe mt_append pe_w (pa_cons pe_w pa_nil he)) hs) (ho.st tk s er e p fun wo μ1 vo H1 F1 A1 x1 s1 er1 r1 e1 p1 => ?_)
  cases wo with
  | d y => cases e1
  | r k =>
    simp only at e1
    split at e1
    · rename_i xs0 hx0
      obtain ⟨ad, hA, rfl⟩ := r1
      obtain ⟨_, vs0, hH0, _⟩ := s1.obj k ad _ hA hx0
      refine ⟨.inl ⟨rfl, vs0, .of hH0⟩, ?_⟩
      refine hv.st tk s1 er1 e1 p1 fun u μ2 v2 H2 F2 A2 x2 s2 er2 r2 e2 p2 => ?_
      split at e2
      · cases e2
      · rename_i y μ3 hd
        obtain ⟨F3, s3, sb3, rp3⟩ := s2.toD r2 hd
        split at e2
        · rename_i xs hxs
          split at e2
          · rename_i hz
            cases e2
            obtain ⟨B, rfl⟩ := x2.pre
            have hA2 : (A1 ++ B)[k]? = some ad := by rw [List.getElem?_append_left (List.getElem?_eq_some_iff.mp hA).1]; exact hA
            obtain ⟨hF, vs, hH, rvs⟩ := s3.obj k ad _ hA2 hxs
            refine ⟨ad, vs, v2, rfl, rfl, hH, by rw [← rvs.len]; exact Nat.lt_of_lt_of_le hz (by decide), ?_⟩
            have s5 := s3.write (o := .lst (vs ++ [v2])) (ob' := .lst (xs ++ [y])) hA2 hxs (fun x z => nomatch z) ⟨hF, _, upd_same, rvs.app (.cons rp3 .nil)⟩
            have x4 : Ext F2 (A1 ++ B) F3 (A1 ++ B) := ⟨sb3, List.prefix_refl _⟩
            exact p2 σ _ F3 _ x4 s5 (er2.mono x4)
          · cases e2
        · cases e2
    · cases e1

/-! ### blocks, if, for, while -/
theorem tb_nil : TyBl T Φ X [] [] := by
  intro ρ μ σ H F A r D E tk s er e p
  simp only [exB] at e
  cases e
  exact wB_of pss_nil (p σ H F A (.refl _ _) s er)
theorem tb_cons {st : Stmt} {rest : List Stmt} {is : IS} {irest : List IS} (h : TyS T Φ X st is) (t : TyBl T Φ X rest irest) : TyBl T Φ X (st :: rest) (is :: irest) := by
  intro ρ μ σ H F A r D E tk s er e p
  simp only [exB] at e
  refine wB_of (pss_cons ps_w pb_w) ?_
  cases hs : exS Φ is ρ μ with
  | none => rw [hs] at e; cases e
  | some q =>
    obtain ⟨fl, m⟩ := q
    rw [hs] at e
    refine h ρ μ σ H F A _ { D with nx := wB X rest D } E tk s er hs ?_
    cases fl with
    | nx ρ1 => exact fun σ' H' F' A' x s' er' => t ρ1 m σ' H' F' A' r D E tk s' er' e (p.mono x)
    | bk ρ1 => cases e; exact p
    | ct ρ1 => cases e; exact p
    | rt w => cases e; exact p
    | xc d ρ1 => cases e; exact p
theorem ty_if {bt be : List Stmt} {it ie : List IS} (hc : TyB T Φ X c ic) (ha : TyBl T Φ X bt it) (hb : TyBl T Φ X be ie) : TyS T Φ X (.If c bt be pos) (.ife ic it ie) := by
  intro ρ μ σ H F A r D E tk s er e p
  have e' : (evB Φ ic ρ μ).st ρ (fun k μ1 => if k = true then exB Φ it ρ μ1 else exB Φ ie ρ μ1) = some r := by
    rw [← e]
    unfold evB
    simp only [exS]
    cases evE Φ ic ρ μ with
    | none => rfl
    | some x1 =>
      cases x1 with
      | er d m => rfl
      | ok w m =>
        simp only [R.bind, R.st]
        cases hk : (view m w).bind truth with
        | none => rfl
        | some k => cases k <;> simp [R.of]
  refine wS_of (ps_if pt_w pb_w pb_w) ?_
  rcases st_some e' with ⟨d, m, e1, rfl⟩ | ⟨k, m, e1, e2⟩
  · exact hc ρ μ σ H F A _ _ E tk s er e1 fun cls dd H' F' A' x s' xr => p cls dd σ H' F' A' x s' (er.mono x) xr
  · refine hc ρ μ σ H F A _ _ E tk s er e1 fun v H1 F1 A1 x s1 ev => ?_
    subst ev
    cases k with
    | true => rw [if_pos rfl] at e2 ⊢; exact ha ρ m σ H1 F1 A1 r D E tk s1 (er.mono x) e2 (p.mono x)
    | false => rw [if_neg Bool.false_ne_true] at e2 ⊢; exact hb ρ m σ H1 F1 A1 r D E tk s1 (er.mono x) e2 (p.mono x)
theorem TyI.st {tg iter : Expr} {it : IT} (h : TyI T Φ X tg iter it) {f : List PI.D → Mu → RS} {r : Fl × Mu} {ρ : Env} {μ : Mu} {σ : L2.St} {H F : Hp} {A : List Addr} {Q : It → Hp → Prop} {D : Ends} {E : WX}
    (tk : Takes X E) (s : SRel T μ H F A) (er : ERel T ρ σ F A) (e : (evT Φ it ρ μ).st ρ f = some r) (p : PostS T F A D E r)
    (hQ : ∀ xs μ1 J H1 F1 A1, Ext F A F1 A1 → SRel T μ1 H1 F1 A1 → ERel T ρ σ F1 A1 → WalkD T F1 J xs → f xs μ1 = some r → PostS T F1 A1 D E r → Q J H1) : wI X tg iter σ H Q := by
  rcases st_some e with ⟨d, m, e1, rfl⟩ | ⟨w, m, e1, e2⟩
  · exact h ρ μ σ H F A _ Q E tk s er e1 fun cls dd H' F' A' x s' xr => p cls dd σ H' F' A' x s' (er.mono x) xr
  · exact h ρ μ σ H F A _ Q E tk s er e1 fun v H1 F1 A1 x s1 r1 => hQ w m v H1 F1 A1 x s1 (er.mono x) r1 e2 (p.mono x)
theorem ty_for {tg iter : Expr} {it : IT} {t : Tg} {body : List Stmt} {ib : List IS} (hp : PassesOwn (model X.prog X.w) X.A X.env X.xe) (hK : X.K = T.K) (hc : X.calm = true) (hi : TyI T Φ X tg iter it) (hg : PG X tg (gT X.K t)) (hb : TyBl T Φ X body ib) (hs : ∀ x, foldedSetIterable iter X.env x = pure x) :
    TyS T Φ X (.For tg iter body [] pos) (.for_ t it ib) := by
  intro ρ μ σ H F A r D E tk s er e p
  simp only [exS] at e
  refine wS_of (ps_for hp hc pi_w hg pb_w hs) (hi.st tk s er e p fun xs μ1 J H1 F1 A1 x1 s1 er1 wk e1 p1 => ?_)
  refine ⟨fun i m σ' H' => m = xs.length - i ∧ i ≤ xs.length ∧ ∃ ρ' μ' F' A', Ext F1 A1 F' A' ∧ SRel T μ' H' F' A' ∧ ERel T ρ' σ' F' A' ∧ lop _ (xs.drop i) ρ' μ' = some r, ⟨_, rfl, Nat.zero_le _, ρ, μ1, F1, A1, .refl _ _, s1, er1, by rw [List.drop_zero]; exact e1⟩, ?_⟩
  rintro i m σ' H' ⟨rfl, hle, ρ', μ', F', A', x', s', er', hl⟩
  by_cases hlt : i < xs.length
  · refine .inr ⟨wk.goes i H' hlt (x'.sub.trans s'.sub), _, fun σ'' H'' z => ⟨xs.length - (i + 1), by omega, rfl, by omega, z⟩, fun v H2 hy => ?_⟩
    obtain ⟨d, F2, hd, g2, rd⟩ := wk.yields i H' F' v H2 hlt x'.sub s'.sub hy
    have s2 := g2.srel s'
    have x2 : Ext F1 A1 F2 A' := ⟨x'.sub.trans g2.fs, x'.pre⟩
    have er2 := er'.mono (g2.ext A')
    have hdrop : xs.drop i = d :: xs.drop (i + 1) := by
      have hg' : xs[i] = d := by
        rw [List.getElem?_eq_getElem hlt] at hd
        exact Option.some.inj hd
      rw [← hg']
      exact List.drop_eq_getElem_cons hlt
    rw [hdrop] at hl
    unfold lop at hl
    cases hput : t.put d ρ' with
    | none => rw [hput] at hl; cases hl
    | some ρ1 =>
      rw [hput] at hl
      refine gT_ok hput rd s2.sub er2 hK fun σ3 er3 _ => ?_
      dsimp only at hl
      cases hx : exB Φ ib ρ1 μ' with
      | none => rw [hx] at hl; cases hl
      | some q =>
        obtain ⟨fl, m2⟩ := q
        rw [hx] at hl
        refine hb ρ1 μ' σ3 H2 F2 A' _ _ E tk s2 er3 hx ?_
        cases fl with
        | nx ρ2 => exact fun σ4 H4 F4 A4 x4 s4 er4 => ⟨ρ2, m2, F4, A4, x2.trans x4, s4, er4, hl⟩
        | ct ρ2 => exact fun σ4 H4 F4 A4 x4 s4 er4 => ⟨ρ2, m2, F4, A4, x2.trans x4, s4, er4, hl⟩
        | bk ρ2 => cases hl; exact fun σ4 H4 F4 A4 x4 s4 er4 => p1 σ4 H4 F4 A4 (x2.trans x4) s4 er4
        | rt w => cases hl; exact fun v4 H4 F4 A4 x4 s4 r4 => p1 v4 H4 F4 A4 (x2.trans x4) s4 r4
        | xc dd ρ2 => cases hl; exact fun c4 d4 σ4 H4 F4 A4 x4 s4 er4 xr => p1 c4 d4 σ4 H4 F4 A4 (x2.trans x4) s4 er4 xr
  · have hi' : i = xs.length := by omega
    subst hi'
    refine .inl ⟨wk.stops H' (x'.sub.trans s'.sub), ?_⟩
    rw [List.drop_length] at hl
    simp only [lop] at hl
    cases hl
    exact p1 σ' H' F' A' x' s' er'
theorem ty_while {body : List Stmt} {ib : List IS} (hp : PassesOwn (model X.prog X.w) X.A X.env X.xe) (hc : TyB T Φ X c ic) (hb : TyBl T Φ X body ib) : TyS T Φ X (.While c body [] pos) (.while_ ic ib) := by
  intro ρ μ σ H F A r D E tk s er e p
  simp only [exS] at e
  refine wS_of (ps_while hp pt_w pb_w) ?_
  refine ⟨fun n σ' H' => ∃ ρ' μ' F' A', Ext F A F' A' ∧ SRel T μ' H' F' A' ∧ ERel T ρ' σ' F' A' ∧ whl _ n ρ' μ' = some r, ⟨1000000, ρ, μ, F, A, .refl _ _, s, er, e⟩, ?_⟩
  rintro n σ' H' ⟨ρ', μ', F', A', x', s', er', hl⟩
  cases n with
  | zero => simp only [whl] at hl; cases hl
  | succ n =>
    unfold whl at hl
    cases hE : evE Φ ic ρ' μ' with
    | none => rw [hE] at hl; cases hl
    | some x1 =>
      rw [hE] at hl
      cases x1 with
      | er d m =>
        dsimp only at hl
        cases hl
        have hB : evB Φ ic ρ' μ' = some (.er d m) := by unfold evB; rw [hE]; rfl
        exact hc ρ' μ' σ' H' F' A' _ _ E tk s' er' hB fun cls dd H2 F2 A2 x2 s2 xr => p cls dd σ' H2 F2 A2 (x'.trans x2) s2 (er'.mono x2) xr
      | ok w m =>
        dsimp only at hl
        cases hk : (view m w).bind truth with
        | none => rw [hk] at hl; cases hl
        | some k =>
          rw [hk] at hl
          have hB : evB Φ ic ρ' μ' = some (.ok k m) := by unfold evB; rw [hE]; simp [R.bind, hk, R.of]
          refine hc ρ' μ' σ' H' F' A' _ _ E tk s' er' hB fun v H2 F2 A2 x2 s2 ev => ?_
          subst ev
          cases k with
          | false =>
            rw [if_neg Bool.false_ne_true]
            dsimp only at hl
            cases hl
            exact p σ' H2 F2 A2 (x'.trans x2) s2 (er'.mono x2)
          | true =>
            rw [if_pos rfl]
            dsimp only at hl
            cases hx : exB Φ ib ρ' m with
            | none => rw [hx] at hl; cases hl
            | some q =>
              obtain ⟨fl, m2⟩ := q
              rw [hx] at hl
              refine ⟨_, fun σ4 H4 z => ⟨n, Nat.lt_succ_self n, z⟩, hb ρ' m σ' H2 F2 A2 _ _ E tk s2 (er'.mono x2) hx ?_⟩
              cases fl with
              | nx ρ2 => exact fun σ4 H4 F4 A4 x4 s4 er4 => ⟨ρ2, m2, F4, A4, (x'.trans x2).trans x4, s4, er4, hl⟩
              | ct ρ2 => exact fun σ4 H4 F4 A4 x4 s4 er4 => ⟨ρ2, m2, F4, A4, (x'.trans x2).trans x4, s4, er4, hl⟩
              | bk ρ2 => cases hl; exact fun σ4 H4 F4 A4 x4 s4 er4 => p σ4 H4 F4 A4 ((x'.trans x2).trans x4) s4 er4
              | rt w => cases hl; exact fun v4 H4 F4 A4 x4 s4 r4 => p v4 H4 F4 A4 ((x'.trans x2).trans x4) s4 r4
              | xc dd ρ2 => cases hl; exact fun c4 d4 σ4 H4 F4 A4 x4 s4 er4 xr => p c4 d4 σ4 H4 F4 A4 ((x'.trans x2).trans x4) s4 er4 xr
end
end PI
/-! PI14: exceptions as values, over the hand layer. -/
namespace PI
open PySem PySem.Spec PyProof.Rows L2

theorem exAt_ok {P : Program} {w : World} {H : Hp} {h : Heap} {a : Addr} {cls : Value} {d : Option Addr} {oe : Obj} {vs : Array Value} (e : h.get? a = some oe) (z : Zc cls d oe) (q : oe.data = .fields vs) : ObjOk P w H h a (exAt a cls d) :=
  ⟨⟨oe, vs, e, z, q⟩, ⟨oe, e⟩, fun _ _ ⟨o, v, y, r⟩ k => ⟨o, v, k o y, r⟩⟩
theorem exAt_at {P : Program} {w : World} {H : Hp} {h : Heap} {a : Addr} {cls : Value} {d : Option Addr} (hok : HOk P w H h) (e : H a = some (exAt a cls d)) : ∃ (oe : Obj) (vs : Array Value), h.get? a = some oe ∧ Zc cls d oe ∧ oe.data = .fields vs :=
  (hok a _ e).1
section
variable {X : Cx} {pins : List (Addr × Obj)} {σ : L2.St} {H : Hp} {s s' : Shared}
/-- an object that the heap has and the abstract heap hasn't, of ours: it may be tracked -/
theorem inv_lay {a : Addr} {o : HO} (I : Inv X pins σ H s) (k : ∀ b u, s.heap.get? b = some u → s'.heap.get? b = some u) (hp : s.heap.get? a = none) (hn : H a = none) (ho : s'.os = s.os) (hg : AllBare s'.gens) (new : ObjOk X.prog X.w (upd H a o) s'.heap a o) :
    Inv X pins σ (upd H a o) s' := I.call' (ch := []) ho (Un.laidN k hp hn) (I.hok.laidN k hn new) hg (fun b z => absurd z (by simp))
theorem pe_exv {e : Expr} {t : L2.St → Hp → XK → Prop} (h : PMk X e t) : PE X e (fun σ H Q => t σ H fun cls d H' => ∀ a, H' a = none → Q (.ref a) (upd H' a (exAt a cls d))) := by
  refine ⟨fun pins s σ H Q I q => wpAny_mono (h pins s σ H _ I q) (fun u s1 hu => ?_) fun _ _ x => x⟩
  obtain ⟨a, oe, vs, sI, H', cls, d, rfl, J, k, ne, he, hz, hd, h1, na, os, ag, _, q'⟩ := hu
  exact ⟨.ref a, _, inv_lay J k ne na os ag (exAt_ok he hz hd), rfl, q' a na⟩
end

/-- a field of it -/
def tXv (f : Str) (te : TE) (K : PySem.W.Frag) : TE := fun σ H Q => te σ H fun x H1 => ∃ (a C dd : Addr) (fs : List (Str × V)) (v : V), x = .ref a ∧ XfC K C ∧ PySem.W.findIn K (.ref C) f = some none ∧ H1 a = some (exAt a (.ref C) (some dd)) ∧ H1 dd = some (.xd fs) ∧ fs.lookup f = some v ∧ Q v H1
theorem pe_xv {X : Cx} {e : Expr} {te : TE} {pos : Pos} {n : Str} (he : PE X e te) (hb : attributeBase e n X.env (eval e X.env) = eval e X.env) : PE X (.Attribute e n pos) (tXv n te X.K) := by
  refine ⟨fun pins s σ H Q I h => attr_of hb (thn (he.run pins s σ H _ I h) fun u s1 hh => ?_)⟩
  obtain ⟨x, H1, I1, rx, a, C, dd, fs, v, ex, T, hno, hx, hd, l, q⟩ := hh
  cases ex
  cases (show u = Value.ref a from rx)
  obtain ⟨oe, vs, ha, hz, hv⟩ := exAt_at I1.hok hx
  obtain ⟨mA, hns, hr⟩ := (show ObjOk X.prog X.w H1 s1.heap dd (.xd fs) from I1.hok dd _ hd)
  obtain ⟨od, ho, hl⟩ := lookIn_ns hns
  obtain ⟨u, hu, ru⟩ := RelO.some_of (v := v) (o := mA n) (by rw [← l]; exact hr n)
  refine HandSPX.exc_get I1.kIn (od := some od) (ox := oe) ⟨ha, hz.1, ?_, ?_⟩ T.ga T.gg T.exC (PySem.W.findObj_own T.hdC hno rfl (by rw [hl, hu])) (handed_of ru) ⟨v, H1, I1.tok _, ru, q⟩
  · unfold PySem.W.notCls
    rw [hv] <;> rfl
  · rw [hz.2]
    exact ho

/-- isinstance of it -/
theorem exc_kitX {K : PySem.W.Frag} {C a : Addr} {od : Option Obj} (T : ExcC K C) : PySem.W.KitX K (.ref a) (.ref C) (fun h => ∃ ox, PySem.W.InstAt h a ox C od) := by
  have hc : (PySem.W.clsIn K C).isSome = true := by
    obtain ⟨cd, hc, _⟩ := PySem.W.any_some T.hd
    rw [hc]
    rfl
  have Z := fun ox => PySem.W.kitx_exc (x := a) (ox := ox) (od := od) hc T.hg T.hk T.hs T.ha T.hn T.ht T.hm
  exact ⟨fun M h X ⟨ox, q⟩ => (Z ox).ty M h X q, fun M h X ⟨ox, q⟩ => (Z ox).it M h X q, (Z default).ne, fun X ⟨ox, q⟩ k => (Z ox).ca X q k⟩
theorem exc_inst {X : Cx} {pins : List (Addr × Obj)} {σ : L2.St} {H : Hp} {s : Shared} {a C : Addr} {d : Option Addr} (I : Inv X pins σ H s) (ha : H a = some (exAt a (.ref C) d)) (hd : ∀ dd, d = some dd → ∃ fs, H dd = some (.xd fs)) : ∃ od ox, PySem.W.InstAt s.heap a ox C od := by
  obtain ⟨oe, vs, h1, hz, hv⟩ := exAt_at I.hok ha
  have nc : PySem.W.notCls oe = true := by
    unfold PySem.W.notCls
    rw [hv] <;> rfl
  cases d with
  | none => exact ⟨none, oe, h1, hz.1, nc, by rw [hz.2]; trivial⟩
  | some dd =>
    obtain ⟨fs, hf⟩ := hd dd rfl
    obtain ⟨mA, hns, hr⟩ := (show ObjOk X.prog X.w H s.heap dd (.xd fs) from I.hok dd _ hf)
    obtain ⟨od, ho, hl⟩ := lookIn_ns hns
    exact ⟨some od, oe, h1, hz.1, nc, by rw [hz.2]; exact ho⟩
theorem call_isX {X : Cx} {pins : List (Addr × Obj)} {σ : L2.St} {H : Hp} {s : Shared} {a C : Addr} {d : Option Addr} {c : V} {b : Bool} {u cv : Value} {Q : VK} (T : ExcC X.K C) (I : Inv X pins σ H s) (ha : H a = some (exAt a (.ref C) d)) (hd : ∀ dd, d = some dd → ∃ fs, H dd = some (.xd fs))
    (e : PySem.W.kitOne X.K (.ref C) cv = some b) (q : Q (.bl b) H) : wpAny (model X.prog X.w) X.A (call (.builtin "isinstance") [.ref a, cv]) (EP X pins σ Q) X.xe s := by
  obtain ⟨od, ox, J⟩ := exc_inst I ha hd
  exact PySem.W.kia_one (exc_kitX T) I.kIn ⟨ox, J⟩ e (fun z => nomatch z) fun tk => ⟨.bl b, H, I.tok tk, rfl, q⟩
end PI
/-! PI15: an own error made with keywords. -/
namespace PI
open PySem PySem.Spec PyProof.Rows L2
namespace Kwx
open PySem.Calls PySem.HandSPX
section
variable {M : Model} {prog : Program} {w : World} {A : Around} {E : Value → Shared → Prop} {R : Result → Shared → Prop} {hp : Heap} {gs : Array GenState} {dr : Drawn} {tk : Nat} {os : OsState}
variable {cn qn : Str} {C N : Addr} {bs bm bmB : List Value} {hdct : Bool} {sn : List Str} {sub : List Value} {ab : Bool} {col : Option Bool} {dd : Option Addr} {k0 k1 k2 k3 k5 : Option Value} {B newId initId : String}
abbrev clsO (cn qn : Str) (C N : Addr) (bs bm : List Value) (hdct : Bool) (sn : List Str) (sub : List Value) (ab : Bool) (col : Option Bool) (dd : Option Addr) (k0 k1 k2 k3 k5 : Option Value) (newId : String) : Obj := excClassObj cn qn C N bs bm hdct sn sub ab col dd k0 k1 k2 k3 k5 newId

theorem check_new (F : ExcBaseFacts B newId initId bmB) (hT : ∀ X : String, bm.contains (.type X) = bmB.contains (.type X)) {us : List Value} {kw : List (Str × Value)} {Q : Unit → Shared → Prop}
    (gC : hp.get? C = some (clsO cn qn C N bs bm hdct sn sub ab col dd k0 k1 k2 k3 k5 newId)) (q : Q () ⟨hp, gs, dr, tk, os⟩) : wpAny M A (checkBuiltinCall newId ⟨.ref C :: us, kw⟩) Q E ⟨hp, gs, dr, tk, os⟩ := by
  have in1 : (Value.ref C :: bm).contains (.type B) = true := by
    rw [List.contains_cons, hT, F.hasB]
    exact Bool.or_true _
  have st := F.noStar
  simp only [checkBuiltinCall, F.newKind, F.newSplit, F.newRow]
  repeat (first
    | refine wpAny_loadPart_at gC ?_
    | (refine wpAny_isSubtype_exc gC ?_
       rw [in1])
    | refine wpAny_staticBase_exc gC ?_
    | refine wpAny_madeBy_exc gC ?_
    | simp only [bne_self_eq_false, Bool.false_eq_true, if_false]
    | wp_step)
  exact q
theorem new_kw (F : ExcBaseFacts B newId initId bmB) (hT : ∀ X : String, bm.contains (.type X) = bmB.contains (.type X)) {us : List Value} {kw : List (Str × Value)}
    (gC : hp.get? C = some (clsO cn qn C N bs bm hdct sn sub ab col dd k0 k1 k2 k3 k5 newId)) (hus : us.length ≤ sizeLine)
    (q : R (.ok (.ret (.ref (hp.objs.size + 1)))) ⟨(hp.push (PySem.W.kdv_tup us)).push (excO C hp.objs.size), gs, dr, tk, os⟩) :
    codeAny (model prog w) A (.builtin newId ⟨.ref C :: us, kw⟩) R ⟨hp, gs, dr, tk, os⟩ := by
  have in1 : (Value.ref C :: bm).contains (.type B) = true := by
    rw [List.contains_cons, hT, F.hasB]
    exact Bool.or_true _
  have out1 : (Value.ref C :: bm).contains (.type "AttributeError") = false := by
    rw [List.contains_cons, hT, F.noAttr] <;> rfl
  have out2 : (Value.ref C :: bm).contains (.type "NameError") = false := by
    rw [List.contains_cons, hT, F.noName] <;> rfl
  have en := F.ends
  refine codeAny_builtinAt F.entry ?_
  unfold Builtin.«BaseException.__new__»
  refine PySem.wpAt_bind ?_
  show PySem.wpAt _ _ _ (stack >>= _) _ _ _
  refine PySem.wpAt_bind (PySem.wpAt_stack fun p below => ?_)
  refine PySem.wpAt_of_wpAny ?_
  wp_walk
  refine PySem.wpAt_of_wpAny ?_
  rw [F.owner]
  repeat (first
    | with_reducible refine wpAny_madeHere_exc F.canon gC ?_
    | with_reducible refine wpAny_loadPart_at gC ?_
    | (with_reducible refine wpAny_isSubtype_exc gC ?_
       first
         | rw [in1]
         | rw [out1]
         | rw [out2])
    | wp_step)
  show R _ _
  rw [Heap.size_push]
  exact q
theorem tcall_kw (F : ExcBaseFacts B newId initId bmB) (hT : ∀ X : String, bm.contains (.type X) = bmB.contains (.type X)) {us : List Value} {kw : List (Str × Value)} {fI : Addr} {Q : Fin → Shared → Prop}
    (gC : hp.get? C = some (clsO cn qn C N bs bm hdct sn sub ab col dd k0 k1 k2 k3 k5 newId)) (li : PySem.W.Looks (model prog w) hp (typeLookup (.ref C) "__init__") (some (.ref fI)))
    (lb : ∀ self, PySem.W.Looks (model prog w) hp (bindSpecial (.ref fI) self) (.ref fI, [self])) (hus : us.length ≤ sizeLine)
    (q : codeAny (model prog w) A (.call (.ref fI) ⟨.ref (hp.objs.size + 1) :: us, kw⟩) (fun r s' => match r with
        | .ok (.ret v) => v = .none ∧ Q (.done (.ret (.ref (hp.objs.size + 1)))) s'
        | .ok _ => False
        | .error e => E e s') ⟨(hp.push (PySem.W.kdv_tup us)).push (excO C hp.objs.size), gs, dr, tk, os⟩) :
    wpAny (model prog w) A (Builtin.«type.__call__» ⟨.ref C :: us, kw⟩) Q E ⟨hp, gs, dr, tk, os⟩ := by
  repeat (first
    | with_reducible refine wpAny_loadPart_at gC ?_
    | with_reducible refine wpAny_madeBy_exc gC ?_
    | wp_step)
  refine codeAny_call_builtin_code (Code.quiet_builtin _ F.quiet) (check_new F hT gC ?_)
  refine new_kw F hT gC hus ?_
  show wpAny _ _ _ _ _ _
  have up : ∀ b o, hp.get? b = some o → ((hp.push (PySem.W.kdv_tup us)).push (excO C hp.objs.size)).get? b = some o := fun b o e => Heap.get?_push_of_some _ (Heap.get?_push_of_some _ e)
  have gC1 := up _ _ gC
  have gx : ((hp.push (PySem.W.kdv_tup us)).push (excO C hp.objs.size)).get? (hp.objs.size + 1) = some (excO C hp.objs.size) := by heap_get
  have self1 : (Value.ref C :: bm).contains (.ref C) = true := by simp
  have li1 := li.keeps up
  have lb1 := (lb (.ref (hp.objs.size + 1))).keeps up
  unfold isInstance
  repeat (first
    | with_reducible refine wpAny_loadPart_at gx ?_
    | (with_reducible refine wpAny_isSubtype_exc gC1 ?_
       rw [self1])
    | wp_step)
  show wpAny _ _ (typeLookup (.ref C) _) _ _ _
  refine li1.at (wpAny_holding (wpAny_bind (lb1.at ?_)))
  refine wpAny_bind (wpAny_call (codeAny_mono q fun r s' z => ?_))
  rcases r with e | (v | _ | _ | _) <;> first | exact z | exact z.elim | skip
  obtain ⟨rfl, z⟩ := z
  first
    | exact wpAny_pure (wpAny_pure z)
    | (wp_walk; exact z)
theorem call_kw (F : ExcBaseFacts B newId initId bmB) (hT : ∀ X : String, bm.contains (.type X) = bmB.contains (.type X)) {us : List Value} {kw : List (Str × Value)} {fI : Addr}
    (gC : hp.get? C = some (clsO cn qn C N bs bm hdct sn sub ab col dd k0 k1 k2 k3 k5 newId)) (li : PySem.W.Looks (model prog w) hp (typeLookup (.ref C) "__init__") (some (.ref fI)))
    (lb : ∀ self, PySem.W.Looks (model prog w) hp (bindSpecial (.ref fI) self) (.ref fI, [self])) (hus : us.length ≤ sizeLine)
    (q : codeAny (model prog w) (A.under (.builtin "type.__call__" ⟨.ref C :: us, kw⟩)) (.call (.ref fI) ⟨.ref (hp.objs.size + 1) :: us, kw⟩) (PySem.W.InitBack (hp.objs.size + 1) R) ⟨(hp.push (PySem.W.kdv_tup us)).push (excO C hp.objs.size), gs, dr, tk, os⟩) :
    codeAny (model prog w) A (.call (.ref C) ⟨us, kw⟩) R ⟨hp, gs, dr, tk, os⟩ := by
  have t1 := tc_lookup
  have t2 := tc_bind (.ref C)
  have ty : (⟨hp, gs, dr, tk, os⟩ : Shared).TypeIs (.ref C) "type" := ⟨_, gC, rfl⟩
  refine codeAny_of_tree ?_
  show wpAny _ _ (callAny (.ref C) _) _ _ _
  repeat (any_goals (first
    | assumption
    | with_reducible refine wpAny_loadPart_at gC ?_
    | wp_step))
  refine ⟨rfl, ?_⟩
  refine codeAny_call_builtin_at (Code.quiet_builtin _ (by decide +kernel)) entry_typeCall ?_
  refine wpAny_check_type_call_sub gC (tcall_kw F hT gC li lb hus ?_)
  refine codeAny_mono q fun r s' z => ?_
  rcases r with e | (v | _ | _ | _) <;> exact z
end
end Kwx
end PI
/-! PI16: try: .. except C as n: m = n, the error kept. -/
namespace PI
open PySem PySem.Spec PyProof.Rows L2
section
variable {X : Cx} {pins : List (Addr × Obj)} {σ : L2.St} {H : Hp} {s s0 s1 : Shared} {gr : Heap}
/-- on the ground again, its object tracked -/
theorem inv_landX {ea : Addr} {cls : Value} {d : Option Addr} {oe : Obj} {vs : Array Value} (I : Inv X pins σ H s0) (onG : ∀ b o, s0.heap.get? b = some o → b ∉ frs X.stack → gr.get? b = some o) (st : gr.StaysIn s1.heap) (up : s0.heap.UpToSlots s1.heap) (ho : s1.os = s0.os)
    (hg : AllBare s1.gens) (na : H ea = none) (n0 : s0.heap.get? ea = none) (he : s1.heap.get? ea = some oe) (hz : Zc cls d oe) (hv : oe.data = .fields vs) : Inv X pins σ (upd H ea (exAt ea cls d)) s1 := by
  have fr1 : ∀ b ∈ frs X.stack, ∀ o, s0.heap.get? b = some o → ∃ sl, s1.heap.get? b = some { o with slots := sl } := fun b hb o e => by
    obtain ⟨_, o', e', hd⟩ := I.stack.mem hb
    rw [e] at e'
    cases e'
    exact up b o e hd
  have ne0 : ∀ b o, s0.heap.get? b = some o → b ≠ ea := fun b o e z => by
    rw [z, n0] at e
    cases e
  refine I.call' (ch := []) (s' := s1) ho { keep := fun b o e _ hb _ => st b o (onG b o e hb), slot := fun b o e _ hb _ => fr1 b hb o e, free := fun b o e n _ => ?_, there := fun b o e _ => ?_, tups := fun b xs e => ?_, frzs := fun b o v e => ?_, tbls := fun b ps e => ?_ } ?_ hg (fun b z => absurd z (by simp))
  · rw [upd_ne (ne0 b o e)]
    exact n
  · by_cases hb : b ∈ frs X.stack
    · obtain ⟨sl, q⟩ := fr1 b hb o e
      exact ⟨_, q⟩
    · exact ⟨o, st b o (onG b o e hb)⟩
  · rw [upd_ne (ne_of_none e na)]
    exact e
  · rw [upd_ne (ne_of_none e na)]
    exact e
  · refine ⟨#[], ?_⟩
    rw [upd_ne (ne_of_none e na), e]
    simp
  · exact HOk.laidN ((I.inGround onG).kept st) (fun _ _ z => z) na (exAt_ok he hz hv)
theorem inv_suite0 (I : Inv X pins σ H s) (ea : Addr) : Inv (X.suite ea (X.pn ++ pins)) [] σ H s := by
  refine ⟨I.ok.suite _ _, I.os, I.bare, I.base, I.loc, I.cell, I.free, I.freeC, fun p hp => ?_, I.hok, I.len⟩
  rw [List.append_nil] at hp
  exact I.pin p hp
theorem inv_out0 {ea : Addr} {pn' : List (Addr × Obj)} (I : Inv (X.suite ea (X.pn ++ pins)) pn' σ H s) (ok : X.Ok) : Inv X pins σ H s := by
  refine ⟨ok, I.os, I.bare, I.base, I.loc, I.cell, I.free, I.freeC, fun p hp => ?_, I.hok, I.len⟩
  exact I.pin p (List.mem_append_left _ hp)
end

/-- what the clause wishes of an error of the body: slot i is n's, slot j is m's -/
def wKeep (K : PySem.W.Frag) (c : Value) (i j : Nat) (Wout : WX) (D : Ends) : WX := fun cls d σ H =>
  ∃ b, PySem.W.exmOne K cls c = some b ∧ (b = true → ∀ a, H a = none → D.nx (((σ.set i (some (.ref a))).set j (some (.ref a))).set i none) (upd H a (exAt a cls d))) ∧ (b = false → Wout cls d σ H)

section
variable {X : Cx} {x n m : Str} {c : Value} {i j : Nat} {body : List Stmt} {np p1 p2 p3 pos pos' : Pos} {tb : WX → TS} {Wout : WX}
theorem ps_try_keep (hst : X.stack = X.env :: X.outer) (hf : X.env.frame = some X.env.locals) (hN : X.N.Nodup) (hi : X.N[i]? = some n) (hj : X.N[j]? = some m) (hij : i ≠ j) (li : X.env.kindOf n = some .local) (lj : X.env.kindOf m = some .local) (hc : Names X x c) (tk : Takes X Wout) (hd1 : (n == ("__debug__" : Str)) = false) (hd2 : (n == ("__classdict__" : Str)) = false)
    (hb : ∀ (W : WX) (pn : List (Addr × Obj)) (xe : Value → Shared → Prop), Takes (X.tr pn xe) W → PassesOwn (model X.prog X.w) X.A X.env xe → PSs (X.tr pn xe) body (tb W)) :
    PS X (.Try body [.ExceptHandler (some (.Name x np)) (some n) [.Assign [.Name m p1] (.Name n p2) p3] pos'] [] [] pos) (fun D σ H => tb (wKeep X.K c i j Wout D) D σ H) := by
  refine ⟨fun pins s σ H D I h => ?_⟩
  have ok := I.ok
  have hfr : X.A.frames = some (X.env :: X.outer) := by
    rw [ok.frames]
    exact congrArg some hst
  refine wpAny_Try_except (wpAny_mono ((hb (wKeep X.K c i j Wout D) (X.pn ++ pins) (fun e sA => wpAny (model X.prog X.w) X.A (noteFrame e X.env) (fun _ sB => wpAny (model X.prog X.w) X.A (setFlight e none) (fun _ sC =>
    wpAny (model X.prog X.w) X.A (handleBy e X.env [.ExceptHandler (some (.Name x np)) (some n) [.Assign [.Name m p1] (.Name n p2) p3] pos']) (SP X pins D) X.xe sC) X.xe sB) X.xe sA) (fun u s' xx => ?_) PassesOwn.looking).run [] s σ H D (I.toTry _) h) (fun f s1 hsp => ?_) fun e sE z => z)
  · obtain ⟨ea, gr, s0, pins', σ', H', cls, d, rfl, J', onG, up, sky, na, os, ag, b, hb1, yes, no⟩ := xx
    have J : Inv X pins σ' H' s0 := J'.ofTry ok
    have onG' : ∀ b o, s0.heap.get? b = some o → b ∉ frs X.stack → gr.get? b = some o := onG
    have sky' : Sky gr (X.env :: X.outer) ea (Zc cls d) X.env.locals s'.heap := by
      rw [← hst]
      exact sky
    show wpAny (model X.prog X.w) X.A (noteFrame (.ref ea) X.env) _ _ _
    refine Sky.land Zc.steady hfr hf sky' fun h3 fl3 up3 => ?_
    have J3 : Inv X pins σ' H' { s' with heap := h3 } := J.landed onG' fl3.1 (up.trans up3) os ag
    obtain ⟨o3, v3, e3, z3, d3⟩ := fl3.there
    have noFr : ea ∉ frs X.stack := fun hm => by
      rw [hst] at hm
      obtain ⟨_, o', e', hnf⟩ := fl3.2.2.1.mem hm
      rw [e3] at e'
      cases e'
      exact hnf _ d3
    have n0 : s0.heap.get? ea = none := by
      cases q : s0.heap.get? ea with
      | none => rfl
      | some o =>
        have z := onG' ea o q noFr
        rw [fl3.2.1] at z
        cases z
    have S3 := inv_suite0 J3 ea
    refine wpAny_handleBy_cons (codeAny_handlers_test ?_) (by intro q; cases q)
    have LT : PySem.W.Looks (model X.prog X.w) h3 (typeOf (.ref ea)) cls := fun A Q E s k q => wpAny_typeOf_ref (k _ _ e3) (by rw [z3.1]; exact q)
    have LM := PySem.W.exm_one (M := model X.prog X.w) (J3.kIn) LT hb1
    have look : ∀ {Q : Value → Shared → Prop} {E : Value → Shared → Prop}, Q c { s' with heap := h3 } → wpAny (model X.prog X.w) (X.A.mark (some (.ref ea))) (eval (.Name x np) X.env) Q E { s' with heap := h3 } := fun {Q E} q => by
      obtain ⟨hgl, hdb, ⟨hm⟩ | ⟨hm, hv, hnn⟩⟩ := hc
      · exact ld_glob (X := X.suite ea (X.pn ++ pins)) S3 hgl hm q hdb
      · exact ld_blt (X := X.suite ea (X.pn ++ pins)) S3 hgl hm hv q hnn hdb
    refine look (LM.here ?_)
    cases b with
    | true =>
      refine codeAny_handlers_suite_as (HandSPX.lands_againZ fl3 fun h4 fl4 up4 => ?_)
      obtain ⟨o4, v4, e4, z4, d4⟩ := fl4.there
      have J4 : Inv X pins σ' (upd H' ea (exAt ea cls d)) { s' with heap := h4 } := inv_landX J onG' fl4.1 ((up.trans up3).trans up4) os ag na n0 e4 z4 d4
      have S4 := inv_suite0 J4 ea
      refine store_ok (X := X.suite ea (X.pn ++ pins)) (v := .ref ea) S4 hN hi (.inl li) rfl (fun s5 S5 => ?_) (.inr li)
      have hlen : i < σ'.length := by
        have q := S4.len
        rw [q]
        exact (List.getElem?_eq_some_iff.mp hi).1
      have go : PSs (X.suite ea (X.pn ++ pins)) [.Assign [.Name m p1] (.Name n p2) p3] (tAsg (tVar i) (gName j)) := pss_one (ps_set (i := j) hN hj (.inl lj) (pv i hi (.inl li) hd1 hd2) (by rfl) (.inr lj))
      refine wpAny_mono (go.run [] s5 _ _ { nx := fun σ6 H6 => D.nx (σ6.set i none) H6, rt := fun _ _ => False } S5 ⟨.ref ea, List.getElem?_set_self hlen, yes rfl ea na⟩) (fun f s6 hsp => ?_) fun _ _ z => False.elim z
      cases f with
      | next =>
        obtain ⟨σ6, H6, S6, q6⟩ := hsp
        exact gone_ok (inv_out0 S6 ok) hN hi li fun s7 J7 => ⟨_, _, J7, q6⟩
      | brk =>
        obtain ⟨_, _, _, q6⟩ := hsp
        exact False.elim q6
      | cont =>
        obtain ⟨_, _, _, q6⟩ := hsp
        exact False.elim q6
      | ret u =>
        obtain ⟨_, _, _, _, _, q6⟩ := hsp
        exact False.elim q6
    | false =>
      show wpAny _ X.A (handleBy (.ref ea) X.env []) _ _ _
      refine wpAny_handleBy_nil ?_
      obtain ⟨_, _, _, o5, v5, T5, oT5, t5, he5, hz5, hd5, h15, hr5⟩ := id fl3
      unfold PySem.passOn
      refine wpAny_bind (wpAny_field he5 hd5 h15 ?_)
      rw [if_neg (show ¬ ((Value.ref T5 == Value.none) = true) from by simp)]
      have fin : wpAny (model X.prog X.w) X.A (setFlight (.ref ea) X.env.frame) (fun _ s4 => wpAny (model X.prog X.w) X.A (throw (.ref ea) : Sem Flow) (SP X pins D) X.xe s4) X.xe { s' with heap := h3 } := by
        rw [hf]
        refine HandSPX.setFlight_upZ fl3 fun h4 hh4 up4 => wpAny_throw (tk _ _ ?_)
        refine ⟨ea, gr, s0, pins, σ', H', cls, d, rfl, J, onG', (up.trans up3).trans up4, .inr (.inr ?_), na, os, ag, no rfl⟩
        rw [hst]
        exact hh4
      first
        | exact wpAny_bind (wpAny_pure (wpAny_bind fin))
        | exact wpAny_bind fin
  · cases f with
    | next =>
      obtain ⟨σ', H', J', q⟩ := hsp
      exact wpAny_execs_nil ⟨σ', H', J'.ofTry ok, q⟩
    | brk =>
      obtain ⟨σ', H', J', q⟩ := hsp
      exact ⟨_, _, J'.ofTry ok, q⟩
    | cont =>
      obtain ⟨σ', H', J', q⟩ := hsp
      exact ⟨_, _, J'.ofTry ok, q⟩
    | ret u =>
      obtain ⟨v, σ', H', J', r, q⟩ := hsp
      exact ⟨_, _, _, J'.ofTry ok, r, q⟩
end
end PI
/-! PI10: from the text to the small language. -/
namespace PI
open PySem PySem.Spec PyProof.Rows L2

/-! ### two more of expressions -/
section
variable {T : Tb} {Φ : Phi} {X : Cx} {pos : Pos} {a b c : Expr} {ia ib ic : IE}
variable {kf : Str → List Str → Option (List Nat)}
theorem ty_call0 {x : Str} {np : Nat} {p : Pos} (hf : Callee T Φ kf X x np) (hg : Gl X x) (hdb : (x == ("__debug__" : Str)) = false) : TyE T Φ X (.Call (.Name x p) [] [] pos) (.call x []) := by
  intro ρ μ σ H F A r Q E tk s er e po
  obtain ⟨fa, hm, hk, run, _⟩ := hf.at
  simp only [evE, evL] at e
  intro pins st I
  refine wpAny_Call_Name_kw (ld_glob I hg hm ?_ hdb)
  exact PySem.W.callWith_K0 I.kIn hk (run [] [] .nil pins σ H st Q E tk I ⟨by rw [← hf.len _ _ _ e]; rfl, [], μ, F, A, r, .nil, s, e, po⟩)
/-- the values of keywords -/
def wK (X : Cx) (kws : List Keyword) : TA := fun σ H Q => ∀ (pos : Pos) (pins : List (Addr × Obj)) (s : Shared), Inv X pins σ H s → wpAny (model X.prog X.w) X.A (evalAll ((backToKw pos (keywordEach kws X.env)).map (·.2))) (AP X pins σ Q) X.xe s
theorem pk_w {kws : List Keyword} : PK X kws (wK X kws) := ⟨fun pos pins s σ H Q I h => h pos pins s I⟩
theorem wK_of {kws : List Keyword} {t : TA} (h : PK X kws t) {σ : L2.St} {H : Hp} {Q : List V → Hp → Prop} (q : t σ H Q) : wK X kws σ H Q := fun pos pins s I => h.run pos pins s σ H Q I q
def TyK (T : Tb) (Φ : Phi) (X : Cx) (kws : List Keyword) (is : List IE) : Prop := ∀ (ρ : Env) (μ : Mu) (σ : L2.St) (H F : Hp) (A : List Addr) (r : X1 (List W)) (Q : List V → Hp → Prop) (E : WX),
  Takes X E → SRel T μ H F A → ERel T ρ σ F A → evL Φ is ρ μ = some r → PostL T F A Q (fun c d h => E c d σ h) r → wK X kws σ H Q
theorem TyK.then {α β : Type} {es : List Keyword} {is : List IE} (h : TyK T Φ X es is) {rep : Hp → List Addr → α → β → Prop} {f : List W → Mu → R α} {r : X1 α} {ρ : Env} {μ : Mu} {σ : L2.St} {H F : Hp} {A : List Addr} {Q : List V → Hp → Prop} {Q2 : β → Hp → Prop} {E : WX}
    (tk : Takes X E) (s : SRel T μ H F A) (er : ERel T ρ σ F A) (e : (evL Φ is ρ μ).bind f = some r) (p : Post T rep F A Q2 (fun c d h => E c d σ h) r)
    (hQ : ∀ w μ1 v H1 F1 A1, Ext F A F1 A1 → SRel T μ1 H1 F1 A1 → ERel T ρ σ F1 A1 → RepWs T F1 A1 w v → f w μ1 = some r → Post T rep F1 A1 Q2 (fun c d h => E c d σ h) r → Q v H1) : wK X es σ H Q := by
  rcases bind_some e with ⟨d, m, e1, rfl⟩ | ⟨w, m, e1, e2⟩
  · exact h ρ μ σ H F A _ Q E tk s er e1 p
  · exact h ρ μ σ H F A _ Q E tk s er e1 fun v H1 F1 A1 x s1 r1 => hQ w m v H1 F1 A1 x s1 (er.mono x) r1 e2 (p.mono x)
theorem tk_nil : TyK T Φ X [] [] := by
  intro ρ μ σ H F A r Q E tk s er e p
  simp only [evL] at e
  cases e
  exact wK_of pk_nil (p [] H F A (.refl F A) s .nil)
theorem tk_cons {nm : Option Str} {kpos : Pos} {es : List Keyword} {is : List IE} (h : TyE T Φ X a ia) (t : TyK T Φ X es is) : TyK T Φ X (⟨nm, a, kpos⟩ :: es) (ia :: is) := by
  intro ρ μ σ H F A r Q E tk s er e p
  simp only [evL] at e
  refine wK_of (pk_cons pe_w pk_w) ?_
  refine h.then tk s er e p fun w μ1 v H1 F1 A1 x s1 er1 r1 e1 p1 => ?_
  refine t.then tk s1 er1 e1 p1 fun ws μ2 vs H2 F2 A2 x2 s2 er2 r2 e2 p2 => ?_
  cases e2
  exact p2 (v :: vs) H2 F2 A2 (.refl _ _) s2 (.cons (r1.mono x2) r2)
theorem paired_get {α β : Type} {R : α → β → Prop} : ∀ {xs : List α} {ys : List β} {i : Nat} {x : α}, Paired R xs ys → xs[i]? = some x → ∃ y, ys[i]? = some y ∧ R x y
  | [], _, i, x, h, e => by simp at e
  | a :: xs, _, i, x, .cons h t, e => by
    cases i with
    | zero => simp at e; subst e; exact ⟨_, by simp, h⟩
    | succ i =>
      obtain ⟨y, h1, h2⟩ := paired_get t (i := i) (by simpa using e)
      exact ⟨y, by simpa using h1, h2⟩
theorem permL_rep {F : Hp} {A : List Addr} : ∀ {pm : List Nat} {ws us : List W} {vs : List V}, RepWs T F A ws vs → permL pm ws = some us → ∃ zs, permL pm vs = some zs ∧ RepWs T F A us zs
  | [], ws, us, vs, r, e => by
    simp only [permL] at e
    cases e
    exact ⟨[], rfl, .nil⟩
  | i :: pm, ws, us, vs, r, e => by
    simp only [permL] at e
    split at e
    · rename_i w l h1 h2
      cases e
      obtain ⟨v, h3, h4⟩ := paired_get r h1
      obtain ⟨zs, h5, h6⟩ := permL_rep r h2
      exact ⟨v :: zs, by simp only [permL, h3, h5], .cons h4 h6⟩
    · cases e
theorem evL_len : ∀ {is : List IE} {ρ : Env} {μ m : Mu} {ws : List W}, evL Φ is ρ μ = some (.ok ws m) → ws.length = is.length
  | [], ρ, μ, m, ws, e => by
    simp only [evL] at e
    cases e
    rfl
  | i :: is, ρ, μ, m, ws, e => by
    simp only [evL] at e
    rcases bind_some e with ⟨d, m1, e1, z⟩ | ⟨w, m1, e1, e2⟩
    · cases z
    · rcases bind_some e2 with ⟨d, m2, e3, z⟩ | ⟨us, m2, e3, e4⟩
      · cases z
      · cases e4
        simp [evL_len e3]
theorem ty_callK {x : Str} {np : Nat} {p : Pos} {kws : List Keyword} {is : List IE} {ks : List Str} {pm : List Nat} (hf : Callee T Φ kf X x np) (hkf : kf x ks = some pm) (hg : Gl X x) (hs : TyK T Φ X kws is) (hdb : (x == ("__debug__" : Str)) = false)
    (hall : (backToKw pos (keywordEach kws X.env)).all (·.1.isSome) = true) (hks : (backToKw pos (keywordEach kws X.env)).filterMap (·.1) = ks) (hlen : is.length = ks.length)
    (hpl : ((backTo pos (starEach [] X.env)).any (·.1) || (backToKw pos (keywordEach kws X.env)).any (·.1.isNone)) = false) : TyE T Φ X (.Call (.Name x p) [] kws pos) (.callK x pm is) := by
  intro ρ μ σ H F A r Q E tk s er e po
  obtain ⟨fa, hm, hk, _, run⟩ := hf.at
  simp only [evE] at e
  intro pins st I
  refine wpAny_Call_Name_kw (ld_glob I hg hm ?_ hdb)
  refine PySem.W.callWith_KW0 (h₀ := X.base) I.ok.mod.kin hk hall ?_ hpl
  have go : wK X kws σ H (fun zs H1 => zs.length = ks.length ∧ ∃ vs, permL pm zs = some vs ∧ spF T Φ x np vs H1 Q (fun c d h => E c d σ h)) := by
    rcases bind_some e with ⟨d, m, e1, rfl⟩ | ⟨ws, m, e1, e2⟩
    · exact hs ρ μ σ H F A _ _ E tk s er e1 po
    · refine hs ρ μ σ H F A _ _ E tk s er e1 fun vs H1 F1 A1 x1 s1 r1 => ?_
      split at e2
      · cases e2
      · rename_i us hus
        obtain ⟨zs, h1, h2⟩ := permL_rep r1 hus
        refine ⟨?_, zs, h1, by rw [← Paired.length h2]; exact hf.len _ _ _ e2, us, m, F1, A1, r, h2, s1, e2, po.mono x1⟩
        rw [← hlen, ← Paired.length r1]
        exact evL_len e1
  refine wpAny_mono (go pos pins st I) (fun us s1 hh => ?_) fun _ _ z => z
  obtain ⟨zs, H1, I1, rv, hl, vs, hp, q⟩ := hh
  rw [hks]
  exact ⟨I1.kIn, run ks pm us zs vs hkf rv hl hp pins σ H1 s1 Q E tk I1 q⟩
theorem ty_callv {o i : Expr} {sp : Pos} {es : List Expr} {is : List IE} (hF : ∀ g b, T.fa g = some b → X.mg g = some (.ref b) ∧ ∃ n, Callee T Φ kf X g n) (hfe : TyE T Φ X (.Subscript o i sp) ia) (hs : TyL T Φ X (a :: es) is) (he : starEach (a :: es) X.env = (false, eval a X.env) :: starEach es X.env)
    (hpl : (backTo pos (starEach es X.env)).any (·.1) = false) : TyE T Φ X (.Call (.Subscript o i sp) (a :: es) [] pos) (.callv ia is) := by
  intro ρ μ σ H F A r Q E tk s er e p
  simp only [evE] at e
  intro pins st I
  have arm : eval (.Call (.Subscript o i sp) (a :: es) [] pos) X.env = (do callWith pos (← eval (.Subscript o i sp) X.env) [] (backTo pos (starEach (a :: es) X.env)) (backToKw pos (keywordEach [] X.env))) := rfl
  rw [arm]
  refine wpAny_bind ?_
  refine wpAny_mono (hfe.then (Q := fun v H1 => ∃ f b μ1 F1 A1, v = .ref b ∧ T.fa f = some b ∧ SRel T μ1 H1 F1 A1 ∧ ERel T ρ σ F1 A1 ∧ (evL Φ is ρ μ1).bind (fun ws μ2 => Φ f ws μ2) = some r ∧ PostW T F1 A1 Q (fun c d h => E c d σ h) r) tk s er e p (fun w μ1 v H1 F1 A1 x s1 er1 r1 e1 p1 => ?_) pins st I) (fun u s1 hh => ?_) fun _ _ z => z
  · split at e1
    · rename_i f
      simp only [RepW, Rep] at r1
      obtain ⟨b, rfl, hb⟩ := r1
      exact ⟨f, b, μ1, F1, A1, rfl, hb, s1, er1, e1, p1⟩
    · cases e1
  · obtain ⟨v, H1, I1, rv, f, b, μ1, F1, A1, rfl, hb, s1', er1, e1, p1⟩ := hh
    cases (show u = .ref b from rv)
    obtain ⟨hm, n, hf⟩ := hF f b hb
    obtain ⟨fa, hm2, hk, run, _⟩ := hf.at
    rw [hm] at hm2
    cases hm2
    refine PySem.W.callWith_K (h₀ := X.base) I1.ok.mod.kin hk ?_ he hpl
    refine wpAny_mono (hs.then (Q := fun vs H2 => spF T Φ f n vs H2 Q (fun c d h => E c d σ h)) tk s1' er1 e1 p1 (fun ws μ2 vs H2 F2 A2 x s2 er2 r2 e2 p2 => ?_) pos pins s1 I1) (fun us s2 hh => ?_) fun _ _ z => z
    · exact ⟨by rw [← Paired.length r2]; exact hf.len _ _ _ e2, ws, μ2, F2, A2, r, r2, s2, e2, p2⟩
    · obtain ⟨vs, H2, I2, rv2, q⟩ := hh
      exact ⟨I2.kIn, run us vs rv2 pins σ H2 s2 Q E tk I2 q⟩
theorem ty_pop0 {o : Expr} {io : IE} {apos : Pos} (ho : TyE T Φ X o io) (hbase : attributeBase o "pop" X.env (eval o X.env) = eval o X.env) (hline : (apos.endLine == pos.line) = true) : TyE T Φ X (.Call (.Attribute o "pop" apos) [] [] pos) (.pop0 io) := by
  intro ρ μ σ H F A r Q E tk s er e p
  simp only [evE] at e
  refine wE_of (pe_bm0 PySem.F.plainAttrs_list PySem.F.slot_list_pop PySem.F.type_list_pop mt_pop pe_w hbase hline) (ho.then tk s er e p fun wo μ1 vo H1 F1 A1 x1 s1 er1 r1 e1 p1 => ?_)
  cases wo with
  | d y => cases e1
  | r k =>
    simp only at e1
    split at e1
    · rename_i xs hxs
      split at e1
      · rename_i y hy
        cases e1
        obtain ⟨ad, hA, rfl⟩ := r1
        obtain ⟨hF, vs, hH, rvs⟩ := s1.obj k ad _ hA hxs
        obtain ⟨v, hv, rv⟩ := rvs.get hy
        rw [rvs.len] at hv
        refine ⟨.inl ⟨rfl, vs, .of hH⟩, ad, vs, v, rfl, rfl, hH, hv, ?_⟩
        have dl : Reps T F1 xs.dropLast vs.dropLast := by
          rw [List.dropLast_eq_take, List.dropLast_eq_take, ← rvs.len]
          exact rvs.take _
        have s5 := s1.write (o := .lst vs.dropLast) (ob' := .lst xs.dropLast) hA hxs (fun x z => nomatch z) ⟨hF, _, upd_same, dl⟩
        exact p1 v _ F1 A1 (.refl _ _) s5 rv
      · cases e1
    · cases e1
theorem ty_pop1 {o i : Expr} {io ii : IE} {apos : Pos} (ho : TyE T Φ X o io) (hi : TyE T Φ X i ii) (hbase : attributeBase o "pop" X.env (eval o X.env) = eval o X.env) (hline : (apos.endLine == pos.line) = true)
    (he : starEach (i :: []) X.env = (false, eval i X.env) :: starEach [] X.env) (hfew : ((backTo pos (starEach (i :: []) X.env)).all (fun x => !x.1) && (backToKw pos (keywordEach [] X.env)).all (fun x => x.1.isSome)
      && decide ((i :: []).length + ([] : List Keyword).length + (if ([] : List Keyword).isEmpty then 0 else 1) < 30)) = true) : TyE T Φ X (.Call (.Attribute o "pop" apos) [i] [] pos) (.pop1 io ii) := by
  intro ρ μ σ H F A r Q E tk s er e p
  simp only [evE] at e
  refine wE_of (pe_bm PySem.F.plainAttrs_list PySem.F.slot_list_pop PySem.F.type_list_pop mt_popAt pe_w (pa_cons pe_w pa_nil he) hbase hfew hline he (by rfl)) (ho.then tk s er e p fun wo μ1 vo H1 F1 A1 x1 s1 er1 r1 e1 p1 => ?_)
  cases wo with
  | d y => cases e1
  | r k =>
    simp only at e1
    split at e1
    · rename_i xs0 hx0
      obtain ⟨ad, hA, rfl⟩ := r1
      obtain ⟨_, vs0, hH0, _⟩ := s1.obj k ad _ hA hx0
      refine ⟨.inl ⟨rfl, vs0, .of hH0⟩, ?_⟩
      refine hi.then tk s1 er1 e1 p1 fun u μ2 v2 H2 F2 A2 x2 s2 er2 r2 e2 p2 => ?_
      split at e2
      · rename_i j xs hxs
        split at e2
        · rename_i hz
          split at e2
          · rename_i n hn
            split at e2
            · rename_i y hy
              cases e2
              obtain ⟨B, rfl⟩ := x2.pre
              have hA2 : (A1 ++ B)[k]? = some ad := by rw [List.getElem?_append_left (List.getElem?_eq_some_iff.mp hA).1]; exact hA
              obtain ⟨hF, vs, hH, rvs⟩ := s2.obj k ad _ hA2 hxs
              simp only [RepW, Rep] at r2
              subst r2
              obtain ⟨v, hv, rv⟩ := rvs.get hy
              rw [rvs.len] at hn
              refine ⟨ad, vs, j, n, v, rfl, rfl, hH, hz.1, hz.2, (ixN_seq hn).1, hv, ?_⟩
              have s5 := s2.write (o := .lst (vs.eraseIdx n)) (ob' := .lst (xs.eraseIdx n)) hA2 hxs (fun x z => nomatch z) ⟨hF, _, upd_same, rvs.erase n⟩
              exact p2 v _ F2 _ (.refl _ _) s5 rv
            · cases e2
          · cases e2
        · cases e2
      · cases e2
    · cases e1
theorem c_min2 (hc : X.calm = true) : OpC T X (.builtin "min") .min2 := by
  intro pins s σ H xs us Q I r h
  obtain ⟨F, ds, d, sF, p, e, q⟩ := h
  match ds, p, e with
  | [.int i, .int j], p, e =>
    obtain ⟨x, y, rfl, rx, ry⟩ := p2 p
    simp only [sem] at e
    cases e
    cases rx.int; cases ry.int
    exact call_min2 hc pins s σ H _ us Q I r ⟨_, _, rfl, q.int sF⟩
theorem dInts_reps {F : Hp} : ∀ {ys : List D} {ns : List Int} {vs : List V}, dInts ys = some ns → Reps T F ys vs → vs = ns.map V.int
  | [], ns, vs, h, r => by
    simp only [dInts] at h
    cases h
    simp only [Reps] at r
    rw [r]
    rfl
  | y :: ys, ns, vs, h, r => by
    cases y with
    | int b =>
      simp only [dInts] at h
      obtain ⟨l, hl, rfl⟩ := Option.map_eq_some_iff.mp h
      simp only [Reps] at r
      obtain ⟨v, q, rfl, r1, r2⟩ := r
      have hv : v = .int b := by simpa only [Rep] using r1
      rw [hv, dInts_reps hl r2]
      rfl
    | _ => simp only [dInts] at h; cases h
theorem c_sum (hc : X.calm = true) : OpC T X (.builtin "sum") .sum := by
  intro pins s σ H xs us Q I r h
  obtain ⟨F, ds, d, sF, p, e, q⟩ := h
  obtain ⟨a, rfl⟩ := sem1 e (fun a b r => by cases a <;> rfl) rfl
  obtain ⟨x, rfl, rx⟩ := p1 p
  cases a with
  | lst ys =>
    simp only [sem] at e
    obtain ⟨ns, hn, rfl⟩ := Option.map_eq_some_iff.mp e
    obtain ⟨a, vs, rfl, h1, h2⟩ := rx.lst
    have hv := dInts_reps hn h2
    subst hv
    exact cr_sum hc pins s σ H _ us Q I r ⟨a, ns, rfl, SqL.of h1, q.int sF⟩
  | _ => simp only [sem] at e; cases e
theorem c_max2 (hc : X.calm = true) : OpC T X (.builtin "max") .max2 := by
  intro pins s σ H xs us Q I r h
  obtain ⟨F, ds, d, sF, p, e, q⟩ := h
  match ds, p, e with
  | [.int i, .int j], p, e =>
    obtain ⟨x, y, rfl, rx, ry⟩ := p2 p
    simp only [sem] at e
    cases e
    cases rx.int; cases ry.int
    exact call_max2 hc pins s σ H _ us Q I r ⟨_, _, rfl, q.int sF⟩
end

/-! ### what is known of a place of the text -/
structure Cc where
  N : List Str
  sc : Scope
  fnb : Str → Bool
  mv : List Str
  own : Str → Option Nat
  cst : Str → Option D
  keep : Bool
  kf : Str → List Str → Option (List Nat)
  cls : Str → Option (List Str)
  mkr : Str → Bool
  prp : Str → Option (Str × Str)

def relab (scope sc : Scope) : Scope :=
  { scope with names := scope.names.map fun (n, k) => if (k == .free && sc.kind == .function && sc.names.lookup n == some .cell) then (n, .cell) else (n, k) }
def Cc.blk (cc : Cc) (scope : Scope) : Cc := { cc with sc := relab scope cc.sc, fnb := fun x => scope.names.lookup x == some .cell }

/-- the built-in names that are used -/
def bltNames : List Str := ["len", "list", "tuple", "int", "abs", "all", "any", "min", "max", "isinstance", "range", "enumerate", "zip", "bool", "str", "dict", "sorted", "sum", "reversed", "set"]
/-- what is known of every class of errors -/
structure ErrC (K : PySem.W.Frag) (C : Addr) (fs : List Str) : Prop where
  xf : XfC K C
  no : ∀ f ∈ fs, PySem.W.findIn K (.ref C) f = some none
def fieldNames : List Str := ["place", "piece", "number", "name", "answer"]
/-- a class by its name, as isinstance and except take it: l are the classes of errors under it -/
structure ClsOk (T : Tb) (X : Cx) (x : Str) (l : List Str) : Prop where
  ex : ∃ cv : Value, (X.mg x = some cv ∨ (X.mg x = none ∧ bootBuiltins x = some cv ∧ x ≠ "__name__")) ∧ (∃ v, RelV v cv ∧ ∀ u, RelV v u → u = cv) ∧ (∀ t ∈ ["NoneType", "bool", "int", "str", "tuple", "list"], PySem.W.kitOne X.K (.type t) cv = some false) ∧
    ∀ c C, T.ca c = some C → ExcC X.K C ∧ PySem.W.kitOne X.K (.ref C) cv = some (l.contains c) ∧ PySem.W.exmOne X.K (.ref C) cv = some (l.contains c)
/-- fields of objects of own classes -/
def insFields : List Str := ["_pairs"]
/-- what is known of every own class -/
structure InsC (K : PySem.W.Frag) (C : Addr) (fs : List Str) : Prop where
  cls : Cls K C
  no : ∀ f ∈ fs, NoAttr K C f
/-- a property called f of the class called c is what Φ says of q -/
structure PropR (T : Tb) (Φ : Phi) (X : Cx) (c f q : Str) : Prop where
  ex : ∃ C k, T.cb c = some C ∧ Room k X.A ∧ ∀ Y, Sim X Y → Room k Y.A → ∀ (a dx : Addr) (fs : List (Str × V)) (pins : List (Addr × Obj)) (σ : L2.St) (H : Hp) (s : Shared) (Q : VK) (b : Bool) (E' : Value → Shared → Prop),
    Inv Y pins σ H s → H a = some (.ins C dx fs) → spF T Φ q 1 [.ref a] H Q (fun _ _ _ => False) → wpAny (model Y.prog Y.w) Y.A (getAttr (.ref a) f b) (EP Y pins σ Q) E' s
theorem PropR.sim {T : Tb} {Φ : Phi} {X Y : Cx} {c f q : Str} (h : PropR T Φ X c f q) (e : Sim X Y) (hA : ∀ k, Room k X.A → Room k Y.A) : PropR T Φ Y c f q := by
  obtain ⟨C, k, h1, h2, h3⟩ := h.ex
  exact ⟨C, k, h1, hA k h2, fun Z z hz => h3 Z (e.trans z) hz⟩
/-- what is to be shown of an error that is made -/
def PostM (T : Tb) (F : Hp) (A : List Addr) (Q : XK) (E : XK) : X1 W → Prop
  | .ok w μ' => ∃ d, w = .d d ∧ ∀ cls dd H' F' A', Ext F A F' A' → SRel T μ' H' F' A' → XRep T F' d cls dd → Q cls dd H'
  | .er d μ' => ∀ cls dd H' F' A', Ext F A F' A' → SRel T μ' H' F' A' → XRep T F' d cls dd → E cls dd H'
def spM (T : Tb) (Φ : Phi) (x : Str) : List V → Hp → XK → XK → Prop := fun vs H Q E => ∃ ws μ F A r, RepWs T F A ws vs ∧ SRel T μ H F A ∧ Φ x ws μ = some r ∧ PostM T F A Q E r
def MakeAt (T : Tb) (Φ : Phi) (X : Cx) (C : Addr) (x : Str) (us : List Value) (kw : List (Str × Value)) (vs : List V) : Prop := ∀ (pins : List (Addr × Obj)) (σ : L2.St) (H : Hp) (s : Shared) (Q : XK) (E : WX),
  Takes X E → Inv X pins σ H s → spM T Φ x vs H Q (fun c d h => E c d σ h) → wpAny (model X.prog X.w) X.A (call (.ref C) us kw) (MkP X pins σ Q) X.xe s
/-- a class of errors: what a call of it makes -/
structure Maker (T : Tb) (Φ : Phi) (kf : Str → List Str → Option (List Nat)) (X : Cx) (x : Str) : Prop where
  ex : ∃ C k, X.mg x = some (.ref C) ∧ PySem.W.keepIn X.K (.ref C) = true ∧ Room k X.A ∧ ∀ Y, Sim X Y → Room k Y.A → (∀ us vs, Vals vs us → MakeAt T Φ Y C x us [] vs) ∧
    ∀ ks pm ws zs vs, kf x ks = some pm → Vals zs ws → zs.length = ks.length → permL pm zs = some vs → MakeAt T Φ Y C x [] (ks.zip ws) vs
theorem Maker.sim {T : Tb} {Φ : Phi} {kf : Str → List Str → Option (List Nat)} {X Y : Cx} {x : Str} (h : Maker T Φ kf X x) (e : Sim X Y) (hA : ∀ k, Room k X.A → Room k Y.A) : Maker T Φ kf Y x := by
  obtain ⟨C, k, h1, h2, h3, h4⟩ := h.ex
  exact ⟨C, k, by rw [e.mg]; exact h1, by rw [e.K]; exact h2, hA k h3, fun Z z hz => h4 Z (e.trans z) hz⟩
theorem ClsOk.sim {T : Tb} {X Y : Cx} {x : Str} {l : List Str} (h : ClsOk T X x l) (e : Sim X Y) : ClsOk T Y x l := by
  obtain ⟨cv, h1, h2, h3, h4⟩ := h.ex
  refine ⟨cv, by rw [e.mg]; exact h1, h2, ?_, ?_⟩
  · rw [e.K]
    exact h3
  · rw [e.K]
    exact h4
structure CtxOk (T : Tb) (Φ : Phi) (cc : Cc) (X : Cx) : Prop where
  K : X.K = T.K
  N : X.N = cc.N
  nd : X.N.Nodup
  sc : X.env.scope = cc.sc
  fn : ∀ x, X.fn x = cc.fnb x
  calm : X.calm = true
  un : X.A.units + 65 < cLine
  blt : ∀ x ∈ bltNames, X.mg x = none
  own : ∀ x n, cc.own x = some n → Callee T Φ cc.kf X x n
  cst : ∀ x d, cc.cst x = some d → ∃ u v, X.mg x = some u ∧ RelV v u ∧ ∀ F, Rep T F d v
  cls : ∀ x l, cc.cls x = some l → ClsOk T X x l
  mkr : ∀ x, cc.mkr x = true → Maker T Φ cc.kf X x
  err : ∀ c C, T.ca c = some C → ErrC X.K C fieldNames
  fns : ∀ g b, T.fa g = some b → X.mg g = some (.ref b) ∧ ∃ n, cc.own g = some n
  ins : ∀ c C, T.cb c = some C → InsC X.K C insFields
  prp : ∀ f c q, cc.prp f = some (c, q) → PropR T Φ X c f q
theorem CtxOk.blk {T : Tb} {Φ : Phi} {cc : Cc} {X : Cx} (h : CtxOk T Φ cc X) (scope : Scope) (s : Shared) (H : Hp) (C : Addr) (cl : List (Str × Addr)) (fp : List Addr) : CtxOk T Φ (cc.blk scope) (X.blk s H scope (compEnvC scope cl C X.env) fp) where
  K := h.K
  N := h.N
  nd := h.nd
  sc := by
    show relabel scope X.env = relab scope cc.sc
    rw [← h.sc]
    rfl
  fn := fun x => rfl
  calm := h.calm
  un := h.un
  blt := h.blt
  own := fun x n hx => (h.own x n hx).sim ⟨rfl, rfl, rfl, rfl, rfl⟩ fun _ z => z
  cst := h.cst
  cls := fun x l hx => (h.cls x l hx).sim ⟨rfl, rfl, rfl, rfl, rfl⟩
  err := h.err
  mkr := fun x hx => (h.mkr x hx).sim ⟨rfl, rfl, rfl, rfl, rfl⟩ fun _ z => z
  fns := h.fns
  ins := h.ins
  prp := fun f c q hx => (h.prp f c q hx).sim ⟨rfl, rfl, rfl, rfl, rfl⟩ fun _ z => z

def okName (x : Str) : Bool := !(x == ("__debug__" : Str)) && !(x == ("__classdict__" : Str)) && !(x == ("__name__" : Str))
def visB (cc : Cc) (x : Str) : Bool := match cc.sc.names.lookup x with
  | some .local => true | some .cell => true | some .free => true | _ => false
def glB (cc : Cc) (x : Str) : Bool := cc.sc.names.lookup x == some .globalImplicit
/-- a name may be stored -/
def locB (cc : Cc) (x : Str) : Bool := (cc.sc.names.lookup x == some .local) || (cc.sc.names.lookup x == some .cell && cc.fnb x)
def ixOf (cc : Cc) (x : Str) : Option Nat := cc.N.findIdx? (· == x)
theorem ixOf_ok {cc : Cc} {x : Str} {i : Nat} (h : ixOf cc x = some i) : cc.N[i]? = some x := by
  unfold ixOf at h
  obtain ⟨h1, h2, _⟩ := List.findIdx?_eq_some_iff_getElem.mp h
  rw [List.getElem?_eq_getElem h1]
  simp at h2
  rw [h2]
section
variable {T : Tb} {Φ : Phi} {cc : Cc} {X : Cx}
theorem CtxOk.vis (h : CtxOk T Φ cc X) {x : Str} (hv : visB cc x = true) : Vis X.env.scope x := by
  unfold visB at hv
  rw [← h.sc] at hv
  unfold Vis
  split at hv <;> simp_all
theorem CtxOk.gl (h : CtxOk T Φ cc X) {x : Str} (hv : glB cc x = true) : Gl X x := by
  unfold glB at hv
  rw [← h.sc] at hv
  have z : X.env.scope.names.lookup x = some .globalImplicit := by simpa using hv
  exact z
theorem CtxOk.loc (h : CtxOk T Φ cc X) {x : Str} (hv : locB cc x = true) : L2.Loc X.env.scope x ∧ (X.fn x = true ∨ X.env.scope.names.lookup x = some .local) := by
  unfold locB at hv
  rw [← h.sc, ← h.fn] at hv
  unfold L2.Loc
  rcases Bool.or_eq_true_iff.mp hv with z | z
  · have z : X.env.scope.names.lookup x = some .local := by simpa using z
    exact ⟨.inl z, .inr z⟩
  · obtain ⟨z1, z2⟩ := Bool.and_eq_true_iff.mp z
    exact ⟨.inr (by simpa using z1), .inl z2⟩
theorem okName_ok {x : Str} (h : okName x = true) : (x == ("__debug__" : Str)) = false ∧ (x == ("__classdict__" : Str)) = false ∧ x ≠ "__name__" := by
  unfold okName at h
  simp only [Bool.and_eq_true, Bool.not_eq_true'] at h
  exact ⟨h.1.1, h.1.2, fun e => by rw [e] at h; simp at h⟩
end

/-! ### the forms of expressions -/
def plainB : Expr → Bool
  | .Starred .. => false
  | _ => true
theorem plain_star {e : Expr} (h : plainB e = true) (rest : List Expr) (env : PySem.Env) : starEach (e :: rest) env = (false, eval e env) :: starEach rest env := by
  cases e <;> first | rfl | (simp [plainB] at h)
theorem plain_any : ∀ {es : List Expr} {env : PySem.Env} {pos : Pos}, es.all plainB = true → (backTo pos (starEach es env)).any (·.1) = false
  | [], _, _, _ => rfl
  | e :: es, env, pos, h => by
    simp only [List.all_cons, Bool.and_eq_true] at h
    rw [plain_star h.1]
    have ih := plain_any (env := env) (pos := pos) h.2
    show (false || (backTo pos (starEach es env)).any (·.1)) = false
    rw [ih]
    rfl
theorem plain_all : ∀ {es : List Expr} {env : PySem.Env} {pos : Pos}, es.all plainB = true → (backTo pos (starEach es env)).all (fun x => !x.1) = true
  | [], _, _, _ => rfl
  | e :: es, env, pos, h => by
    simp only [List.all_cons, Bool.and_eq_true] at h
    rw [plain_star h.1]
    have ih := plain_all (env := env) (pos := pos) h.2
    show (!false && (backTo pos (starEach es env)).all (fun x => !x.1)) = true
    rw [ih]
    rfl
/-- its test is its value's truth -/
def valB : Expr → Bool
  | .UnaryOp .Not .. => false
  | .BoolOp .. => false
  | .IfExp .. => false
  | .Compare .. => false
  | _ => true
theorem valB_ok {e : Expr} {env : PySem.Env} (h : valB e = true) : ∀ whole, isTrue e env whole = (do let v ← whole; standAt e.pos; holding [v] (truthy v)) := by
  intro whole
  cases e <;> first | rfl | (simp [valB] at h; done) | skip
  case UnaryOp op o p => cases op <;> first | rfl | (simp [valB] at h)
def ixB : Expr → Bool
  | .Slice .. => false
  | _ => true
theorem ixB_ok {e : Expr} (h : ixB e = true) : PlainIx e := by
  intro o i
  cases e <;> first | rfl | (simp [ixB] at h)
def attB : Expr → Bool
  | .Call (.Name id _) [] [] _ => id != ("super" : Str)
  | _ => true
theorem attB_ok {e : Expr} (h : attB e = true) (f : Str) (env : PySem.Env) : attributeBase e f env (eval e env) = eval e env := by
  unfold attB at h
  split at h
  · rename_i id p q
    exact abase_call h
  · rename_i hne
    unfold attributeBase
    split
    · rename_i id p q
      exact absurd rfl (hne id p q)
    · rfl
def swB : Expr → Bool
  | .ListComp .. => false
  | .SetComp .. => false
  | .DictComp .. => false
  | _ => true
theorem swB_ok {e : Expr} (h : swB e = true) (t : Option Expr) (l : Nat) (env : PySem.Env) : swapsWith e t l env = pure false := by
  cases e <;> first | rfl | (simp [swB] at h)
def foldB : Expr → Bool
  | .Set .. => false
  | _ => true
theorem foldB_ok {e : Expr} (h : foldB e = true) (env : PySem.Env) : ∀ x, foldedSetIterable e env x = pure x := by
  intro x
  cases e <;> first | rfl | (simp [foldB] at h)
def markB : Expr → Bool := foldB
theorem markB_ok {e : Expr} (h : markB e = true) (op : CmpOp) : behindInMarks op e = false := by
  cases e <;> first | rfl | (simp [markB, foldB] at h)

/-! ### the translation -/
def bop : Operator → Option Op
  | .Add => some .add | .Sub => some .sub | .Mult => some .mul | .FloorDiv => some .fdiv | .Mod => some .mod | .Pow => some .pow
  | _ => none
def cop : CmpOp → Option Op
  | .Eq => some .eq | .NotEq => some .ne | .Lt => some .lt | .LtE => some .le | .Gt => some .gt | .GtE => some .ge | .In => some .in_ | .NotIn => some .notin
  | _ => none
def bltT : Str → Option Op := fun x => if x = "len" then some .len else if x = "list" then some .list else if x = "tuple" then some .tuple else if x = "int" then some .int else if x = "abs" then some .abs
  else if x = "all" then some .all else if x = "any" then some .any else if x = "min" then some .min2 else if x = "max" then some .max2 else if x = "str" then some .str else if x = "sorted" then some .sorted else if x = "sum" then some .sum else none
def compName (cc : Cc) (x : Str) : Option IE := if okName x = true then (if visB cc x = true then (ixOf cc x).map .var else if glB cc x = true then (cc.cst x).map .cst else none) else none
def compConst : Const → Option IE
  | .int i => some (.cst (.int i))
  | .str s => some (.cst (.str s))
  | .bool b => some (.cst (.bl b))
  | .none => some (.cst .non)
  | _ => none
def compBool (f : Expr → Option IE) (op : BoolOp) : List Expr → Option IE
  | [] => none
  | [a] => f a
  | a :: b :: r => match f a, compBool f op (b :: r) with
    | some ia, some ib => some (match op with | .And => .and ia ib | .Or => .or ia ib)
    | _, _ => none
def compL (f : Expr → Option IE) : List Expr → Option (List IE)
  | [] => some []
  | a :: r => match f a, compL f r with
    | some ia, some ir => if plainB a = true then some (ia :: ir) else none
    | _, _ => none
/-- [x + "..", o.replace("y", "z"), ..]: behind the first item a token is out -/
def compLR (f : Expr → Option IE) : List Expr → Option (List IE)
  | .BinOp x op (.Constant (.str c) j p1) p2 :: .Call (.Attribute o m apos) [.Constant (.str y) j2 p3, .Constant (.str z) j3 p4] [] pos :: r => if (m == "replace" && attB o && (apos.endLine == pos.line) && !(y == z)) = true then
    match f (.BinOp x op (.Constant (.str c) j p1) p2), f o, compL f r with
    | some ia, some io, some ir => some (ia :: .rep io y z :: ir)
    | _, _, _ => none
    else none
  | _ => none
def compCmp (f : Expr → Option IE) (a : Expr) (op : CmpOp) (b : Expr) : Option IE :=
  match cop op with
  | some o => match f a, f b with
    | some ia, some ib => if markB b = true then some (.op o [ia, ib]) else none
    | _, _ => none
  | none => match op, b with
    | .Is, .Constant .none _ _ => (f a).map fun i => .op .isN [i]
    | .IsNot, .Constant .none _ _ => (f a).map fun i => .op .isnotN [i]
    | .Is, .Constant (.bool b) _ _ => (f a).map fun i => .op .isb [i, .cst (.bl b)]
    | .IsNot, .Constant (.bool b) _ _ => (f a).map fun i => .op .isnb [i, .cst (.bl b)]
    | _, _ => none
def tysB (cc : Cc) (l : List (Str × Ty)) : Bool := l.all fun p => glB cc p.1
def compIsi (cc : Cc) (f : Expr → Option IE) (a t : Expr) : Option IE :=
  match t with
  | .Name y _ => match tyS y with
    | some ty => match f a with
      | some ia => if (glB cc y && plainB a && (bltNames.contains y)) = true then some (.op (.isi [ty]) [ia]) else none
      | none => none
    | none => match cc.cls y, f a with
      | some l, some ia => if (glB cc y && plainB a && okName y) = true then some (.op (.isx l) [ia]) else none
      | _, _ => none
  | .Tuple es _ _ => match tyNames es, f a with
    | some l, some ia => if (tysB cc l && plainB a && (l.all fun p => bltNames.contains p.1) && !l.isEmpty && decide (l.length ≤ 100)) = true then some (.op (.isi (l.map (·.2))) [ia]) else none
    | _, _ => none
  | _ => none
/-- list(range(b)), tuple(range(b)) -/
def compRg (cc : Cc) (f : Expr → Option IE) (x : Str) : List Expr → Option IE
  | [.Call (.Name y _) [b] [] _] => if (y == "range" && (x == "list" || x == "tuple") && glB cc y && plainB b) = true then (f b).map (.lrng (x == "tuple")) else none
  | _ => none
def compCall (cc : Cc) (f : Expr → Option IE) (x : Str) (as : List Expr) : Option IE :=
  if (okName x && glB cc x) = true then
    if x = "isinstance" then match as with
      | [a, t] => compIsi cc f a t
      | _ => none
    else match bltT x with
      | some o => match as with
        | [] => none
        | a :: r => match compRg cc f x (a :: r) with
          | some ie => some ie
          | none => (compL f (a :: r)).map (.op o)
      | none => match cc.own x with
        | some _ => (compL f as).map (.call x)
        | none => none
  else none
def kwNames : List Keyword → Option (List Str)
  | [] => some []
  | ⟨some n, _, _⟩ :: r => (kwNames r).map (n :: ·)
  | _ => none
def compKs (f : Expr → Option IE) : List Keyword → Option (List IE)
  | [] => some []
  | ⟨_, e, _⟩ :: r => match f e, compKs f r with
    | some i, some l => some (i :: l)
    | _, _ => none
def compCallK (cc : Cc) (f : Expr → Option IE) (x : Str) (kws : List Keyword) : Option IE :=
  if (okName x && glB cc x && (cc.own x).isSome) = true then match kwNames kws with
    | some ks => match cc.kf x ks, compKs f kws with
      | some pm, some is => some (.callK x pm is)
      | _, _ => none
    | none => none
  else none
/-- the parts of an f-text -/
def compParts (f : Expr → Option IE) : List Expr → Option (List IE)
  | [] => some []
  | .FormattedValue e c none _ :: r => if c = -1 then (match f e, compParts f r with
    | some i, some l => some (i :: l)
    | _, _ => none) else none
  | .Constant (.str s) _ _ :: r => (compParts f r).map (.cst (.str s) :: ·)
  | _ => none
/-- methods of texts with one argument -/
def mOp (m : Str) : Option Op := if m = "join" then some .join else if m = "split" then some .split else if m = "startswith" then some .starts else none
def compMeth (f : Expr → Option IE) (o : Expr) (m : Str) (apos : Pos) (as : List Expr) (pos : Pos) : Option IE :=
  if (attB o && (apos.endLine == pos.line)) = true then
    if m = "pop" then match as with
      | [] => (f o).map .pop0
      | [i] => match f o, f i with
        | some io, some ii => if plainB i = true then some (.pop1 io ii) else none
        | _, _ => none
      | _ => none
    else match mOp m, as with
      | some op, [b] => match f o, f b with
        | some io, some ib => if plainB b = true then some (.m1 op io ib) else none
        | _, _ => none
      | _, _ => none
  else none
def compO (f : Expr → Option IE) : Option Expr → Option (Bool × IE)
  | none => some (false, .cst .non)
  | some e => (f e).map fun i => (true, i)
def compIter (cc : Cc) (f : Expr → Option IE) (e : Expr) (tup : Bool) : Option IT :=
  if foldB e = true then
    match e with
    | .Call (.Name x _) as [] _ =>
      if (glB cc x && okName x) = true then
        if x = "range" then match as with
          | [a] => if plainB a = true then (f a).map .rng1 else none
          | [a, b] => match f a, f b with
            | some ia, some ib => if (plainB a && plainB b) = true then some (.rng2 ia ib) else none
            | _, _ => none
          | _ => none
        else if x = "enumerate" then match as with
          | [a] => if (plainB a && tup) = true then (f a).map .enu else none
          | _ => none
        else if x = "zip" then match as with
          | [a, b] => match f a, f b with
            | some ia, some ib => if (plainB a && plainB b && tup) = true then some (.zip ia ib) else none
            | _, _ => none
          | _ => none
        else if x = "reversed" then match as with
          | [.Call (.Name y _) [a] [] _] => if (plainB a && (y == "range") && glB cc y) = true then (f a).map .rvr1 else none
          | _ => none
        else (f e).map .seq
      else none
    | e => (f e).map .seq
  else none
def namesOf : List Expr → Option (List Str)
  | [] => some []
  | .Name x _ :: r => (namesOf r).map (x :: ·)
  | _ => none
def slotsOf (cc : Cc) : List Str → Option (List Nat)
  | [] => some []
  | x :: r => if locB cc x = true then match ixOf cc x, slotsOf cc r with
    | some i, some l => some (i :: l)
    | _, _ => none else none
def compTg (cc : Cc) : Expr → Option Tg
  | .Name x _ => (slotsOf cc [x]).map fun l => .one (l.headD 0)
  | .Tuple es _ _ => match namesOf es with
    | some xs => (slotsOf cc xs).map .tup
    | none => none
  | _ => none
def tgNames : Expr → List Str
  | .Name x _ => [x]
  | .Tuple es _ _ => (namesOf es).getD []
  | _ => []
def isTup : Expr → Bool
  | .Tuple .. => true
  | _ => false
/-- the own names of a comprehension with their slots -/
def ownOf (cc : Cc) : List Str → Option (List (Str × Nat))
  | [] => some []
  | x :: r => match ixOf cc x, ownOf cc r with
    | some i, some l => some ((x, i) :: l)
    | _, _ => none
def compE : Nat → Cc → Expr → Option IE
  | 0, _, _ => none
  | n + 1, cc, e => match e with
    | .Name x _ => compName cc x
    | .Constant k _ _ => compConst k
    | .BinOp a op b _ => match bop op, compE n cc a, compE n cc b with
      | some o, some ia, some ib => some (.op o [ia, ib])
      | _, _, _ => none
    | .UnaryOp .USub a _ => (compE n cc a).map fun i => .op .neg [i]
    | .UnaryOp .Not a _ => (compE n cc a).map fun i => .op .not [i]
    | .BoolOp op vs _ => compBool (compE n cc) op vs
    | .Compare a [op] [b] _ => compCmp (compE n cc) a op b
    | .Compare a [op, op'] [b, c] _ => match cop op, cop op', compE n cc a, compE n cc b, compE n cc c with
      | some o1, some o2, some ia, some ib, some ic => if (!(lastMarks [op, op'] [b, c])) = true then some (.chain o1 o2 ia ib ic) else none
      | _, _, _, _, _ => none
    | .IfExp c a b _ => match compE n cc c, compE n cc a, compE n cc b with
      | some ic, some ia, some ib => some (.ite ic ia ib)
      | _, _, _ => none
    | .Call (.Name x _) as [] _ => compCall cc (compE n cc) x as
    | .Call (.Name x _) [] (k :: kws) _ => compCallK cc (compE n cc) x (k :: kws)
    | .JoinedStr (v1 :: v2 :: rest) _ => (compParts (compE n cc) (v1 :: v2 :: rest)).map .fs
    | .Attribute o m _ => if (fieldNames.contains m && attB o) = true then (compE n cc o).map (.fld m)
      else if (insFields.contains m && attB o) = true then (compE n cc o).map (.fldi m)
      else if attB o = true then match cc.prp m, compE n cc o with
        | some (c, q), some i => some (.prop c q i)
        | _, _ => none
      else none
    | .Call (.Attribute o m apos) as [] pos => compMeth (compE n cc) o m apos as pos
    | .Call (.Subscript o i sp) (a :: as) [] _ => match compE n cc (.Subscript o i sp), compL (compE n cc) (a :: as) with
      | some ie, some is => some (.callv ie is)
      | _, _ => none
    | .Subscript a (.Slice lo hi none _) _ => match compE n cc a, compO (compE n cc) lo, compO (compE n cc) hi with
      | some ia, some l, some h => some (.sl l.1 h.1 ia l.2 h.2)
      | _, _, _ => none
    | .Subscript a b _ => match compE n cc a, compE n cc b with
      | some ia, some ib => if ixB b = true then some (.op .ix [ia, ib]) else none
      | _, _ => none
    | .Dict [] [] _ => some (.newr (.dnew (cc.mv.contains "*T")))
    | .Tuple es _ _ => (compL (compE n cc) es).map .tup
    | .List es _ => match compLR (compE n cc) es with
      | some l => some (.lst l)
      | none => (compL (compE n cc) es).map .lst
    | .ListComp e [⟨tg, it, cs, 0⟩] scope _ => match ownOf cc (tgNames tg), compIter cc (compE n cc) it (isTup tg), compTg (cc.blk scope) tg, compL (compE n (cc.blk scope)) cs, compE n (cc.blk scope) e with
      | some own, some iit, some t, some ics, some ie => if (blkC cc.N cc.sc scope own && decide (cs.length ≤ 1)) = true then some (.lc (own.map (·.2)) t iit ics ie) else none
      | _, _, _, _, _ => none
    | .ListComp e [⟨tg, it, cs, 0⟩, ⟨tg1, it1, cs1, 0⟩] scope _ => match ownOf cc (tgNames tg ++ tgNames tg1), compIter cc (compE n cc) it (isTup tg), compTg (cc.blk scope) tg, compL (compE n (cc.blk scope)) cs, compIter (cc.blk scope) (compE n (cc.blk scope)) it1 (isTup tg1), compTg (cc.blk scope) tg1, compL (compE n (cc.blk scope)) cs1, compE n (cc.blk scope) e with
      | some own, some iit, some t, some ics, some iit1, some t1, some ics1, some ie => if (blkC cc.N cc.sc scope own && decide (cs.length ≤ 1) && decide (cs1.length ≤ 1) && (t.slots ++ t1.slots).all fun i => (own.map (·.2)).contains i) = true then some (.lc2 (own.map (·.2)) t1.slots t iit ics t1 iit1 ics1 ie) else none
      | _, _, _, _, _, _, _, _ => none
    | _ => none
end PI
/-! PI17: fields of errors, isinstance of own classes, raise, try. -/
namespace PI
open PySem PySem.Spec PyProof.Rows L2
section
variable {T : Tb} {Φ : Phi} {X : Cx} {cc : Cc} {pos : Pos} {a b c : Expr} {ia ib ic : IE}
theorem zip_lookup {F : Hp} {f : Str} : ∀ {ns : List Str} {ds : List D} {vs : List V} {d : D}, Reps T F ds vs → (ns.zip ds).lookup f = some d → ∃ v, (ns.zip vs).lookup f = some v ∧ Rep T F d v
  | [], ds, vs, d, r, e => by simp at e
  | n :: ns, [], vs, d, r, e => by simp at e
  | n :: ns, x :: ds, vs, d, r, e => by
    simp only [Reps] at r
    obtain ⟨v, us, rfl, r1, r2⟩ := r
    simp only [List.zip_cons_cons, List.lookup] at e ⊢
    cases hf : f == n with
    | true =>
      rw [hf] at e
      cases e
      exact ⟨v, rfl, r1⟩
    | false =>
      rw [hf] at e
      exact zip_lookup r2 e
theorem ty_fld {f : Str} (hf : f ∈ fieldNames) (he : ∀ c C, T.ca c = some C → ErrC X.K C fieldNames) (ha : TyE T Φ X a ia) (hb : attributeBase a f X.env (eval a X.env) = eval a X.env) : TyE T Φ X (.Attribute a f pos) (.fld f ia) := by
  intro ρ μ σ H F A r Q E tk s er e p
  simp only [evE] at e
  refine wE_of (pe_xv pe_w hb) (ha.then tk s er e p fun w μ1 v H1 F1 A1 x s1 er1 r1 e1 p1 => ?_)
  obtain ⟨w', hw, rfl⟩ := of_some e1
  obtain ⟨d, hd, rfl⟩ := Option.map_eq_some_iff.mp hw
  obtain ⟨d0, hv, hc⟩ := Option.bind_eq_some_iff.mp hd
  have q := s1.view r1 hv
  cases d0 with
  | exc c ns ds =>
    simp only [dFld] at hc
    have q : Rep T F1 (.exc c ns ds) v := q
    simp only [Rep] at q
    obtain ⟨ad, C, od, vs, rfl, h1, h2, h3, h4, h5⟩ := q
    obtain ⟨y, hy, ry⟩ := zip_lookup h4 hc
    rcases h5 with ⟨_, rfl⟩ | ⟨dx, rfl, h6⟩
    · simp at hy
    · obtain ⟨xf, no⟩ := he c C h1
      exact ⟨ad, C, dx, _, y, rfl, xf, no f hf, s1.sub _ _ h2, s1.sub _ _ h6, hy, p1 y H1 F1 A1 (.refl _ _) s1 ry⟩
  | _ => simp only [dFld] at hc; cases hc

/-- the value of a class's name -/
theorem pe_cls {x : Str} {cv : Value} {p : Pos} (hg : Gl X x) (hn : okName x = true) (h : X.mg x = some cv ∨ (X.mg x = none ∧ bootBuiltins x = some cv ∧ x ≠ "__name__")) {v : V} (hv : RelV v cv) : PE X (.Name x p) (tC v) := by
  obtain ⟨h1, h2, h3⟩ := okName_ok hn
  refine ⟨fun pins s σ H Q I q => ?_⟩
  rcases h with h | ⟨h, hb, h4⟩
  · exact ld_glob I hg h ⟨v, H, I, hv, q⟩ h1
  · exact ld_blt I hg h hb ⟨v, H, I, hv, q⟩ h4 h1
/-- isinstance(a, C), C a class of the text's or of errors -/
theorem call_isxR {x : Str} {l : List Str} (hK : X.K = T.K) (hc : ClsOk T X x l) (he : ∀ c C, T.ca c = some C → ErrC X.K C fieldNames) {v0 : V} {cv : Value} (hu : ∀ u, RelV v0 u → u = cv)
    (hb : ∀ t ∈ ["NoneType", "bool", "int", "str", "tuple", "list"], PySem.W.kitOne X.K (.type t) cv = some false) (hx : ∀ c C, T.ca c = some C → ExcC X.K C ∧ PySem.W.kitOne X.K (.ref C) cv = some (l.contains c)) :
    CallR X (.builtin "isinstance") (fun xs H Q => ∃ F d v k, Sub F H ∧ xs = [v, v0] ∧ RepV T F H d v ∧ dIs l d = some k ∧ Q (.bl k) H) := by
  intro pins s σ H xs us Q I r h
  obtain ⟨F, d, v, k, sF, rfl, rd, e, q⟩ := h
  cases r with
  | cons r1 r =>
    cases r with
    | cons r2 r =>
      cases r
      rename_i u1 u2
      obtain rfl := hu u2 r2
      have base : ∀ {t : String}, TyX X.K H v (.type t) → t ∈ ["NoneType", "bool", "int", "str", "tuple", "list"] → k = false → wpAny (model X.prog X.w) X.A (call (.builtin "isinstance") [u1, u2]) (EP X pins σ Q) X.xe s := fun {t} tx ht hk => by
        obtain ⟨P, kx, hp, nb⟩ := kit_of I r1 tx
        subst hk
        exact PySem.W.kia_one kx I.kIn hp (hb t ht) nb fun tk => ⟨.bl false, H, I.tok tk, rfl, q⟩
      cases d with
      | non => cases rd.non; simp only [dIs] at e; cases e; exact base (.base .non) (by simp) rfl
      | bl b => cases rd.bl; simp only [dIs] at e; cases e; exact base (.base (.bl b)) (by simp) rfl
      | int b => cases rd.int; simp only [dIs] at e; cases e; exact base (.base (.int b)) (by simp) rfl
      | str b => cases rd.str; simp only [dIs] at e; cases e; exact base (.base (.str b)) (by simp) rfl
      | tup ds =>
        obtain ⟨a, vs, rfl, h3, h4⟩ := rd.tup
        simp only [dIs] at e
        cases e
        refine base (t := "tuple") ?_ (by simp) rfl
        rcases (sub_sqT sF h3 : SqT T.K H a vs) with (z | ⟨o, z⟩) | ⟨o, its, m, z, zc, _⟩
        · exact .base (.tup z)
        · exact .fTuple z
        · exact .kTuple (hK ▸ z) zc
      | lst ds =>
        obtain ⟨a, vs, rfl, h3, h4⟩ := rd.lst
        simp only [dIs] at e
        cases e
        exact base (.base (.lst h3)) (by simp) rfl
      | exc c ns ds =>
        have rd : Rep T F (.exc c ns ds) v := rd
        simp only [Rep] at rd
        obtain ⟨ad, C, od, vs, rfl, h1, h2, h3, h4, h5⟩ := rd
        simp only [dIs] at e
        cases e
        cases r1
        obtain ⟨xc, kc⟩ := hx c C h1
        refine call_isX (c := v0) (u := u2) xc I (sF _ _ h2) (fun dd hd => ?_) kc q
        rcases h5 with ⟨rfl, _⟩ | ⟨dx, rfl, h6⟩
        · cases hd
        · cases hd
          exact ⟨_, sF _ _ h6⟩
      | _ => simp only [dIs] at e; cases e
theorem ty_isx {x : Str} {p p' : Pos} {l : List Str} (hK : X.K = T.K) (he : ∀ c C, T.ca c = some C → ErrC X.K C fieldNames) (hg : Gl X "isinstance") (hm : X.mg "isinstance" = none) (hc : ClsOk T X x l) (hgx : Gl X x) (hn : okName x = true) (ha : TyE T Φ X a ia)
    (hs : starEach (a :: [.Name x p']) X.env = (false, eval a X.env) :: starEach [.Name x p'] X.env) : TyE T Φ X (.Call (.Name "isinstance" p) [a, .Name x p'] [] pos) (.op (.isx l) [ia]) := by
  intro ρ μ σ H F A r Q E tk s er e p
  obtain ⟨cv, h1, ⟨v0, hv, hu⟩, hb, hx⟩ := hc.ex
  refine wE_of (pe_callB (call_isxR hK hc he hu hb fun c C z => ⟨(hx c C z).1, (hx c C z).2.1⟩) hg hm (by decide +kernel) (pa_cons pe_w (pa_cons (pe_cls hgx hn h1 hv) pa_nil) hs) (by decide) (by decide) hs (by rfl)) ?_
  refine op1_go ha tk s er e p fun v H1 F1 d1 d sb q1 hsm pq => ?_
  simp only [sem] at hsm
  obtain ⟨k, hk, rfl⟩ := Option.map_eq_some_iff.mp hsm
  exact ⟨F1, d1, v, k, sb, rfl, q1, hk, pq.bl sb⟩
end
end PI
/-! PI18: raise, try; makers are called. -/
namespace PI
open PySem PySem.Spec PyProof.Rows L2
section
variable {T : Tb} {Φ : Phi} {X : Cx} {pos : Pos} {kf : Str → List Str → Option (List Nat)} {F H : Hp} {A : List Addr} {μ : Mu}
theorem ERel.setN {ρ : Env} {σ : L2.St} {i : Nat} (h : ERel T ρ σ F A) : ERel T (ρ.set i none) (σ.set i none) F A := by
  refine ⟨by simp [h.1], fun j u q => ?_⟩
  by_cases hj : i = j
  · subst hj
    by_cases hi : i < ρ.length
    · rw [List.getElem?_set_self hi] at q
      cases q
    · rw [List.getElem?_eq_none (by simpa using hi)] at q
      cases q
  · rw [List.getElem?_set_ne hj] at q ⊢
    exact h.2 j u q
/-- an error laid as a value -/
theorem xrep_val {c : Str} {ns : List Str} {ds : List D} {cls : Value} {dd : Option Addr} {a : Addr} (xr : XRep T F (.exc c ns ds) cls dd) (sF : Sub F (upd F a (exAt a cls dd))) : Rep T (upd F a (exAt a cls dd)) (.exc c ns ds) (.ref a) := by
  obtain ⟨C, h1, rfl, h2⟩ := xr
  simp only [Rep]
  rcases h2 with ⟨rfl, rfl, rfl⟩ | ⟨dx, vs, rfl, h3, h4, h5⟩
  · exact ⟨a, C, none, [], rfl, h1, upd_same, rfl, .nil, .inl ⟨rfl, rfl⟩⟩
  · exact ⟨a, C, some dx, vs, rfl, h1, upd_same, h4, h5.mono sF, .inr ⟨dx, rfl, sF _ _ h3⟩⟩
theorem run_of_make {C : Addr} {x : Str} {np : Nat} {us : List Value} {kw : List (Str × Value)} {vs : List V} (M : MakeAt T Φ X C x us kw vs) (hd : ∀ ws μ w m, Φ x ws μ = some (.ok w m) → ∃ c ns ds, w = .d (.exc c ns ds)) : RunAt T Φ X C x np us kw vs := by
  intro pins σ H s Q E tk I h
  obtain ⟨_, ws, μ, F, A, r, h1, h2, h3, po⟩ := h
  refine wpAny_mono (M pins σ H s (fun cls d H' => ∀ a, H' a = none → Q (.ref a) (upd H' a (exAt a cls d))) E tk I ⟨ws, μ, F, A, r, h1, h2, h3, ?_⟩) (fun u s1 hu => ?_) fun _ _ z => z
  · cases r with
    | er d m => exact po
    | ok w m =>
      obtain ⟨c, ns, ds, rfl⟩ := hd ws μ w m h3
      refine ⟨_, rfl, fun cls dd H' F' A' x1 s1 xr a na => ?_⟩
      obtain ⟨s2, sb⟩ := s1.new (o := exAt a cls dd) na
      exact po (.ref a) _ _ A' (x1.trans ⟨sb, List.prefix_refl _⟩) s2 (xrep_val xr sb)
  · obtain ⟨a, oe, vs', sI, H', cls, d, rfl, J, k, ne, he, hz, hv, h1', na, os, ag, _, q'⟩ := hu
    exact ⟨.ref a, _, inv_lay J k ne na os ag (exAt_ok he hz hv), rfl, q' a na⟩

/-- an expression that makes an error -/
def wM (X : Cx) (e : Expr) : L2.St → Hp → XK → Prop := fun σ H Q => ∀ (pins : List (Addr × Obj)) (s : Shared), Inv X pins σ H s → wpAny (model X.prog X.w) X.A (eval e X.env) (MkP X pins σ Q) X.xe s
theorem pmk_w {e : Expr} : PMk X e (wM X e) := fun pins s σ H Q I h => h pins s I
theorem raiD_some {r : R W} {ρ : Env} {y : Fl × Mu} (h : raiD r ρ = some y) : (∃ c ns vs m, r = some (.ok (.d (.exc c ns vs)) m) ∧ y = (.xc (.exc c ns vs) ρ, m)) ∨ ∃ e m, r = some (.er e m) ∧ y = (.xc e ρ, m) := by
  unfold raiD at h
  split at h
  · cases h
    exact .inl ⟨_, _, _, _, rfl, rfl⟩
  · cases h
    exact .inr ⟨_, _, rfl, rfl⟩
  · cases h
theorem spM_of {x : Str} {ρ : Env} {σ : L2.St} {ws : List W} {vs : List V} {r : Fl × Mu} {D : Ends} {E : WX} (h1 : RepWs T F A ws vs) (s : SRel T μ H F A) (er : ERel T ρ σ F A) (e : raiD (Φ x ws μ) ρ = some r) (po : PostS T F A D E r) : spM T Φ x vs H (fun cls d H' => E cls d σ H') (fun c d h => E c d σ h) := by
  rcases raiD_some e with ⟨c, ns, ds, m, h3, rfl⟩ | ⟨d, m, h3, rfl⟩
  · exact ⟨ws, μ, F, A, _, h1, s, h3, _, rfl, fun cls dd H' F' A' x2 s2 xr => po cls dd σ H' F' A' x2 s2 (er.mono x2) xr⟩
  · exact ⟨ws, μ, F, A, _, h1, s, h3, fun cls dd H' F' A' x2 s2 xr => po cls dd σ H' F' A' x2 s2 (er.mono x2) xr⟩
theorem ty_raise0 {x : Str} {p pc : Pos} (hm : Maker T Φ kf X x) (hg : Gl X x) (hc : X.calm = true) (hdb : (x == ("__debug__" : Str)) = false) : TyS T Φ X (.Raise (some (.Call (.Name x p) [] [] pc)) none pos) (.raise x []) := by
  intro ρ μ σ H F A r D E tk s er e po
  obtain ⟨C, k, h1, h2, h3, h4⟩ := hm.ex
  refine wS_of (ps_raise hc tk pmk_w) ?_
  simp only [exS, evL] at e
  intro pins st I
  refine wpAny_Call_Name_kw (ld_glob I hg h1 (PySem.W.callWith_K0 I.kIn h2 ?_) hdb)
  exact (h4 X .refl h3).1 [] [] .nil pins σ H st _ E tk I (spM_of .nil s er e po)
theorem ty_raise {x : Str} {p pc : Pos} {a : Expr} {es : List Expr} {is : List IE} (hm : Maker T Φ kf X x) (hg : Gl X x) (hs : TyL T Φ X (a :: es) is) (hc : X.calm = true) (hdb : (x == ("__debug__" : Str)) = false) (ha : plainB a = true) (hr : es.all plainB = true) : TyS T Φ X (.Raise (some (.Call (.Name x p) (a :: es) [] pc)) none pos) (.raise x is) := by
  intro ρ μ σ H F A r D E tk s er e po
  obtain ⟨C, k, h1, h2, h3, h4⟩ := hm.ex
  refine wS_of (ps_raise hc tk pmk_w) ?_
  simp only [exS] at e
  intro pins st I
  refine wpAny_Call_Name_kw (ld_glob I hg h1 ?_ hdb)
  refine PySem.W.callWith_K (h₀ := X.base) I.ok.mod.kin h2 ?_ (plain_star ha _ _) (plain_any hr)
  have go : wL X (a :: es) σ H (fun vs H1 => spM T Φ x vs H1 (fun cls d H' => E cls d σ H') (fun c d h => E c d σ h)) := by
    rcases st_some e with ⟨d, m, e1, rfl⟩ | ⟨ws, m, e1, e2⟩
    · exact hs ρ μ σ H F A _ _ E tk s er e1 fun cls dd H' F' A' x s' xr => po cls dd σ H' F' A' x s' (er.mono x) xr
    · exact hs ρ μ σ H F A _ _ E tk s er e1 fun vs H1 F1 A1 x1 s1 r1 => spM_of r1 s1 (er.mono x1) e2 (po.mono x1)
  refine wpAny_mono (go _ pins st I) (fun us s1 hh => ?_) fun _ _ z => z
  obtain ⟨vs, H1, I1, rv, q⟩ := hh
  exact ⟨I1.kIn, (h4 X .refl h3).1 us vs rv pins σ H1 s1 _ E tk I1 q⟩

theorem ty_try {x n m : Str} {i j : Nat} {l : List Str} {body : List Stmt} {ib : List IS} {np p1 p2 p3 pos' : Pos} (hst : X.stack = X.env :: X.outer) (hf : X.env.frame = some X.env.locals) (hN : X.N.Nodup) (hi : X.N[i]? = some n) (hj : X.N[j]? = some m) (hij : i ≠ j)
    (li : X.env.kindOf n = some .local) (lj : X.env.kindOf m = some .local) (hg : Gl X x) (hn : okName x = true) (hc : ClsOk T X x l) (hd : okName n = true)
    (hb : ∀ (pn : List (Addr × Obj)) (xe : Value → Shared → Prop), PassesOwn (model X.prog X.w) X.A X.env xe → TyBl T Φ (X.tr pn xe) body ib) :
    TyS T Φ X (.Try body [.ExceptHandler (some (.Name x np)) (some n) [.Assign [.Name m p1] (.Name n p2) p3] pos'] [] [] pos) (.try_ ib l i j) := by
  intro ρ μ σ H F A r D E tk s er e po
  obtain ⟨cv, h1, _, _, hx⟩ := hc.ex
  obtain ⟨k1, _, k3⟩ := okName_ok hn
  obtain ⟨d1, d2, _⟩ := okName_ok hd
  refine wS_of (ps_try_keep (c := cv) (Wout := E) (tb := fun W D σ H => ∀ pn xe, Takes (X.tr pn xe) W → PassesOwn (model X.prog X.w) X.A X.env xe → wB (X.tr pn xe) body D σ H) hst hf hN hi hj hij li lj ⟨hg, k1, ?_⟩ tk d1 d2 (fun W pn xe t1 t2 => ⟨fun pins s σ H D I h => h pn xe t1 t2 pins s I⟩)) ?_
  · rcases h1 with z | ⟨z1, z2, z3⟩
    · exact .inl z
    · exact .inr ⟨z1, z2, z3⟩
  intro pn xe t1 t2
  simp only [exS] at e
  cases hx0 : exB Φ ib ρ μ with
  | none => rw [hx0] at e; cases e
  | some r' =>
    rw [hx0] at e
    refine hb pn xe t2 ρ μ σ H F A r' D _ t1 s er hx0 ?_
    obtain ⟨fl, m1⟩ := r'
    cases fl with
    | nx ρ1 => cases e; exact po
    | rt w => cases e; exact po
    | bk ρ1 => cases e; exact po
    | ct ρ1 => cases e; exact po
    | xc d ρ1 =>
      cases d with
      | exc c ns ds =>
        simp only at e
        intro cls dd σ' H' F' A' x1 s1 er1 xr
        obtain ⟨C, hC, rfl, _⟩ := id xr
        obtain ⟨_, _, hex⟩ := hx c C hC
        refine ⟨l.contains c, hex, fun hl a na => ?_, fun hl => ?_⟩
        · rw [if_pos hl] at e
          cases e
          obtain ⟨s2, sb⟩ := s1.new (o := exAt a (.ref C) dd) na
          have xx : Ext F' A' (upd F' a (exAt a (.ref C) dd)) A' := ⟨sb, List.prefix_refl _⟩
          have rp : RepW T (upd F' a (exAt a (.ref C) dd)) A' (.d (.exc c ns ds)) (.ref a) := xrep_val xr sb
          exact po _ _ _ A' (x1.trans xx) s2 ((((er1.mono xx).set rp).set rp).setN)
        · rw [if_neg (by rw [hl]; decide)] at e
          cases e
          exact po _ dd σ' H' F' A' x1 s1 er1 xr
      | _ => intro cls dd σ' H' F' A' x1 s1 er1 xr; exact False.elim xr
theorem ty_tryr {x : Str} {l : List Str} {body : List Stmt} {ib : List IS} {k : Bool} {jk : Nat} {np cp rp pos' : Pos} (hst : X.stack = X.env :: X.outer) (hf : X.env.frame = some X.env.locals) (hg : Gl X x) (hn : okName x = true) (hc : ClsOk T X x l)
    (hb : ∀ (pn : List (Addr × Obj)) (xe : Value → Shared → Prop), PassesOwn (model X.prog X.w) X.A X.env xe → TyBl T Φ (X.tr pn xe) body ib) :
    TyS T Φ X (.Try body [.ExceptHandler (some (.Name x np)) none [.Return (some (.Constant (.bool k) jk cp)) rp] pos'] [] [] pos) (.tryr ib l k) := by
  intro ρ μ σ H F A r D E tk s er e po
  obtain ⟨cv, h1, _, _, hx⟩ := hc.ex
  obtain ⟨k1, _, k3⟩ := okName_ok hn
  refine wS_of (ps_try_only (c := cv) (Wout := E) (tb := fun W D σ H => ∀ pn xe, Takes (X.tr pn xe) W → PassesOwn (model X.prog X.w) X.A X.env xe → wB (X.tr pn xe) body D σ H) (ts := fun _ _ _ => tRet (tC (.bl k))) hst hf ⟨hg, k1, ?_⟩ tk (fun W pn xe t1 t2 => ⟨fun pins s σ H D I h => h pn xe t1 t2 pins s I⟩) (fun a oe cls d pn _ _ => pss_one (ps_ret pe_bl))) ?_
  · rcases h1 with z | ⟨z1, z2, z3⟩
    · exact .inl z
    · exact .inr ⟨z1, z2, z3⟩
  intro pn xe t1 t2
  simp only [exS] at e
  cases hx0 : exB Φ ib ρ μ with
  | none => rw [hx0] at e; cases e
  | some r' =>
    rw [hx0] at e
    refine hb pn xe t2 ρ μ σ H F A r' D _ t1 s er hx0 ?_
    obtain ⟨fl, m1⟩ := r'
    cases fl with
    | nx ρ1 => cases e; exact po
    | rt w => cases e; exact po
    | bk ρ1 => cases e; exact po
    | ct ρ1 => cases e; exact po
    | xc d ρ1 =>
      cases d with
      | exc c ns ds =>
        simp only at e
        intro cls dd σ' H' F' A' x1 s1 er1 xr
        obtain ⟨C, hC, rfl, _⟩ := id xr
        obtain ⟨_, _, hex⟩ := hx c C hC
        refine ⟨l.contains c, hex, fun hl a na => ?_, fun hl => ?_⟩
        · rw [if_pos hl] at e
          cases e
          exact po _ H' F' A' x1 s1 (by simp only [RepW, Rep])
        · rw [if_neg (by rw [hl]; decide)] at e
          cases e
          exact po _ dd σ' H' F' A' x1 s1 er1 xr
      | _ => intro cls dd σ' H' F' A' x1 s1 er1 xr; exact False.elim xr
end
end PI
/-! PI24: texts. -/
namespace PI
open PySem PySem.Spec PyProof.Rows L2
section
variable {T : Tb} {Φ : Phi} {X : Cx} {pos : Pos} {a b c : Expr} {ia ib ic : IE}
theorem dStrs_some : ∀ {ds : List D} {ys : List Str}, dStrs ds = some ys → ds = ys.map .str
  | [], ys, h => by
    simp only [dStrs] at h
    cases h
    rfl
  | .str s :: r, ys, h => by
    simp only [dStrs] at h
    obtain ⟨l, hl, rfl⟩ := Option.map_eq_some_iff.mp h
    simp [dStrs_some hl]
  | .non :: r, ys, h => by cases h
  | .bl _ :: r, ys, h => by cases h
  | .int _ :: r, ys, h => by cases h
  | .tup _ :: r, ys, h => by cases h
  | .lst _ :: r, ys, h => by cases h
  | .dic _ _ _ :: r, ys, h => by cases h
  | .ins _ _ _ :: r, ys, h => by cases h
  | .exc _ _ _ :: r, ys, h => by cases h
  | .fn _ :: r, ys, h => by cases h
  | .scr _ :: r, ys, h => by cases h
theorem reps_strs {F : Hp} : ∀ {ys : List Str} {vs : List V}, Reps T F (ys.map .str) vs → vs = ys.map V.str
  | [], vs, r => by
    simp only [List.map_nil, Reps] at r
    exact r
  | y :: ys, vs, r => by
    simp only [List.map_cons, Reps] at r
    obtain ⟨v, us, rfl, r1, r2⟩ := r
    simp only [Rep] at r1
    rw [r1, reps_strs r2]
    rfl
theorem reps_of_strs {F : Hp} : ∀ ys : List Str, Reps T F (ys.map D.str) (ys.map V.str)
  | [] => .nil
  | y :: ys => .cons (by simp only [Rep]) (reps_of_strs ys)
/-- what a method of texts with one argument does -/
def M1 (T : Tb) (X : Cx) (o : Op) (r : V → List V → Hp → VK → Prop) : Prop := ∀ (H F : Hp) (Q : VK) (s : Str) (d d' : D) (y : V), Sub F H → RepV T F H d y → sem o [.str s, d] = some d' → PQ T F H d' Q → r (.str s) [y] H Q
theorem ty_m1 {o : Op} {id : String} {name : Str} {apos : Pos} {r : V → List V → Hp → VK → Prop} (slot : Slot "str" name id) (ty : typeOf (.builtin id) = pure (.type "method_descriptor")) (rule : MtR X id r) (ho : M1 T X o r) (ha : TyE T Φ X a ia) (hb : TyE T Φ X b ib)
    (hs : starEach [b] X.env = [(false, eval b X.env)]) (hbase : attributeBase a name X.env (eval a X.env) = eval a X.env) (hline : (apos.endLine == pos.line) = true) : TyE T Φ X (.Call (.Attribute a name apos) [b] [] pos) (.m1 o ia ib) := by
  intro ρ μ σ H F A r' Q E tk s er e p
  simp only [evE] at e
  refine wE_of (pe_m1 slot ty rule pe_w pe_w hs hbase hline) (ha.then tk s er e p fun w μ1 v H1 F1 A1 x s1 er1 r1 e1 p1 => ?_)
  split at e1
  · rename_i z
    simp only [RepW, Rep] at r1
    subst r1
    refine ⟨⟨z, rfl⟩, hb.then tk s1 er1 e1 p1 fun u μ2 y H2 F2 A2 x2 s2 er2 r2 e2 p2 => ?_⟩
    split at e2
    · cases e2
    · rename_i d hd
      split at e2
      · cases e2
      · rename_i d' hd'
        cases e2
        exact ho _ F2 _ z d d' y s2.sub (s2.view r2 hd) hd' (.of s2 p2)
  · cases e1
theorem m1_join (hK : X.K = T.K) : M1 T X .join (fun x xs H Q => ∃ a p, ∃ ys : List Str, x = .str a ∧ xs = [.ref p] ∧ (SqL X.K H p (ys.map V.str) ∨ SqT X.K H p (ys.map V.str)) ∧
    (ys.map (·.length)).sum + ys.length * a.length ≤ 16777216 ∧ Q (.str (Txt.join a ys)) H) := by
  intro H F Q s d d' y sF rd e pq
  simp only [sem] at e
  obtain ⟨xs, h1, e⟩ := Option.bind_eq_some_iff.mp e
  obtain ⟨ys, h2, e⟩ := Option.bind_eq_some_iff.mp e
  split at e
  · rename_i hl
    cases e
    have hz := dStrs_some h2
    subst hz
    have q := pq (.str (Txt.join s ys)) F H (.refl sF) (by simp only [Rep])
    have hl2 : (ys.map (·.length)).sum + ys.length * s.length ≤ 16777216 := Nat.le_trans hl (by decide)
    cases d with
    | lst ds =>
      simp only [dSeqL] at h1
      cases h1
      obtain ⟨a, vs, rfl, h3, h4⟩ := rd.lst
      rw [reps_strs h4] at h3
      exact ⟨s, a, ys, rfl, rfl, .inl (.of h3), hl2, q⟩
    | tup ds =>
      simp only [dSeqL] at h1
      cases h1
      obtain ⟨a, vs, rfl, h3, h4⟩ := rd.tup
      rw [reps_strs h4] at h3
      exact ⟨s, a, ys, rfl, rfl, .inr (hK ▸ sub_sqT sF h3), hl2, q⟩
    | _ => simp only [dSeqL] at h1; cases h1
  · cases e
theorem m1_split : M1 T X .split (fun x xs H Q => ∃ a b, x = .str a ∧ xs = [.str b] ∧ (b.length == 0) = false ∧ a.length + 2 ≤ sizeLine ∧ rNewStrs (Txt.split a b) H Q) := by
  intro H F Q s d d' y sF rd e pq
  cases d with
  | str b =>
    simp only [sem] at e
    split at e
    · rename_i hl
      cases e
      cases rd.str
      refine ⟨s, b, rfl, rfl, by simpa using hl.1, by have := hl.2; unfold lim at this; rw [sizeLine_eq]; omega, fun p hp => ?_⟩
      have g := Grow.new (o := .lst ((Txt.split s b).map V.str)) sF hp
      refine pq _ _ _ g ?_
      simp only [Rep]
      exact ⟨p, _, rfl, upd_same, reps_of_strs _⟩
    · cases e
  | _ => simp only [sem] at e; cases e
theorem m1_starts : M1 T X .starts (fun x xs H Q => ∃ a b, x = .str a ∧ xs = [.str b] ∧ Q (.bl (Txt.startswith a b)) H) := by
  intro H F Q s d d' y sF rd e pq
  cases d with
  | str b =>
    simp only [sem] at e
    cases e
    cases rd.str
    exact ⟨s, b, rfl, rfl, pq.bl sF⟩
  | _ => simp only [sem] at e; cases e

theorem c_str : OpC T X (.type "str") .str := by
  intro pins s σ H xs us Q I r h
  obtain ⟨F, ds, d, sF, p, e, q⟩ := h
  obtain ⟨a, rfl⟩ := sem1 e (fun a b r => by cases a <;> rfl) rfl
  obtain ⟨x, rfl, rx⟩ := p1 p
  cases a with
  | int i =>
    simp only [sem] at e
    split at e
    · rename_i hi
      cases e
      cases rx.int
      refine call_str_int pins s σ H _ us Q I r ⟨i, rfl, ?_, q _ F H (.refl sF) (by simp only [Rep])⟩
      by_cases h0 : i.natAbs = 0
      · rw [h0]
        decide
      · have := (Nat.log2_lt h0).mpr hi
        omega
    · cases e
  | str z =>
    simp only [sem] at e
    cases e
    cases rx.str
    exact SkE.call_str_str pins s σ H _ us Q I r ⟨z, rfl, q _ F H (.refl sF) (by simp only [Rep])⟩
  | _ => simp only [sem] at e; cases e

/-! ### a op1 b op2 c -/
def rOp (T : Tb) (o : Op) : R2 := fun x y H Q => ∃ F d1 d2 d, Sub F H ∧ RepV T F H d1 x ∧ RepV T F H d2 y ∧ sem o [d1, d2] = some d ∧ PQ T F H d Q
theorem chain_go {o1 o2 : Op} (ha : TyE T Φ X a ia) (hb : TyE T Φ X b ib) (hc : TyE T Φ X c ic) {ρ : Env} {μ : Mu} {σ : L2.St} {H F : Hp} {A : List Addr} {r : X1 W} {Q : VK} {E : WX}
    (tk : Takes X E) (s : SRel T μ H F A) (er : ERel T ρ σ F A) (e : evE Φ (.chain o1 o2 ia ib ic) ρ μ = some r) (p : PostW T F A Q (fun c d h => E c d σ h) r) : tChain (rOp T o1) (rOp T o2) (wE X a) (wE X b) (wE X c) σ H Q := by
  simp only [evE] at e
  refine ha.then tk s er e p fun w μ1 v H1 F1 A1 x s1 er1 r1 e1 p1 => ?_
  refine hb.then tk s1 er1 e1 p1 fun u μ2 y H2 F2 A2 x2 s2 er2 r2 e2 p2 => ?_
  split at e2
  · cases e2
  · rename_i ds hd
    have pr := s2.views (.cons (r1.mono x2) (.cons r2 .nil)) hd
    cases pr with
    | cons q1 q =>
      cases q with
      | cons q2 q =>
        cases q
        split at e2
        · rename_i hs
          refine ⟨F2, _, _, .bl true, s2.sub, q1, q2, hs, fun z F3 H3 g rz => ?_⟩
          simp only [Rep] at rz
          subst rz
          refine ⟨true, rfl, ?_⟩
          rw [if_pos rfl]
          have x3 := g.ext A2
          refine hc.then tk (g.srel s2) (er2.mono x3) e2 (p2.mono x3) fun t μ3 z H4 F4 A4 x4 s4 er4 r4 e4 p4 => ?_
          split at e4
          · cases e4
          · rename_i es hes
            have pr := s4.views (.cons ((r2.mono x3).mono x4) (.cons r4 .nil)) hes
            cases pr with
            | cons y1 yq =>
              cases yq with
              | cons y2 yq =>
                cases yq
                split at e4
                · rename_i k hk
                  cases e4
                  exact ⟨F4, _, _, .bl k, s4.sub, y1, y2, hk, .of s4 p4⟩
                · cases e4
        · rename_i hs
          cases e2
          refine ⟨F2, _, _, .bl false, s2.sub, q1, q2, hs, fun z F3 H3 g rz => ?_⟩
          simp only [Rep] at rz
          subst rz
          refine ⟨false, rfl, ?_⟩
          rw [if_neg Bool.false_ne_true]
          exact p2 (.bl false) H3 F3 A2 (g.ext A2) (g.srel s2) (by simp only [RepW, Rep])
        · cases e2
theorem chain_form {o1 o2 : Op} {ρ : Env} {μ μ' : Mu} {w : W} (e : evE Φ (.chain o1 o2 ia ib ic) ρ μ = some (.ok w μ')) : ∃ k, w = .d (.bl k) := by
  simp only [evE] at e
  rcases bind_some e with ⟨_, _, _, z⟩ | ⟨w1, m1, _, e⟩
  · cases z
  rcases bind_some e with ⟨_, _, _, z⟩ | ⟨w2, m2, _, e⟩
  · cases z
  split at e
  · cases e
  · split at e
    · rcases bind_some e with ⟨_, _, _, z⟩ | ⟨w3, m3, _, e⟩
      · cases z
      split at e
      · cases e
      · split at e
        · cases e
          exact ⟨_, rfl⟩
        · cases e
    · cases e
      exact ⟨_, rfl⟩
    · cases e
theorem ty_chain {o1 o2 : Op} {op op' : CmpOp} (h1 : Op2 T X (compareOp op) (fun x y => sem o1 [x, y])) (h2 : Op2 T X (compareOp op') (fun x y => sem o2 [x, y])) (ha : TyE T Φ X a ia) (hb : TyE T Φ X b ib) (hc : TyE T Φ X c ic) (hm : lastMarks [op, op'] [b, c] = false) :
    TyE T Φ X (.Compare a [op, op'] [b, c] pos) (.chain o1 o2 ia ib ic) := by
  intro ρ μ σ H F A r Q E tk s er e p
  exact wE_of (pe_chain (r := rOp T o1) (r' := rOp T o2) h1 h2 pe_w pe_w pe_w hm) (chain_go ha hb hc tk s er e p)
theorem tb_chain {o1 o2 : Op} {op op' : CmpOp} (h1 : Op2 T X (compareOp op) (fun x y => sem o1 [x, y])) (h2 : Op2 T X (compareOp op') (fun x y => sem o2 [x, y])) (ha : TyE T Φ X a ia) (hb : TyE T Φ X b ib) (hc : TyE T Φ X c ic) (hm : lastMarks [op, op'] [b, c] = false) :
    TyB T Φ X (.Compare a [op, op'] [b, c] pos) (.chain o1 o2 ia ib ic) := by
  intro ρ μ σ H F A r Q E tk s er e p
  refine wT_of (pt_chain (r := rOp T o1) (r' := rOp T o2) h1 h2 pe_w pe_w pe_w hm) ?_
  unfold evB at e
  rcases bind_some e with ⟨d, m, e1, rfl⟩ | ⟨w, m, e1, e2⟩
  · exact chain_go ha hb hc tk s er e1 p
  · obtain ⟨k, rfl⟩ := chain_form e1
    have : r = .ok k m := by
      simp [view, truth, R.of] at e2
      exact e2.symm
    subst this
    refine chain_go ha hb hc tk s er e1 fun v H' F' A' x s' rv => ?_
    simp only [RepW, Rep] at rv
    exact ⟨k, rv, p k H' F' A' x s' rfl⟩

/-! ### f'..' -/
def tPart1 (X : Cx) : Expr → TE
  | .FormattedValue e _ _ _ => tFmt (wE X e)
  | e => wE X e
/-- a part of an f-text with its small form -/
inductive PartOk (T : Tb) (Φ : Phi) (X : Cx) : List Expr → List IE → Prop where
  | nil : PartOk T Φ X [] []
  | fmt {e : Expr} {ie : IE} {p : Pos} {es : List Expr} {is : List IE} (h : TyE T Φ X e ie) (r : PartOk T Φ X es is) : PartOk T Φ X (.FormattedValue e (-1) none p :: es) (ie :: is)
  | txt {s : Str} {j : Nat} {p : Pos} {es : List Expr} {is : List IE} (r : PartOk T Φ X es is) : PartOk T Φ X (.Constant (.str s) j p :: es) (.cst (.str s) :: is)
theorem PartOk.pj {es : List Expr} {is : List IE} (h : PartOk T Φ X es is) : PJ X es (es.map (tPart1 X)) := by
  induction h with
  | nil => exact .nil
  | fmt h r ih => exact .cons (pe_fmt pe_w) ih
  | txt r ih => exact .cons pe_w ih
theorem lim_line {n : Nat} (h : n ≤ lim) : n ≤ sizeLine := by
  rw [sizeLine_eq]
  unfold lim at h
  omega
theorem PartOk.go {es : List Expr} {is : List IE} (h : PartOk T Φ X es is) : ∀ (acc : Str) (ρ : Env) (μ : Mu) (σ : L2.St) (H F : Hp) (A : List Addr) (r : X1 Str) (Q : Str → Hp → Prop) (E : WX), Takes X E → SRel T μ H F A → ERel T ρ σ F A → evF Φ is acc ρ μ = some r →
    Post (α := Str) (β := Str) T (fun _ _ w v => w = v) F A Q (fun c d h => E c d σ h) r → tJs (es.map (tPart1 X)) acc σ H Q := by
  induction h with
  | nil =>
    intro acc ρ μ σ H F A r Q E tk s er e p
    simp only [evF] at e
    cases e
    exact p acc H F A (.refl _ _) s rfl
  | @fmt e ie p es is h r ih =>
    intro acc ρ μ σ H F A r' Q E tk s er e po
    simp only [evF] at e
    refine h.then tk s er e po fun w μ1 v H1 F1 A1 x s1 er1 r1 e1 p1 => ?_
    split at e1
    · rename_i d
      split at e1
      · cases e1
      · rename_i y hy
        split at e1
        · rename_i hl
          cases d with
          | str z =>
            simp only [fmtD] at hy
            split at hy
            · rename_i hz
              cases hy
              simp only [RepW, Rep] at r1
              exact .inl ⟨_, r1, lim_line hz, _, rfl, lim_line hl, ih _ _ _ _ _ _ _ _ _ E tk s1 er1 e1 p1⟩
            · cases hy
          | int i =>
            simp only [fmtD] at hy
            split at hy
            · rename_i hz
              cases hy
              simp only [RepW, Rep] at r1
              refine .inr ⟨i, r1, ?_, _, rfl, lim_line hl, ih _ _ _ _ _ _ _ _ _ E tk s1 er1 e1 p1⟩
              by_cases h0 : i.natAbs = 0
              · rw [h0]
                decide
              · have := (Nat.log2_lt h0).mpr hz
                omega
            · cases hy
          | _ => simp only [fmtD] at hy; cases hy
        · cases e1
    · cases e1
  | @txt z j p es is r ih =>
    intro acc ρ μ σ H F A r' Q E tk s er e po
    simp only [evF, evE, R.bind, fmtD] at e
    split at e
    · cases e
    · rename_i y hy
      split at hy
      · cases hy
        split at e
        · rename_i hl
          exact wE_of pe_str ⟨_, rfl, lim_line hl, ih _ _ _ _ _ _ _ _ _ E tk s er e po⟩
        · cases e
      · cases hy
theorem ty_fs {v1 v2 : Expr} {rest : List Expr} {is : List IE} (h : PartOk T Φ X (v1 :: v2 :: rest) is) : TyE T Φ X (.JoinedStr (v1 :: v2 :: rest) pos) (.fs is) := by
  intro ρ μ σ H F A r Q E tk s er e p
  simp only [evE] at e
  refine wE_of (pe_joined h.pj) ?_
  rcases bind_some e with ⟨d, m, e1, rfl⟩ | ⟨z, m, e1, e2⟩
  · exact h.go _ _ _ _ _ _ _ _ _ E tk s er e1 p
  · cases e2
    refine h.go _ _ _ _ _ _ _ _ _ E tk s er e1 fun v H' F' A' x s' rv => ?_
    subst rv
    exact p _ H' F' A' x s' (by simp only [RepW, Rep])
end
end PI
/-! PI27: replace of two written texts, behind an item that gives a token out. -/
namespace PI
open PySem PySem.Spec PyProof.Rows L2
section
/-- behind x + ".." a token is out -/
theorem bump {M : Model} {A : Around} {env : PySem.Env} {x : Expr} {op : Operator} {c : Str} {j : Nat} {p1 p2 : Pos} {Q : Value → Shared → Prop} {E : Value → Shared → Prop} {s : Shared}
    (h : wpAny M A (eval (.BinOp x op (.Constant (.str c) j p1) p2) env) Q E s) : wpAny M A (eval (.BinOp x op (.Constant (.str c) j p1) p2) env) (fun v s1 => 1 ≤ s1.toks ∧ Q v s1) E s := by
  intro Γ p hΓ
  have h := h Γ p hΓ
  simp only [eval_BinOp, Sem.wp_bind', Sem.wp_holding, Sem.wp_cmd_standAt, Sem.wp_operate] at h ⊢
  refine Sem.wp_mono M Γ _ (fun a q1 s1 h1 => ?_) (fun _ _ _ h' => h') _ _ h
  have h2 : Sem.wp M Γ (binaryOp op a (.str c s1.toks)) (fun a _ s' => Q a s') (fun e _ s' => E e s') p2 { s1 with toks := s1.toks + 1 } := h1
  show Sem.wp M Γ (binaryOp op a (.str c s1.toks)) (fun a _ s' => 1 ≤ s'.toks ∧ Q a s') (fun e _ s' => E e s') p2 { s1 with toks := s1.toks + 1 }
  exact Sem.wp_mono M Γ _ (fun _ _ _ z => z) (fun _ _ _ z => z.2) _ _ (Sem.wp_toks M Γ 1 _ _ _ _ { s1 with toks := s1.toks + 1 } (Nat.le_add_left 1 s1.toks) h2)
variable {T : Tb} {Φ : Phi} {X : Cx} {x o : Expr} {ia io : IE} {ir : List IE} {rest : List Expr} {op : Operator} {c y z : Str} {j j2 j3 : Nat} {p1 p2 p3 p4 apos pos : Pos}
theorem tl_rep (ha : TyE T Φ X (.BinOp x op (.Constant (.str c) j p1) p2) ia) (ho : TyE T Φ X o io) (hr : TyL T Φ X rest ir) (hyz : (y == z) = false) (hbase : attributeBase o "replace" X.env (eval o X.env) = eval o X.env) (hline : (apos.endLine == pos.line) = true) :
    TyL T Φ X (.BinOp x op (.Constant (.str c) j p1) p2 :: .Call (.Attribute o "replace" apos) [.Constant (.str y) j2 p3, .Constant (.str z) j3 p4] [] pos :: rest) (ia :: .rep io y z :: ir) := by
  intro ρ μ σ H F A r Q E tk s er e p
  intro ps pins st I
  simp only [evL] at e
  show wpAny _ _ (spliced ((false, eval (.BinOp x op (.Constant (.str c) j p1) p2) X.env) :: backTo ps (starEach (.Call (.Attribute o "replace" apos) [.Constant (.str y) j2 p3, .Constant (.str z) j3 p4] [] pos :: rest) X.env))) _ _ st
  have h1 := ha.then (Q := fun v H1 => ∃ w μ1 F1 A1, RepW T F1 A1 w v ∧ SRel T μ1 H1 F1 A1 ∧ ERel T ρ σ F1 A1 ∧ ((evE Φ (.rep io y z) ρ μ1).bind fun w2 μ2 => (evL Φ ir ρ μ2).bind fun ws μ3 => rok (w2 :: ws) μ3).bind (fun ws μ2 => rok (w :: ws) μ2) = some r ∧ PostL T F1 A1 Q (fun c d h => E c d σ h) r) tk s er e p
    (fun w μ1 v H1 F1 A1 x1 s1 er1 r1 e1 q1 => ⟨w, μ1, F1, A1, r1, s1, er1, e1, q1⟩) pins st I
  refine Calls.spliced_cons (wpAny_mono (bump h1) (fun u s1 hh => ?_) fun _ _ z => z)
  obtain ⟨tok, v, H1, I1, rv, w, μ1, F1, A1, rw1, sr1, er1, e1, q1⟩ := hh
  have pat : PAT X (.Call (.Attribute o "replace" apos) [.Constant (.str y) j2 p3, .Constant (.str z) j3 p4] [] pos :: rest) (tCons (CwR.tReplC (wE X o) y z) (wL X rest)) :=
    pat_cons (CwR.pet_replC pe_w hyz rfl hbase hline) (fun pos pins s σ H Q _ I h => h pos pins s I) rfl
  refine thn (pat ps pins s1 σ H1 (fun vs H2 => Q (v :: vs) H2) tok I1 ?_) fun us s2 ⟨xs, H2, I2, r2, q2⟩ => ⟨v :: xs, H2, I2, .cons rv r2, q2⟩
  have e2 : (evE Φ io ρ μ1).bind (fun w0 μ2 => match w0 with
    | .d (.str t) => if t.length + (t.length + 1) * z.length ≤ lim then (evL Φ ir ρ μ2).bind (fun ws μ3 => rok (w :: .d (.str (Txt.replace t y z)) :: ws) μ3) else none
    | _ => none) = some r := by
    rw [← e1]
    simp only [evE]
    unfold R.bind
    cases evE Φ io ρ μ1 with
    | none => rfl
    | some x1 =>
      cases x1 with
      | er d m => rfl
      | ok w0 m =>
        dsimp only
        cases w0 with
        | r k => rfl
        | d y0 =>
          cases y0 with
          | str t =>
            dsimp only
            by_cases hl : t.length + (t.length + 1) * z.length ≤ lim
            · rw [if_pos hl, if_pos hl]
              dsimp only
              cases evL Φ ir ρ m with
              | none => rfl
              | some x2 => cases x2 <;> rfl
            · rw [if_neg hl, if_neg hl]
          | _ => rfl
  refine ho.then tk sr1 er1 e2 q1 fun w0 μ2 v0 H2 F2 A2 x2 s2 er2 r2 e3 q3 => ?_
  split at e3
  · rename_i t
    simp only [RepW, Rep] at r2
    split at e3
    · rename_i hl
      refine ⟨t, r2, Nat.le_trans hl (by decide), ?_⟩
      refine hr.then tk s2 er2 e3 q3 fun ws μ3 vs H3 F3 A3 x3 s3 er3 r3 e4 q4 => ?_
      cases e4
      exact q4 (v :: .str (Txt.replace t y z) :: vs) H3 F3 A3 (.refl _ _) s3 (.cons (rw1.mono (x2.trans x3)) (.cons (by simp only [RepW, Rep]) r3))
    · cases e3
  · cases e3
end
end PI
/-! PI28: fields and properties of objects of own classes; is True, is False. -/
namespace PI
open PySem PySem.Spec PyProof.Rows L2
section
variable {T : Tb} {Φ : Phi} {X : Cx} {pos : Pos} {a b c : Expr} {ia ib ic : IE}
theorem ty_fldi {f : Str} (hf : f ∈ insFields) (hi : ∀ c C, T.cb c = some C → InsC X.K C insFields) (ha : TyE T Φ X a ia) (hb : attributeBase a f X.env (eval a X.env) = eval a X.env) : TyE T Φ X (.Attribute a f pos) (.fldi f ia) := by
  intro ρ μ σ H F A r Q E tk s er e p
  simp only [evE] at e
  refine wE_of (pe_fld pe_w hb) (ha.then tk s er e p fun w μ1 v H1 F1 A1 x s1 er1 r1 e1 p1 => ?_)
  obtain ⟨w', hw, rfl⟩ := of_some e1
  obtain ⟨d, hd, rfl⟩ := Option.map_eq_some_iff.mp hw
  obtain ⟨d0, hv, hc⟩ := Option.bind_eq_some_iff.mp hd
  have q := s1.view r1 hv
  cases d0 with
  | ins c ns ds =>
    simp only [dFldI] at hc
    have q : Rep T F1 (.ins c ns ds) v := q
    simp only [Rep] at q
    obtain ⟨ad, C, dx, vs, rfl, h1, h2, h3, h4⟩ := q
    obtain ⟨y, hy, ry⟩ := zip_lookup h4 hc
    obtain ⟨cl, no⟩ := hi c C h1
    exact ⟨ad, C, dx, _, y, rfl, s1.sub _ _ h2, cl, no f hf, hy, p1 y H1 F1 A1 (.refl _ _) s1 ry⟩
  | _ => simp only [dFldI] at hc; cases hc
theorem ty_prop {cn f q : Str} (hp : PropR T Φ X cn f q) (ha : TyE T Φ X a ia) (hb : attributeBase a f X.env (eval a X.env) = eval a X.env) : TyE T Φ X (.Attribute a f pos) (.prop cn q ia) := by
  intro ρ μ σ H F A r Q E tk s er e p
  obtain ⟨C, k, hC, hr, run⟩ := hp.ex
  simp only [evE] at e
  intro pins st I
  refine attr_of hb (wpAny_mono (ha.then (Q := fun v H1 => ∃ ad dx fs, v = .ref ad ∧ H1 ad = some (.ins C dx fs) ∧ spF T Φ q 1 [.ref ad] H1 Q (fun _ _ _ => False)) tk s er e p (fun w μ1 v H1 F1 A1 x s1 er1 r1 e1 p1 => ?_) pins st I) (fun u s1 hh => ?_) fun _ _ z => z)
  · split at e1
    · rename_i c' ns vs
      split at e1
      · rename_i hc
        subst hc
        split at e1
        · rename_i u m hu
          cases e1
          simp only [RepW, Rep] at r1
          obtain ⟨ad, C', dx, us, rfl, h1, h2, h3, h4⟩ := r1
          rw [hC] at h1
          cases h1
          refine ⟨ad, dx, _, rfl, s1.sub _ _ h2, rfl, _, μ1, F1, A1, _, .cons ?_ .nil, s1, hu, p1⟩
          simp only [RepW, Rep]
          exact ⟨ad, C, dx, us, rfl, hC, h2, h3, h4⟩
        · cases e1
      · cases e1
    · cases e1
  · obtain ⟨v, H1, I1, rv, ad, dx, fs, rfl, hH, hsp⟩ := hh
    cases (show u = .ref ad from rv)
    exact run X .refl hr ad dx fs pins σ H1 s1 Q _ _ I1 hH hsp
/-- is of two truths -/
theorem o_isb : Op2 T X (compareOp .Is) (fun x y => sem .isb [x, y]) := by
  intro pins s σ H x y v u Q I rx ry h
  obtain ⟨F, d1, d2, d, sF, r1, r2, e, q⟩ := h
  match d1, d2, e with
  | .bl a, .bl b, e =>
    simp only [sem] at e
    cases e
    cases r1.bl; cases r2.bl
    exact op_isBl pins s σ H _ _ v u Q I rx ry ⟨a, b, rfl, rfl, q.bl sF⟩
theorem o_isnb : Op2 T X (compareOp .IsNot) (fun x y => sem .isnb [x, y]) := by
  intro pins s σ H x y v u Q I rx ry h
  obtain ⟨F, d1, d2, d, sF, r1, r2, e, q⟩ := h
  match d1, d2, e with
  | .bl a, .bl b, e =>
    simp only [sem] at e
    cases e
    cases r1.bl; cases r2.bl
    exact op_notBl pins s σ H _ _ v u Q I rx ry ⟨a, b, rfl, rfl, q.bl sF⟩
theorem isb_bl {x y d : D} (h : sem .isb [x, y] = some d) : ∃ k, d = .bl k := by
  match x, y, h with
  | .bl a, .bl b, h =>
    simp only [sem] at h
    cases h
    exact ⟨_, rfl⟩
theorem isnb_bl {x y d : D} (h : sem .isnb [x, y] = some d) : ∃ k, d = .bl k := by
  match x, y, h with
  | .bl a, .bl b, h =>
    simp only [sem] at h
    cases h
    exact ⟨_, rfl⟩
theorem ty_setf {x f : Str} {i : Nat} {e : Expr} {ie : IE} {px pa : Pos} (hi : ∀ c C, T.cb c = some C → InsC X.K C insFields) (hf : f ∈ insFields) (hx : TyE T Φ X (.Name x px) (.var i)) (he : TyE T Φ X e ie)
    (hs : swapsWith e (some (.Attribute (.Name x px) f pa)) pos.line X.env = pure false) : TyS T Φ X (.Assign [.Attribute (.Name x px) f pa] e pos) (.setf i f ie) := by
  intro ρ μ σ H F A r D E tk s er e1 p
  simp only [exS] at e1
  refine wS_of (ps_fld pe_w pe_w hs) ?_
  refine he.st tk s er e1 p fun w μ1 v H1 F1 A1 x1 s1 er1 r1 e2 p1 => ?_
  split at e2
  · rename_i k hk
    split at e2
    · cases e2
    · rename_i d μ2 hd
      split at e2
      · rename_i c ns vs hm
        split at e2
        · rename_i hc
          cases e2
          obtain ⟨F2, s2, sb, rp⟩ := s1.toD r1 hd
          have er2 : ERel T ρ σ F2 A1 := er1.mono ⟨sb, List.prefix_refl _⟩
          refine hx ρ μ2 σ H1 F2 A1 (.ok (.r k) μ2) _ E tk s2 er2 (by simp only [evE, hk]) fun v' H' F' A' x' s' r' => ?_
          obtain ⟨ad, hA, rfl⟩ := r'
          obtain ⟨hF, C, dx, us, h3, h4, h5, h6⟩ := s'.obj k ad _ hA hm
          obtain ⟨cl, no⟩ := hi c C h3
          have hlen : (ns.zip us).length < 1000 := by
            rw [List.length_zip]
            omega
          have hput : putF f v (ns.zip us) = (ns ++ [f]).zip (us ++ [v]) := put_new h5 hc.2
          refine ⟨ad, C, dx, _, rfl, h4, cl, no f hf, hlen, ?_⟩
          rw [hput]
          have s5 := s'.write (o := .ins C dx ((ns ++ [f]).zip (us ++ [v]))) (ob' := .ins c (ns ++ [f]) (vs ++ [d])) hA hm (fun x z => nomatch z) ⟨hF, C, dx, us ++ [v], h3, upd_same, by simp [h5], h6.app (.cons (Rep.mono x'.sub _ _ rp) .nil)⟩
          exact p1 σ _ F' A' ((⟨sb, List.prefix_refl _⟩ : Ext F1 A1 F2 A1).trans x') s5 (er2.mono x')
        · cases e2
      · cases e2
  · cases e2
where put_new {f : Str} {v : V} : ∀ {ns : List Str} {us : List V}, ns.length = us.length → ns.contains f = false → putF f v (ns.zip us) = (ns ++ [f]).zip (us ++ [v])
  | [], [], _, _ => rfl
  | [], _ :: _, h, _ => by cases h
  | _ :: _, [], h, _ => by cases h
  | n :: ns, u :: us, h, hc => by
    have hn : ¬ n = f := fun z => by
      subst z
      simp at hc
    have hc2 : ns.contains f = false := by
      simp at hc ⊢
      exact hc.2
    simp only [List.zip_cons_cons, putF, if_neg hn, List.cons_append]
    rw [put_new (ns := ns) (us := us) (by simpa using h) hc2]
end
end PI
/-! PI11: the translation of expressions is right. -/
namespace PI
open PySem PySem.Spec PyProof.Rows L2

section
variable {T : Tb} {Φ : Phi} {cc : Cc} {X : Cx}
/-- an expression and its test -/
def Both (T : Tb) (Φ : Phi) (X : Cx) (e : Expr) (ie : IE) : Prop := TyE T Φ X e ie ∧ TyB T Φ X e ie
theorem Both.of (hK : X.K = T.K) {e : Expr} {ie : IE} (hv : valB e = true) (h : TyE T Φ X e ie) : Both T Φ X e ie := ⟨h, tb_val hK h (valB_ok hv)⟩
/-- f translates rightly -/
def FOk (T : Tb) (Φ : Phi) (X : Cx) (f : Expr → Option IE) : Prop := ∀ e ie, f e = some ie → Both T Φ X e ie

theorem compName_ok (h : CtxOk T Φ cc X) {x : Str} {p : Pos} {ie : IE} (e : compName cc x = some ie) : Both T Φ X (.Name x p) ie := by
  refine .of h.K rfl ?_
  unfold compName at e
  split at e
  · rename_i ho
    obtain ⟨h1, h2, h3⟩ := okName_ok ho
    split at e
    · rename_i hv
      obtain ⟨i, hi, rfl⟩ := Option.map_eq_some_iff.mp e
      exact ty_var (by rw [h.N]; exact ixOf_ok hi) (h.vis hv) h1 h2
    · split at e
      · rename_i hg
        obtain ⟨d, hd, rfl⟩ := Option.map_eq_some_iff.mp e
        obtain ⟨u, v, hm, rv, rd⟩ := h.cst x d hd
        exact ty_cst (pe_glob (h.gl hg) hm rv h1) rd
      · cases e
  · cases e
theorem compConst_ok (h : CtxOk T Φ cc X) {k : Const} {j : Nat} {p : Pos} {ie : IE} (e : compConst k = some ie) : Both T Φ X (.Constant k j p) ie := by
  refine .of h.K rfl ?_
  cases k <;> simp only [compConst] at e <;> first | (cases e; done) | skip
  all_goals cases e
  all_goals first
    | exact ty_cst pe_int fun F => by simp only [Rep]
    | exact ty_cst pe_str fun F => by simp only [Rep]
    | exact ty_cst pe_bl fun F => by simp only [Rep]
    | exact ty_cst pe_non fun F => by simp only [Rep]
theorem compL_ok {f : Expr → Option IE} (hf : FOk T Φ X f) : ∀ {es : List Expr} {is : List IE}, compL f es = some is → TyL T Φ X es is ∧ es.all plainB = true
  | [], is, e => by
    simp only [compL] at e
    cases e
    exact ⟨ty_nil, rfl⟩
  | a :: r, is, e => by
    simp only [compL] at e
    split at e
    · rename_i ia ir h1 h2
      split at e
      · rename_i hp
        cases e
        obtain ⟨h3, h4⟩ := compL_ok hf h2
        exact ⟨ty_cons (hf a ia h1).1 h3 (plain_star hp r X.env), by simp [hp, h4]⟩
      · cases e
    · cases e
theorem compLR_ok {f : Expr → Option IE} (hf : FOk T Φ X f) {es : List Expr} {is : List IE} (e : compLR f es = some is) : TyL T Φ X es is := by
  unfold compLR at e
  split at e
  · split at e
    · rename_i hc
      simp only [Bool.and_eq_true, Bool.not_eq_true'] at hc
      obtain ⟨⟨⟨hm, ha⟩, hl⟩, hy⟩ := hc
      split at e
      · rename_i ia io ir h1 h2 h3
        cases e
        obtain rfl := eq_of_beq hm
        exact tl_rep (hf _ ia h1).1 (hf _ io h2).1 (compL_ok hf h3).1 hy (attB_ok ha _ _) hl
      · cases e
    · cases e
  · cases e
theorem compBool_ok (h : CtxOk T Φ cc X) {f : Expr → Option IE} (hf : FOk T Φ X f) {op : BoolOp} {p : Pos} : ∀ {es : List Expr} {ie : IE}, compBool f op es = some ie → TyE T Φ X (.BoolOp op es p) ie ∧ TyP T Φ X (.BoolOp op es p) ie
  | [], ie, e => by simp only [compBool] at e; cases e
  | [a], ie, e => by
    simp only [compBool] at e
    obtain ⟨h1, h2⟩ := hf a ie e
    refine ⟨ty_one h1, ?_⟩
    cases op with
    | And => exact tp_and1 h2
    | Or => exact tp_or1 h2
  | a :: b :: r, ie, e => by
    simp only [compBool] at e
    split at e
    · rename_i ia ib h1 h2
      cases e
      obtain ⟨h3, h4⟩ := hf a ia h1
      obtain ⟨h5, h6⟩ := compBool_ok h hf (op := op) (p := p) h2
      cases op with
      | And => exact ⟨ty_and h.K h3 h5, tp_and h4 h6⟩
      | Or => exact ⟨ty_or h.K h3 h5, tp_or h4 h6⟩
    · cases e
theorem bop_ok (h : CtxOk T Φ cc X) {op : Operator} {o : Op} (e : bop op = some o) : Op2 T X (binaryOp op) (fun x y => sem o [x, y]) := by
  cases op <;> simp only [bop] at e <;> first | (cases e; done) | skip
  all_goals cases e
  · exact o_add h.K
  · exact o_sub
  · exact o_mul h.K
  · exact o_mod
  · exact o_pow
  · exact o_fdiv
theorem cop_ok (h : CtxOk T Φ cc X) {op : CmpOp} {o : Op} (e : cop op = some o) : Op2 T X (compareOp op) (fun x y => sem o [x, y]) ∧ ∀ x y d, sem o [x, y] = some d → ∃ k, d = .bl k := by
  have hu : X.A.units + 64 < cLine := by have := h.un; omega
  have hm : ∀ {α : Type} {o : Option α} {g : α → Bool} {d : D}, (o.map fun a => D.bl (g a)) = some d → ∃ k, d = .bl k := fun {α o g d} e => by
    obtain ⟨a, _, rfl⟩ := Option.map_eq_some_iff.mp e
    exact ⟨_, rfl⟩
  have hd : ∀ {f : Int → Int → Bool} {g : D → D → Option Bool} {a b d : D}, dCmp f g a b = some d → ∃ k, d = .bl k := fun {f g a b d} e => by
    rcases dCmp_ok e with ⟨i, j, _, _, rfl⟩ | ⟨k, _, rfl⟩ <;> exact ⟨_, rfl⟩
  cases op <;> simp only [cop] at e <;> first | (cases e; done) | skip
  all_goals cases e
  · exact ⟨o_eq h.K hu, fun x y d z => hm (g := id) z⟩
  · exact ⟨o_ne h.K hu, fun x y d z => hm (g := fun e => !e) z⟩
  · exact ⟨o_lt h.K hu, fun x y d z => hd z⟩
  · exact ⟨o_le h.K hu, fun x y d z => hd z⟩
  · exact ⟨o_gt h.K hu, fun x y d z => hd z⟩
  · exact ⟨o_ge h.K hu, fun x y d z => hd z⟩
  · exact ⟨o_in h.K h.un, fun x y d z => hm (g := id) z⟩
  · exact ⟨o_notin h.K h.un, fun x y d z => hm (g := fun e => !e) z⟩
theorem op1_bl {ia : IE} {o : Op} (hc : ∀ x d, sem o [x] = some d → ∃ k, d = .bl k) {e : Expr} (hE : TyE T Φ X e (.op o [ia])) : True := trivial
/-- is None as a test -/
theorem tb_isN {a : Expr} {ia : IE} {j : Nat} {p p' : Pos} (ha : TyE T Φ X a ia) : TyB T Φ X (.Compare a [.Is] [.Constant .none j p'] p) (.op .isN [ia]) := by
  intro ρ μ σ H F A r Q E tk s er e po
  have e' : (evE Φ ia ρ μ).bind (fun w μ1 => R.of ((view μ1 w).map fun d => match d with | .non => true | _ => false) μ1) = some r := by
    rw [← e]
    unfold evB
    simp only [evE, evL]
    unfold R.bind
    cases evE Φ ia ρ μ with
    | none => rfl
    | some x1 =>
      cases x1 with
      | er d m => rfl
      | ok w m =>
        simp only [views]
        cases hv : view m w with
        | none => rfl
        | some d => cases d <;> rfl
  refine wT_of (pt_cmp (pc_isN pe_w) rfl) (ha.then tk s er e' po fun w μ1 v H1 F1 A1 x s1 er1 r1 e1 p1 => ?_)
  obtain ⟨k, hk, rfl⟩ := of_some e1
  obtain ⟨d, hd, rfl⟩ := Option.map_eq_some_iff.mp hk
  refine ⟨_, rfl, ?_⟩
  have q1 := s1.view r1 hd
  have := p1 _ H1 F1 A1 (.refl _ _) s1 rfl
  cases d with
  | non => cases q1.non; exact this
  | bl b => cases q1.bl; exact this
  | int b => cases q1.int; exact this
  | str b => cases q1.str; exact this
  | tup ds => obtain ⟨a, vs, rfl, _⟩ := q1.tup; exact this
  | lst ds => obtain ⟨a, vs, rfl, _⟩ := q1.lst; exact this
  | scr ds => obtain ⟨a, vs, rfl, _⟩ := q1.scr; exact this
  | dic t ks ds => obtain ⟨a, vs, rfl, _⟩ := q1; exact this
  | ins c ns ds => simp only [RepV, Rep] at q1; obtain ⟨a, C, dx, vs, rfl, _⟩ := q1; exact this
  | exc c ns ds => simp only [RepV, Rep] at q1; obtain ⟨a, C, dx, vs, rfl, _⟩ := q1; exact this
  | fn f => simp only [RepV, Rep] at q1; obtain ⟨a, rfl, _⟩ := q1; exact this
theorem tb_isnotN {a : Expr} {ia : IE} {j : Nat} {p p' : Pos} (ha : TyE T Φ X a ia) : TyB T Φ X (.Compare a [.IsNot] [.Constant .none j p'] p) (.op .isnotN [ia]) := by
  intro ρ μ σ H F A r Q E tk s er e po
  have e' : (evE Φ ia ρ μ).bind (fun w μ1 => R.of ((view μ1 w).map fun d => match d with | .non => false | _ => true) μ1) = some r := by
    rw [← e]
    unfold evB
    simp only [evE, evL]
    unfold R.bind
    cases evE Φ ia ρ μ with
    | none => rfl
    | some x1 =>
      cases x1 with
      | er d m => rfl
      | ok w m =>
        simp only [views]
        cases hv : view m w with
        | none => rfl
        | some d => cases d <;> rfl
  refine wT_of (pt_cmp (pc_notN pe_w) rfl) (ha.then tk s er e' po fun w μ1 v H1 F1 A1 x s1 er1 r1 e1 p1 => ?_)
  obtain ⟨k, hk, rfl⟩ := of_some e1
  obtain ⟨d, hd, rfl⟩ := Option.map_eq_some_iff.mp hk
  refine ⟨_, rfl, ?_⟩
  have q1 := s1.view r1 hd
  have := p1 _ H1 F1 A1 (.refl _ _) s1 rfl
  cases d with
  | non => cases q1.non; exact this
  | bl b => cases q1.bl; exact this
  | int b => cases q1.int; exact this
  | str b => cases q1.str; exact this
  | tup ds => obtain ⟨a, vs, rfl, _⟩ := q1.tup; exact this
  | lst ds => obtain ⟨a, vs, rfl, _⟩ := q1.lst; exact this
  | scr ds => obtain ⟨a, vs, rfl, _⟩ := q1.scr; exact this
  | dic t ks ds => obtain ⟨a, vs, rfl, _⟩ := q1; exact this
  | ins c ns ds => simp only [RepV, Rep] at q1; obtain ⟨a, C, dx, vs, rfl, _⟩ := q1; exact this
  | exc c ns ds => simp only [RepV, Rep] at q1; obtain ⟨a, C, dx, vs, rfl, _⟩ := q1; exact this
  | fn f => simp only [RepV, Rep] at q1; obtain ⟨a, rfl, _⟩ := q1; exact this
theorem compCmp_ok (h : CtxOk T Φ cc X) {f : Expr → Option IE} (hf : FOk T Φ X f) {a b : Expr} {op : CmpOp} {p : Pos} {ie : IE} (e : compCmp f a op b = some ie) : Both T Φ X (.Compare a [op] [b] p) ie := by
  unfold compCmp at e
  split at e
  · rename_i o ho
    split at e
    · rename_i ia ib h1 h2
      split at e
      · rename_i hm
        cases e
        obtain ⟨c1, c2⟩ := cop_ok h ho
        exact ⟨ty_cmp c1 (hf a ia h1).1 (hf b ib h2).1 (markB_ok hm op), tb_cmp c2 c1 (hf a ia h1).1 (hf b ib h2).1 (markB_ok hm op)⟩
      · cases e
    · cases e
  · split at e
    · obtain ⟨i, hi, rfl⟩ := Option.map_eq_some_iff.mp e
      exact ⟨ty_isN (hf a i hi).1, tb_isN (hf a i hi).1⟩
    · obtain ⟨i, hi, rfl⟩ := Option.map_eq_some_iff.mp e
      exact ⟨ty_isnotN (hf a i hi).1, tb_isnotN (hf a i hi).1⟩
    · obtain ⟨i, hi, rfl⟩ := Option.map_eq_some_iff.mp e
      exact ⟨ty_cmp o_isb (hf a i hi).1 (ty_cst pe_bl fun F => by simp only [Rep]) rfl, tb_cmp (fun x y d z => isb_bl z) o_isb (hf a i hi).1 (ty_cst pe_bl fun F => by simp only [Rep]) rfl⟩
    · obtain ⟨i, hi, rfl⟩ := Option.map_eq_some_iff.mp e
      exact ⟨ty_cmp o_isnb (hf a i hi).1 (ty_cst pe_bl fun F => by simp only [Rep]) rfl, tb_cmp (fun x y d z => isnb_bl z) o_isnb (hf a i hi).1 (ty_cst pe_bl fun F => by simp only [Rep]) rfl⟩
    · cases e
theorem bltT_ok (h : CtxOk T Φ cc X) {x : Str} {o : Op} (e : bltT x = some o) : (∃ id, OpC T X (.builtin id) o ∧ bootBuiltins x = some (.builtin id) ∧ X.mg x = none) ∨ ∃ n, OpC T X (.type n) o ∧ bootBuiltins x = some (.type n) ∧ X.mg x = none := by
  have hb : ∀ x, bltNames.contains x = true → X.mg x = none := fun x hx => h.blt x (by simpa using hx)
  unfold bltT at e
  split at e
  · rename_i q; subst q; cases e; exact .inl ⟨_, c_len h.K, by decide +kernel, hb _ (by decide +kernel)⟩
  split at e
  · rename_i q; subst q; cases e; exact .inr ⟨_, c_list h.K h.calm, by decide +kernel, hb _ (by decide +kernel)⟩
  split at e
  · rename_i q; subst q; cases e; exact .inr ⟨_, c_tuple h.K h.calm, by decide +kernel, hb _ (by decide +kernel)⟩
  split at e
  · rename_i q; subst q; cases e; exact .inr ⟨_, c_int, by decide +kernel, hb _ (by decide +kernel)⟩
  split at e
  · rename_i q; subst q; cases e; exact .inl ⟨_, c_abs, by decide +kernel, hb _ (by decide +kernel)⟩
  split at e
  · rename_i q; subst q; cases e; exact .inl ⟨_, c_all h.calm, by decide +kernel, hb _ (by decide +kernel)⟩
  split at e
  · rename_i q; subst q; cases e; exact .inl ⟨_, c_any h.calm, by decide +kernel, hb _ (by decide +kernel)⟩
  split at e
  · rename_i q; subst q; cases e; exact .inl ⟨_, c_min2 h.calm, by decide +kernel, hb _ (by decide +kernel)⟩
  split at e
  · rename_i q; subst q; cases e; exact .inl ⟨_, c_max2 h.calm, by decide +kernel, hb _ (by decide +kernel)⟩
  split at e
  · rename_i q; subst q; cases e; exact .inr ⟨_, c_str, by decide +kernel, hb _ (by decide +kernel)⟩
  split at e
  · rename_i q; subst q; cases e; exact .inl ⟨_, c_sorted h.K h.calm (by have := h.un; omega), by decide +kernel, hb _ (by decide +kernel)⟩
  split at e
  · rename_i q; subst q; cases e; exact .inl ⟨_, c_sum h.calm, by decide +kernel, hb _ (by decide +kernel)⟩
  · cases e
theorem compIsi_ok (h : CtxOk T Φ cc X) {f : Expr → Option IE} (hf : FOk T Φ X f) {a t : Expr} {p p' : Pos} {ie : IE} (hg : glB cc "isinstance" = true) (e : compIsi cc f a t = some ie) : TyE T Φ X (.Call (.Name "isinstance" p) [a, t] [] p') ie := by
  have hm : X.mg "isinstance" = none := h.blt _ (by decide +kernel)
  unfold compIsi at e
  split at e
  · split at e
    · rename_i ty h1
      split at e
      · rename_i ia h2
        split at e
        · rename_i hc
          cases e
          simp only [Bool.and_eq_true] at hc
          obtain ⟨⟨g, pl⟩, bn⟩ := hc
          exact ty_isi1 h.K (h.gl hg) hm h1 (h.gl g) (h.blt _ (by simpa using bn)) (hf a ia h2).1 (plain_star pl _ _)
        · cases e
      · cases e
    · split at e
      · rename_i l ia h2 h3
        split at e
        · rename_i hc
          cases e
          simp only [Bool.and_eq_true] at hc
          obtain ⟨⟨g, pl⟩, bn⟩ := hc
          exact ty_isx h.K h.err (h.gl hg) hm (h.cls _ l h2) (h.gl g) bn (hf a ia h3).1 (plain_star pl _ _)
        · cases e
      · cases e
  · split at e
    · rename_i l ia h1 h2
      split at e
      · rename_i hc
        cases e
        simp only [Bool.and_eq_true, Bool.not_eq_true', decide_eq_true_eq] at hc
        obtain ⟨⟨⟨⟨g, pl⟩, bn⟩, ne⟩, hz⟩ := hc
        refine ty_isiN h.K (h.gl hg) hm h1 hz (fun q hq => ⟨h.gl ?_, h.blt _ ?_⟩) (hf a ia h2).1 (fun z => by rw [z] at ne; simp at ne) (plain_star pl _ _)
        · unfold tysB at g
          exact List.all_eq_true.mp g q hq
        · simpa using List.all_eq_true.mp bn q hq
      · cases e
    · cases e
  · cases e
theorem compRg_ok (h : CtxOk T Φ cc X) {f : Expr → Option IE} (hf : FOk T Φ X f) {x : Str} {as : List Expr} {p p' : Pos} {ie : IE} (hg : glB cc x = true) (e : compRg cc f x as = some ie) : TyE T Φ X (.Call (.Name x p) as [] p') ie := by
  unfold compRg at e
  split at e
  · rename_i y py b pb
    split at e
    · rename_i hc
      obtain ⟨i, hi, rfl⟩ := Option.map_eq_some_iff.mp e
      simp only [Bool.and_eq_true, Bool.or_eq_true, beq_iff_eq] at hc
      obtain ⟨⟨⟨hy, hx⟩, gy⟩, pl⟩ := hc
      subst hy
      rcases hx with hx | hx
      · subst hx
        exact ty_lstrg h.calm (h.gl hg) (h.blt _ (by decide +kernel)) (h.gl gy) (h.blt _ (by decide +kernel)) (hf _ i hi).1 (plain_star pl _ _) (plain_star rfl _ _)
      · subst hx
        exact ty_tuprg h.calm (h.gl hg) (h.blt _ (by decide +kernel)) (h.gl gy) (h.blt _ (by decide +kernel)) (hf _ i hi).1 (plain_star pl _ _) (plain_star rfl _ _)
    · cases e
  · cases e
theorem compCall_ok (h : CtxOk T Φ cc X) {f : Expr → Option IE} (hf : FOk T Φ X f) {x : Str} {as : List Expr} {p p' : Pos} {ie : IE} (e : compCall cc f x as = some ie) : TyE T Φ X (.Call (.Name x p) as [] p') ie := by
  unfold compCall at e
  split at e
  · rename_i hc
    obtain ⟨ho, hg⟩ := Bool.and_eq_true_iff.mp hc
    obtain ⟨h1, h2, h3⟩ := okName_ok ho
    split at e
    · rename_i hx
      subst hx
      split at e
      · exact compIsi_ok h hf hg e
      · cases e
    · split at e
      · rename_i o hb
        split at e
        · cases e
        · rename_i a r
          split at e
          · rename_i ie' hr
            cases e
            exact compRg_ok h hf hg hr
          obtain ⟨is, hl, rfl⟩ := Option.map_eq_some_iff.mp e
          obtain ⟨tl, pl⟩ := compL_ok hf hl
          simp only [List.all_cons, Bool.and_eq_true] at pl
          rcases bltT_ok h hb with ⟨id, c, bt, mn⟩ | ⟨n, c, bt, mn⟩
          · exact ty_callB c (h.gl hg) mn bt tl h3 h1 (plain_star pl.1 _ _) (plain_any pl.2)
          · exact ty_callTy c (h.gl hg) mn bt tl h3 h1 (plain_star pl.1 _ _) (plain_any pl.2)
      · split at e
        · rename_i n hn
          obtain ⟨is, hl, rfl⟩ := Option.map_eq_some_iff.mp e
          obtain ⟨tl, pl⟩ := compL_ok hf hl
          cases as with
          | nil =>
            simp only [compL] at hl
            cases hl
            exact ty_call0 (h.own x n hn) (h.gl hg) h1
          | cons a r =>
            simp only [List.all_cons, Bool.and_eq_true] at pl
            exact ty_call (h.own x n hn) (h.gl hg) tl h1 (plain_star pl.1 _ _) (plain_any pl.2)
        · cases e
  · cases e
theorem kws_ok {env : PySem.Env} {pos : Pos} : ∀ {kws : List Keyword} {ks : List Str}, kwNames kws = some ks → (backToKw pos (keywordEach kws env)).all (·.1.isSome) = true ∧ (backToKw pos (keywordEach kws env)).filterMap (·.1) = ks ∧ (backToKw pos (keywordEach kws env)).any (·.1.isNone) = false
  | [], ks, e => by
    simp only [kwNames] at e
    cases e
    exact ⟨rfl, rfl, rfl⟩
  | ⟨some n, v, p⟩ :: r, ks, e => by
    simp only [kwNames] at e
    obtain ⟨l, hl, rfl⟩ := Option.map_eq_some_iff.mp e
    obtain ⟨h1, h2, h3⟩ := kws_ok (env := env) (pos := pos) hl
    refine ⟨?_, ?_, ?_⟩
    · show (true && (backToKw pos (keywordEach r env)).all (·.1.isSome)) = true
      rw [h1]
      rfl
    · show n :: (backToKw pos (keywordEach r env)).filterMap (·.1) = n :: l
      rw [h2]
    · show (false || (backToKw pos (keywordEach r env)).any (·.1.isNone)) = false
      rw [h3]
      rfl
  | ⟨none, v, p⟩ :: r, ks, e => by
    simp only [kwNames] at e
    cases e
theorem compKs_ok {f : Expr → Option IE} (hf : FOk T Φ X f) : ∀ {kws : List Keyword} {is : List IE}, compKs f kws = some is → TyK T Φ X kws is
  | [], is, e => by
    simp only [compKs] at e
    cases e
    exact tk_nil
  | ⟨n, v, p⟩ :: r, is, e => by
    simp only [compKs] at e
    split at e
    · rename_i i l h1 h2
      cases e
      exact tk_cons (hf v i h1).1 (compKs_ok hf h2)
    · cases e
theorem compKs_len {f : Expr → Option IE} : ∀ {kws : List Keyword} {is : List IE} {ks : List Str}, compKs f kws = some is → kwNames kws = some ks → is.length = ks.length
  | [], is, ks, e, e2 => by
    simp only [compKs] at e
    simp only [kwNames] at e2
    cases e
    cases e2
    rfl
  | ⟨some n, v, p⟩ :: r, is, ks, e, e2 => by
    simp only [compKs] at e
    simp only [kwNames] at e2
    obtain ⟨l2, h3, rfl⟩ := Option.map_eq_some_iff.mp e2
    split at e
    · rename_i i l h1 h2
      cases e
      simp [compKs_len h2 h3]
    · cases e
  | ⟨none, v, p⟩ :: r, is, ks, e, e2 => by
    simp only [kwNames] at e2
    cases e2
theorem compCallK_ok (h : CtxOk T Φ cc X) {f : Expr → Option IE} (hf : FOk T Φ X f) {x : Str} {kws : List Keyword} {p p' : Pos} {ie : IE} (e : compCallK cc f x kws = some ie) : TyE T Φ X (.Call (.Name x p) [] kws p') ie := by
  unfold compCallK at e
  split at e
  · rename_i hc
    simp only [Bool.and_eq_true] at hc
    obtain ⟨⟨ho, hg⟩, hs⟩ := hc
    obtain ⟨h1, h2, h3⟩ := okName_ok ho
    obtain ⟨n, hn⟩ := Option.isSome_iff_exists.mp hs
    split at e
    · rename_i ks hk
      split at e
      · rename_i pm is hp hi
        cases e
        obtain ⟨k1, k2, k3⟩ := kws_ok (env := X.env) (pos := p') hk
        refine ty_callK (h.own x n hn) hp (h.gl hg) (compKs_ok hf hi) h1 k1 k2 (compKs_len hi hk) ?_
        rw [k3]
        rfl
      · cases e
    · cases e
  · cases e
theorem compParts_ok {f : Expr → Option IE} (hf : FOk T Φ X f) {es : List Expr} : ∀ {is : List IE}, compParts f es = some is → PartOk T Φ X es is := by
  fun_induction compParts f es with
  | case1 =>
    intro is e
    cases e
    exact .nil
  | case2 e p r i l h2 h1 ih =>
    intro is e2
    cases e2
    exact .fmt (hf _ _ h1).1 (ih h2)
  | case3 => intro is e; cases e
  | case4 => intro is e; cases e
  | case5 s j p r ih =>
    intro is e
    obtain ⟨l, hl, rfl⟩ := Option.map_eq_some_iff.mp e
    exact .txt (ih hl)
  | case6 => intro is e; cases e
theorem compMeth_ok (h : CtxOk T Φ cc X) {f : Expr → Option IE} (hf : FOk T Φ X f) {o : Expr} {m : Str} {apos pos : Pos} {as : List Expr} {ie : IE} (e : compMeth f o m apos as pos = some ie) : TyE T Φ X (.Call (.Attribute o m apos) as [] pos) ie := by
  unfold compMeth at e
  split at e
  · rename_i hc
    obtain ⟨ha, hl⟩ := Bool.and_eq_true_iff.mp hc
    split at e
    · rename_i hm
      subst hm
      split at e
      · obtain ⟨io, hi, rfl⟩ := Option.map_eq_some_iff.mp e
        exact ty_pop0 (hf o io hi).1 (attB_ok ha _ _) hl
      · split at e
        · rename_i io ii h1 h2
          split at e
          · rename_i hp
            cases e
            refine ty_pop1 (hf o io h1).1 (hf _ ii h2).1 (attB_ok ha _ _) hl (plain_star hp _ _) ?_
            rw [plain_all (by simp [hp])]
            rfl
          · cases e
        · cases e
      · cases e
    · split at e
      · rename_i op b hm
        split at e
        · rename_i io ib h1 h2
          split at e
          · rename_i hp
            cases e
            unfold mOp at hm
            split at hm
            · rename_i z
              subst z
              cases hm
              exact ty_m1 PySem.F.slot_str_join PySem.F.type_str_join mt_join (m1_join h.K) (hf o io h1).1 (hf b ib h2).1 (plain_star hp _ _) (attB_ok ha _ _) hl
            split at hm
            · rename_i z
              subst z
              cases hm
              exact ty_m1 PySem.F.slot_str_split PySem.F.type_str_split mt_split m1_split (hf o io h1).1 (hf b ib h2).1 (plain_star hp _ _) (attB_ok ha _ _) hl
            split at hm
            · rename_i z
              subst z
              cases hm
              exact ty_m1 PySem.F.slot_str_startswith PySem.F.type_str_startswith mt_startswith m1_starts (hf o io h1).1 (hf b ib h2).1 (plain_star hp _ _) (attB_ok ha _ _) hl
            · cases hm
          · cases e
        · cases e
      · cases e
  · cases e
theorem compO_ok {f : Expr → Option IE} (hf : FOk T Φ X f) {o : Option Expr} {r : Bool × IE} (e : compO f o = some r) : TyO T Φ X r.1 o r.2 := by
  cases o with
  | none => simp only [compO] at e; cases e; exact to_none
  | some a =>
    simp only [compO] at e
    obtain ⟨i, hi, rfl⟩ := Option.map_eq_some_iff.mp e
    exact to_some (hf a i hi).1
theorem compIter_fold {cc : Cc} {f : Expr → Option IE} {e : Expr} {tp : Bool} {it : IT} (c : compIter cc f e tp = some it) : foldB e = true := by
  unfold compIter at c
  split at c
  · assumption
  · cases c
theorem compIter_ok (h : CtxOk T Φ cc X) {f : Expr → Option IE} (hf : FOk T Φ X f) {e tg : Expr} {it : IT} (c : compIter cc f e (isTup tg) = some it) : TyI T Φ X tg e it ∧ foldB e = true := by
  unfold compIter at c
  split at c
  · rename_i hfold
    refine ⟨?_, hfold⟩
    split at c
    · rename_i x p as p'
      split at c
      · rename_i hg
        obtain ⟨hg, ho⟩ := Bool.and_eq_true_iff.mp hg
        split at c
        · rename_i hx
          subst hx
          have hm : X.mg "range" = none := h.blt _ (by decide +kernel)
          split at c
          · split at c
            · rename_i hp
              obtain ⟨ia, hi, rfl⟩ := Option.map_eq_some_iff.mp c
              exact ti_rng1 (h.gl hg) hm (hf _ ia hi).1 (plain_star hp _ _)
            · cases c
          · split at c
            · rename_i ia ib h1 h2
              split at c
              · rename_i hp
                obtain ⟨hp1, hp2⟩ := Bool.and_eq_true_iff.mp hp
                cases c
                exact ti_rng2 (h.gl hg) hm (hf _ ia h1).1 (hf _ ib h2).1 (plain_star hp1 _ _) (plain_star hp2 _ _)
              · cases c
            · cases c
          · cases c
        · split at c
          · rename_i hx
            subst hx
            have hm : X.mg "enumerate" = none := h.blt _ (by decide +kernel)
            split at c
            · split at c
              · rename_i hp
                obtain ⟨hp1, hp2⟩ := Bool.and_eq_true_iff.mp hp
                obtain ⟨ia, hi, rfl⟩ := Option.map_eq_some_iff.mp c
                cases tg with
                | Tuple elts kk tp => exact ti_enu (h.gl hg) hm (hf _ ia hi).1 (plain_star hp1 _ _)
                | _ => simp [isTup] at hp2
              · cases c
            · cases c
          · split at c
            · rename_i hx
              subst hx
              have hm : X.mg "zip" = none := h.blt _ (by decide +kernel)
              split at c
              · split at c
                · rename_i ia ib h1 h2
                  split at c
                  · rename_i hp
                    obtain ⟨hp12, hp3⟩ := Bool.and_eq_true_iff.mp hp
                    obtain ⟨hp1, hp2⟩ := Bool.and_eq_true_iff.mp hp12
                    cases c
                    cases tg with
                    | Tuple elts kk tp => exact ti_zip h.K (h.gl hg) hm (hf _ ia h1).1 (hf _ ib h2).1 (plain_star hp1 _ _) (plain_star hp2 _ _) (plain_any (by simp [hp2]))
                    | _ => simp [isTup] at hp3
                  · cases c
                · cases c
              · cases c
            · split at c
              · rename_i hx
                subst hx
                have hm : X.mg "reversed" = none := h.blt _ (by decide +kernel)
                have hm2 : X.mg "range" = none := h.blt _ (by decide +kernel)
                split at c
                · split at c
                  · rename_i hp
                    obtain ⟨hp12, hp3⟩ := Bool.and_eq_true_iff.mp hp
                    obtain ⟨hp1, hp2⟩ := Bool.and_eq_true_iff.mp hp12
                    obtain ⟨ia, hi, rfl⟩ := Option.map_eq_some_iff.mp c
                    have ey := beq_iff_eq.mp hp2
                    subst ey
                    exact ti_rvr1 (h.gl hg) hm (h.gl hp3) hm2 (hf _ ia hi).1 (plain_star hp1 _ _)
                  · cases c
                · cases c
              · obtain ⟨ia, hi, rfl⟩ := Option.map_eq_some_iff.mp c
                exact ti_seq h.K (hf _ ia hi).1
      · cases c
    · obtain ⟨ia, hi, rfl⟩ := Option.map_eq_some_iff.mp c
      exact ti_seq h.K (hf _ ia hi).1
  · cases c
/-! targets -/
theorem pg_slots (h : CtxOk T Φ cc X) : ∀ {es : List Expr} {xs : List Str} {is : List Nat}, namesOf es = some xs → slotsOf cc xs = some is → PGs X es (gS is) ∧ (assignEach es X.env).length = is.length ∧ (assignEach es X.env).findIdx? (·.1) = none
  | [], xs, is, h1, h2 => by
    simp only [namesOf] at h1
    cases h1
    simp only [slotsOf] at h2
    cases h2
    exact ⟨pgs_nil, rfl, rfl⟩
  | e :: es, xs, is, h1, h2 => by
    cases e with
    | Name x p =>
      simp only [namesOf] at h1
      obtain ⟨ys, hy, rfl⟩ := Option.map_eq_some_iff.mp h1
      simp only [slotsOf] at h2
      split at h2
      · rename_i hl
        split at h2
        · rename_i i l hi hs
          cases h2
          obtain ⟨g1, g2, g3⟩ := pg_slots h hy hs
          obtain ⟨l1, l2⟩ := h.loc hl
          refine ⟨pgs_cons (pg_name h.nd (by rw [h.N]; exact ixOf_ok hi) l1 l2) g1 rfl, ?_, ?_⟩
          · show (assignEach es X.env).length + 1 = l.length + 1
            rw [g2]
          · show List.findIdx? (·.1) ((false, assign (.Name x p) X.env) :: assignEach es X.env) = none
            rw [List.findIdx?_cons]
            simp [g3]
        · cases h2
      · cases h2
    | _ => cases h1
theorem compTg_ok (h : CtxOk T Φ cc X) {tg : Expr} {t : Tg} (c : compTg cc tg = some t) : PG X tg (gT X.K t) := by
  cases tg with
  | Name x p =>
    simp only [compTg] at c
    obtain ⟨l, hl, rfl⟩ := Option.map_eq_some_iff.mp c
    simp only [slotsOf] at hl
    split at hl
    · rename_i hloc
      split at hl
      · rename_i i l' hi hs
        cases hl
        cases hs
        obtain ⟨l1, l2⟩ := h.loc hloc
        exact pg_name h.nd (by rw [h.N]; exact ixOf_ok hi) l1 l2
      · cases hl
    · cases hl
  | Tuple es k p =>
    simp only [compTg] at c
    split at c
    · rename_i xs hx
      obtain ⟨is, hs, rfl⟩ := Option.map_eq_some_iff.mp c
      obtain ⟨g1, g2, g3⟩ := pg_slots h hx hs
      exact pg_or (pg_tup h.calm g1 g2 g3) (pg_lst h.calm g1 g2 g3)
    · cases c
  | _ => cases c
theorem own_slots {c1 c2 : Cc} (hN : c1.N = c2.N) : ∀ {xs : List Str} {own : List (Str × Nat)} {is : List Nat}, ownOf c1 xs = some own → slotsOf c2 xs = some is → own.map (·.2) = is
  | [], own, is, h1, h2 => by
    simp only [ownOf] at h1
    simp only [slotsOf] at h2
    cases h1
    cases h2
    rfl
  | x :: xs, own, is, h1, h2 => by
    simp only [ownOf] at h1
    split at h1
    · rename_i i l hi hl
      cases h1
      simp only [slotsOf] at h2
      split at h2
      · split at h2
        · rename_i j m hj hm
          cases h2
          have e : i = j := by
            unfold ixOf at hi hj
            rw [hN] at hi
            exact Option.some.inj (hi.symm.trans hj)
          rw [List.map_cons, own_slots hN hl hm, e]
        · cases h2
      · cases h2
    · cases h1
theorem lc_slots {own : List (Str × Nat)} {t : Tg} {tg : Expr} {c2 : Cc} (hN : cc.N = c2.N) (h1 : ownOf cc (tgNames tg) = some own) (h2 : compTg c2 tg = some t) : ∀ i ∈ (match t with | .one i => [i] | .tup is => is), i ∈ own.map (·.2) := by
  cases tg with
  | Name x p =>
    simp only [compTg] at h2
    obtain ⟨l, hl, rfl⟩ := Option.map_eq_some_iff.mp h2
    have e := own_slots hN (xs := [x]) h1 hl
    intro i hi
    rw [e]
    simp only [slotsOf] at hl
    split at hl
    · split at hl
      · rename_i j l' hj hs
        cases hl
        have : i = j := by simpa using hi
        rw [this]
        exact List.mem_cons_self
      · cases hl
    · cases hl
  | Tuple es k p =>
    simp only [compTg] at h2
    split at h2
    · rename_i xs hx
      obtain ⟨is, hs, rfl⟩ := Option.map_eq_some_iff.mp h2
      simp only [tgNames, hx, Option.getD_some] at h1
      rw [own_slots hN h1 hs]
      exact fun i hi => hi
    · cases h2
  | _ => cases h2
theorem compC_ok {f : Expr → Option IE} (hf : FOk T Φ X f) {cs : List Expr} {ics : List IE} (hl : cs.length ≤ 1) (e : compL f cs = some ics) : TyC T Φ X cs ics := by
  match cs, hl with
  | [], _ => simp only [compL] at e; cases e; exact tc_nil
  | [c], _ =>
    simp only [compL] at e
    split at e
    · rename_i ia ir h1 h2
      split at e
      · cases h2
        cases e
        exact tc_one (hf c ia h1).2
      · cases e
    · cases e
theorem evB_ite {ρ : PI.Env} {μ : Mu} {ic ia ib : IE} : evB Φ (.ite ic ia ib) ρ μ = (evB Φ ic ρ μ).bind fun b μ1 => if b = true then evB Φ ia ρ μ1 else evB Φ ib ρ μ1 := by
  unfold evB
  simp only [evE]
  cases evE Φ ic ρ μ with
  | none => rfl
  | some x1 =>
    cases x1 with
    | er d m => rfl
    | ok w m =>
      simp only [R.bind]
      cases hk : (view m w).bind truth with
      | none => rfl
      | some k => cases k <;> simp [R.of]
theorem tb_ite {c a b : Expr} {ic ia ib : IE} {pos : Pos} (hc : TyB T Φ X c ic) (ha : TyB T Φ X a ia) (hb : TyB T Φ X b ib) : TyB T Φ X (.IfExp c a b pos) (.ite ic ia ib) := by
  intro ρ μ σ H F A r Q E tk s er e p
  rw [evB_ite] at e
  have hp : PT X (.IfExp c a b pos) (fun σ H Q => wT X c σ H fun k H1 => if k = true then wT X a σ H1 Q else wT X b σ H1 Q) := ⟨fun pins st σ H Q I h => isTrue_IfExp (thn (h pins st I) fun k s1 ⟨H1, I1, q⟩ => by
    cases k with
    | true => exact q pins s1 I1
    | false => exact q pins s1 I1)⟩
  refine wT_of hp (hc.then tk s er e p fun k μ1 H1 F1 A1 x s1 er1 e1 p1 => ?_)
  cases k with
  | true => rw [if_pos rfl] at e1 ⊢; exact ha ρ μ1 σ H1 F1 A1 r Q E tk s1 er1 e1 p1
  | false => rw [if_neg Bool.false_ne_true] at e1 ⊢; exact hb ρ μ1 σ H1 F1 A1 r Q E tk s1 er1 e1 p1
/-- THE TRANSLATION OF EXPRESSIONS IS RIGHT -/
theorem compE_ok : ∀ (n : Nat) {cc : Cc} {X : Cx}, CtxOk T Φ cc X → FOk T Φ X (compE n cc)
  | 0, cc, X, h, e, ie, c => by simp only [compE] at c; cases c
  | n + 1, cc, X, h, e, ie, c => by
    have hf : FOk T Φ X (compE n cc) := compE_ok n h
    unfold compE at c
    split at c
    · exact compName_ok h c
    · exact compConst_ok h c
    · split at c
      · rename_i o ia ib h1 h2 h3
        cases c
        exact .of h.K rfl (ty_bin (bop_ok h h1) (hf _ ia h2).1 (hf _ ib h3).1)
      · cases c
    · obtain ⟨i, hi, rfl⟩ := Option.map_eq_some_iff.mp c
      exact .of h.K rfl (ty_neg (hf _ i hi).1)
    · obtain ⟨i, hi, rfl⟩ := Option.map_eq_some_iff.mp c
      exact ⟨ty_not h.K (hf _ i hi).1, tb_not (hf _ i hi).2⟩
    · obtain ⟨h1, h2⟩ := compBool_ok h hf c
      exact ⟨h1, h2.toB⟩
    · exact compCmp_ok h hf c
    · split at c
      · rename_i o1 o2 ia ib ic h1 h2 h3 h4 h5
        split at c
        · rename_i hm
          cases c
          have hm := by simpa using hm
          exact ⟨ty_chain (cop_ok h h1).1 (cop_ok h h2).1 (hf _ ia h3).1 (hf _ ib h4).1 (hf _ ic h5).1 hm, tb_chain (cop_ok h h1).1 (cop_ok h h2).1 (hf _ ia h3).1 (hf _ ib h4).1 (hf _ ic h5).1 hm⟩
        · cases c
      · cases c
    · split at c
      · rename_i ic ia ib h1 h2 h3
        cases c
        exact ⟨ty_ite (hf _ ic h1).2 (hf _ ia h2).1 (hf _ ib h3).1, tb_ite (hf _ ic h1).2 (hf _ ia h2).2 (hf _ ib h3).2⟩
      · cases c
    · exact .of h.K rfl (compCall_ok h hf c)
    · exact .of h.K rfl (compCallK_ok h hf c)
    · obtain ⟨is, hi, rfl⟩ := Option.map_eq_some_iff.mp c
      exact .of h.K rfl (ty_fs (compParts_ok hf hi))
    · split at c
      · rename_i hc
        obtain ⟨h1, h2⟩ := Bool.and_eq_true_iff.mp hc
        obtain ⟨i, hi, rfl⟩ := Option.map_eq_some_iff.mp c
        exact .of h.K rfl (ty_fld (by simpa using h1) h.err (hf _ i hi).1 (attB_ok h2 _ _))
      split at c
      · rename_i hc
        obtain ⟨h1, h2⟩ := Bool.and_eq_true_iff.mp hc
        obtain ⟨i, hi, rfl⟩ := Option.map_eq_some_iff.mp c
        exact .of h.K rfl (ty_fldi (by simpa using h1) h.ins (hf _ i hi).1 (attB_ok h2 _ _))
      split at c
      · rename_i h2
        split at c
        · rename_i cn q i hp hi
          cases c
          exact .of h.K rfl (ty_prop (h.prp _ _ _ hp) (hf _ i hi).1 (attB_ok h2 _ _))
        · cases c
      · cases c
    · exact .of h.K rfl (compMeth_ok h hf c)
    · split at c
      · rename_i ie is h1 h2
        cases c
        obtain ⟨tl, pl⟩ := compL_ok hf h2
        simp only [List.all_cons, Bool.and_eq_true] at pl
        exact .of h.K rfl (ty_callv (fun g b hb => by
          obtain ⟨z1, n, z2⟩ := h.fns g b hb
          exact ⟨z1, n, h.own g n z2⟩) (hf _ ie h1).1 tl (plain_star pl.1 _ _) (plain_any pl.2))
      · cases c
    · split at c
      · rename_i ia l hh h1 h2 h3
        cases c
        exact .of h.K rfl (ty_sl h.K (hf _ ia h1).1 (compO_ok hf h2) (compO_ok hf h3))
      · cases c
    · split at c
      · rename_i ia ib h1 h2
        split at c
        · rename_i hx
          cases c
          exact .of h.K rfl (ty_ix h.K h.un (hf _ ia h1).1 (hf _ ib h2).1 (ixB_ok hx))
        · cases c
      · cases c
    · cases c
      exact .of h.K rfl (ty_newr tf_dnew)
    · obtain ⟨is, hi, rfl⟩ := Option.map_eq_some_iff.mp c
      exact .of h.K rfl (ty_tup (compL_ok hf hi).1)
    · split at c
      · rename_i l hl
        cases c
        exact .of h.K rfl (ty_lst (compLR_ok hf hl))
      · obtain ⟨is, hi, rfl⟩ := Option.map_eq_some_iff.mp c
        exact .of h.K rfl (ty_lst (compL_ok hf hi).1)
    · split at c
      · rename_i own iit t ics ie' h1 h2 h3 h4 h5
        split at c
        · rename_i hb
          cases c
          obtain ⟨hb, hcs⟩ := Bool.and_eq_true_iff.mp hb
          obtain ⟨ti, tf⟩ := compIter_ok h hf h2
          have bo := blkOk_by hb
          rw [← h.N, ← h.sc] at bo
          refine .of h.K rfl (ty_lcE h.K h.calm h.nd ti bo (lc_slots (cc := cc) (c2 := cc.blk _) rfl h1 h3) (fun s H C cl fp => compTg_ok (h.blk _ s H C cl fp) h3) (fun s H C cl fp => ?_) (fun s H C cl fp => (compE_ok n (h.blk _ s H C cl fp) _ _ h5).1) (foldB_ok tf X.env))
          exact compC_ok (compE_ok n (h.blk _ s H C cl fp)) (by simpa using hcs) h4
        · cases c
      · cases c
    · split at c
      · rename_i own iit t ics iit1 t1 ics1 ie' h1 h2 h3 h4 h5 h6 h7 h8
        split at c
        · rename_i hb
          cases c
          simp only [Bool.and_eq_true, List.all_eq_true] at hb
          obtain ⟨⟨⟨hb, hcs⟩, hcs1⟩, hsl⟩ := hb
          obtain ⟨ti, tf⟩ := compIter_ok h hf h2
          have bo := blkOk_by hb
          rw [← h.N, ← h.sc] at bo
          have hm : ∀ i ∈ t.slots ++ t1.slots, i ∈ own.map (·.2) := fun i hi => by simpa using hsl i hi
          refine .of h.K rfl (ty_lc2E h.K h.calm h.nd ti bo (fun i hi => hm i (List.mem_append_left _ (by cases t <;> exact hi))) (fun i hi => hm i (List.mem_append_right _ hi)) (fun s H C cl fp => compTg_ok (h.blk _ s H C cl fp) h3) (fun s H C cl fp => ?_)
            (fun s H C cl fp => (compIter_ok (h.blk _ s H C cl fp) (compE_ok n (h.blk _ s H C cl fp)) h5).1) (fun s H C cl fp => compTg_ok (h.blk _ s H C cl fp) h6) (fun s H C cl fp => ?_) (fun s H C cl fp => (compE_ok n (h.blk _ s H C cl fp) _ _ h8).1) (foldB_ok tf X.env) (fun env x => foldB_ok (compIter_fold h5) env x))
          · exact compC_ok (compE_ok n (h.blk _ s H C cl fp)) (by simpa using hcs) h4
          · exact compC_ok (compE_ok n (h.blk _ s H C cl fp)) (by simpa using hcs1) h7
        · cases c
      · cases c
    · cases c
end
end PI
/-! PI12: the translation of statements and defs. -/
namespace PI
open PySem PySem.Spec PyProof.Rows L2

def tupB : Expr → Bool
  | .Tuple .. => false
  | _ => true
theorem swNone {es : List Expr} {kt : Nat} {pt : Pos} {v : Expr} {env : PySem.Env} (h : tupB v = true) : swappedStores [.Tuple es kt pt] v env = pure none := by
  cases v <;> first | rfl | (simp [tupB] at h)
theorem swCell {x y : Str} {px py pt pt2 : Pos} {kt k2 : Nat} {a b : Expr} {env : PySem.Env} (h : env.scope.names.lookup x = some .cell) : swappedStores [.Tuple [.Name x px, .Name y py] kt pt] (.Tuple [a, b] k2 pt2) env = pure none := by
  have h1 : env.kindOf x = some .cell := h
  unfold swappedStores
  simp only [List.length_cons, List.length_nil]
  split
  · rfl
  · split
    · rfl
    · have h2 : (some NameKind.cell == some NameKind.local) = false := rfl
      simp only [Expr.pos, List.head?_cons, Option.map_some, Option.getD_some, List.filterMap_cons, List.filterMap_nil, h1, h2, Bool.false_and, Bool.false_eq_true, if_false]
      by_cases q : (env.kindOf y == some NameKind.local && py.line == px.line) = true
      · simp only [q, if_true]
        rfl
      · simp only [q, if_false]
        rfl
theorem swFold {es vs : List Expr} {kt k2 : Nat} {pt pt2 : Pos} {env : PySem.Env} (h : vs.all (foldedForSure 8) = true) : swappedStores [.Tuple es kt pt] (.Tuple vs k2 pt2) env = pure none := by
  unfold swappedStores
  simp only [h, if_true, ite_self]
theorem swSub {o i : Expr} {p : Pos} {v : Expr} {env : PySem.Env} : swappedStores [.Subscript o i p] v env = pure none := by
  cases v <;> rfl
theorem asgSub {o i : Expr} {p : Pos} {env : PySem.Env} (h : ixB i = true) (u : Value) : assign (.Subscript o i p) env u = (do
      let ov ← holding [u] (eval o env)
      let iv ← holding [u, ov] (eval i env)
      standAt p
      holding [u, ov, iv] (setItem ov iv u)
      release [u, ov, iv] []) := by
  cases i <;> first | rfl | (simp [ixB] at h)
/-- new lists, new dicts; n: how deep -/
def compF (cc : Cc) : Nat → Expr → Option IE
  | 0, _ => none
  | n + 1, e => match e with
    | .List es _ => (compL (compE 60 cc) es).map .lst
    | .Dict [] [] _ => some (.dnew (cc.mv.contains "*T"))
    | .BoolOp .Or [a, b] _ => match compF cc n a, compF cc n b with
      | some ia, some ib => some (.or ia ib)
      | _, _ => none
    | .BinOp a .Add b _ => match compE 60 cc a, compE 60 cc b with
      | some ia, some ib => some (.op .add [ia, ib])
      | _, _ => none
    | .BinOp a .Mult b _ => match compE 60 cc a, compE 60 cc b with
      | some ia, some ib => some (.op .mul [ia, ib])
      | _, _ => none
    | .Subscript a (.Slice lo hi none _) _ => match compE 60 cc a, compO (compE 60 cc) lo, compO (compE 60 cc) hi with
      | some ia, some l, some h => some (.sl l.1 h.1 ia l.2 h.2)
      | _, _, _ => none
    | .Call (.Name x _) [a] [] _ => if (okName x && glB cc x && plainB a) = true then
        (if x = "list" then match compRgF cc a with
            | some i => some (.lrng false i)
            | none => (compE 60 cc a).map fun i => .op .list [i]
          else if x = "sorted" then (compE 60 cc a).map fun i => .op .sorted [i] else none) else none
    | .ListComp e [⟨tg, it, cs, 0⟩] scope _ => match ownOf cc (tgNames tg), compIter cc (compE 60 cc) it (isTup tg), compTg (cc.blk scope) tg, compL (compE 60 (cc.blk scope)) cs, compE 60 (cc.blk scope) e with
      | some own, some iit, some t, some ics, some ie => if (blkC cc.N cc.sc scope own && decide (cs.length ≤ 1)) = true then some (.lc (own.map (·.2)) t iit ics ie) else none
      | _, _, _, _, _ => none
    | _ => none
where compRgF (cc : Cc) : Expr → Option IE
  | .Call (.Name y _) [b] [] _ => if (y == "range" && glB cc y && plainB b) = true then compE 60 cc b else none
  | _ => none
/-- what stands for a name: a new object, if it is one that changes -/
def compP (cc : Cc) (x : Str) (a : Expr) : Option IE := if cc.mv.contains x = true then (match compF cc 8 a with
  | some i => some (.newr i)
  | none => compE 60 cc a) else compE 60 cc a
def locals2 (cc : Cc) (x y : Str) : Bool := (cc.sc.names.lookup x == some .local) && (cc.sc.names.lookup y == some .local) && !(x == y)
def compS (mvf : Bool) : Nat → Cc → Stmt → Option IS
  | 0, _, _ => none
  | n + 1, cc, st => match st with
    | .Assign [.Name x p'] v pos =>
      if locB cc x = true then match ixOf cc x with
        | none => none
        | some i =>
          if cc.mv.contains x = true then (match v with
            | .ListComp e [⟨tg, it, cs, 0⟩] scope cp => if ((cc.sc.kind == .function) && (cc.sc.names.lookup x == some .local) && (p'.line == cp.line) && !(scope.names.any fun (m, k) => m == x && (k == .local || k == .cell))) = true
              then (compE 60 cc v).map (.setm i) else none
            | v => if swB v = true then (compF cc 8 v).map (.setm i) else none)
          else match v with
            | .ListComp e [⟨tg, it, cs, 0⟩] scope cp => if ((cc.sc.kind == .function) && (cc.sc.names.lookup x == some .local) && (p'.line == cp.line) && !(scope.names.any fun (m, k) => m == x && (k == .local || k == .cell))) = true
              then (compE 60 cc v).map (.set (.one i)) else none
            | v => if swB v = true then (compE 60 cc v).map (.set (.one i)) else none
      else none
    | .Assign [.Tuple [.Name x px, .Name y py] kt pt] (.Tuple [a, b] k2 pt2) pos =>
      if (locals2 cc x y && (px.line == py.line) && (cc.sc.kind == .function) && plainB a && plainB b && !([a, b].all (foldedForSure 8)) && !([a, b].all (constantsAlone 8))) = true then
        match ixOf cc x, ixOf cc y, compP cc x a, compP cc y b with
        | some i, some j, some ia, some ib => if i = j then none else some (.set2 i j ia ib)
        | _, _, _, _ => none
      else if ([a, b].all (foldedForSure 8) || (cc.sc.names.lookup x == some .cell)) = true then match compTg cc (.Tuple [.Name x px, .Name y py] kt pt), compE 60 cc (.Tuple [a, b] k2 pt2) with
        | some (.tup is), some iv => some (.set (.tup is) iv)
        | _, _ => none
      else none
    | .Assign [.Tuple [.Name x px, .Name y py, .Name z pz] kt pt] (.Tuple [a, b, c] k2 pt2) pos =>
      if (locals2 cc x y && locals2 cc x z && locals2 cc y z && (px.line == py.line) && (px.line == pz.line) && (cc.sc.kind == .function) && plainB a && plainB b && plainB c && !([a, b, c].all (foldedForSure 8)) && !([a, b, c].all (constantsAlone 8))) = true then
        match ixOf cc x, ixOf cc y, ixOf cc z, compP cc x a, compP cc y b, compP cc z c with
        | some i, some j, some l, some ia, some ib, some ic => if (i == j || i == l || j == l) = true then none else some (.set3 i j l ia ib ic)
        | _, _, _, _, _, _ => none
      else none
    | .Assign [.Tuple es kt pt] v pos => if (swB v && tupB v) = true then match compTg cc (.Tuple es kt pt), compE 60 cc v with
        | some (.tup is), some iv => some (.set (.tup is) iv)
        | _, _ => none else none
    | .Assign [.Subscript o i p'] v pos => if (ixB i && swB v) = true then match compE 60 cc o, compE 60 cc i, compE 60 cc v with
        | some io, some ii, some iv => some (.setix io ii iv)
        | _, _, _ => none else none
    | .Assign [.Attribute (.Name x px) f pa] v pos => if (okName x && visB cc x && insFields.contains f && swB v) = true then match ixOf cc x, compE 60 cc v with
        | some i, some iv => some (.setf i f iv)
        | _, _ => none else none
    | .AugAssign (.Name x p') op v pos => if locB cc x = true then match ixOf cc x, compE 60 cc v with
        | some i, some iv => match op with
          | .Add => some (.aug i .add iv)
          | .Sub => some (.aug i .sub iv)
          | _ => none
        | _, _ => none else none
    | .Expr (.Call (.Attribute o m apos) [v] [] cpos) pos => if m = "append" then
        (if (attB o && (apos.endLine == cpos.line) && plainB v) = true then match compE 60 cc o, compE 60 cc v with
          | some io, some iv => some (.app io iv)
          | _, _ => none else none)
        else (compE 60 cc (.Call (.Attribute o m apos) [v] [] cpos)).map .expr
    | .Expr e pos => if swB e = true then (compE 60 cc e).map .expr else none
    | .Return (some e) pos => if cc.keep = true then (match compF cc 8 e with
        | some ie => some (.retm ie)
        | none => (compE 60 cc e).map .ret) else (compE 60 cc e).map .ret
    | .Return none pos => some .retN
    | .If c a b pos => match compE 60 cc c, compB (compS mvf n cc) a, compB (compS mvf n cc) b with
      | some ic, some ia, some ib => some (.ife ic ia ib)
      | _, _, _ => none
    | .For tg it b [] pos => match compIter cc (compE 60 cc) it (isTup tg), compTg cc tg, compB (compS mvf n cc) b with
      | some iit, some t, some ib => some (.for_ t iit ib)
      | _, _, _ => none
    | .While c b [] pos => match compE 60 cc c, compB (compS mvf n cc) b with
      | some ic, some ib => some (.while_ ic ib)
      | _, _ => none
    | .Break pos => some .brk
    | .Continue pos => some .cont
    | .Raise (some (.Call (.Name x _) es [] _)) none pos => if (okName x && glB cc x && cc.mkr x) = true then (compL (compE 60 cc) es).map (.raise x) else none
    | .Try body [.ExceptHandler (some (.Name x _)) (some n2) [.Assign [.Name m _] (.Name n1 _) _] _] [] [] pos =>
      if (okName x && glB cc x && okName n2 && (n1 == n2) && locals2 cc n2 m && true) = true then match cc.cls x, ixOf cc n2, ixOf cc m, compB (compS mvf n cc) body with
        | some l, some i, some j, some ib => some (.try_ ib l i j)
        | _, _, _, _ => none
      else none
    | .Try body [.ExceptHandler (some (.Name x _)) none [.Return (some (.Constant (.bool kb) _ _)) _] _] [] [] pos =>
      if (okName x && glB cc x) = true then match cc.cls x, compB (compS mvf n cc) body with
        | some l, some ib => some (.tryr ib l kb)
        | _, _ => none
      else none
    | _ => none
where compB (f : Stmt → Option IS) : List Stmt → Option (List IS)
  | [] => some []
  | s :: r => match f s, compB f r with
    | some a, some b => some (a :: b)
    | _, _ => none

theorem compE_lc {cc : Cc} {e tg it : Expr} {cs : List Expr} {scope : Scope} {p : Pos} : compE 60 cc (.ListComp e [⟨tg, it, cs, 0⟩] scope p) =
    (match ownOf cc (tgNames tg), compIter cc (compE 59 cc) it (isTup tg), compTg (cc.blk scope) tg, compL (compE 59 (cc.blk scope)) cs, compE 59 (cc.blk scope) e with
      | some own, some iit, some t, some ics, some ie => if (blkC cc.N cc.sc scope own && decide (cs.length ≤ 1)) = true then some (.lc (own.map (·.2)) t iit ics ie) else none
      | _, _, _, _, _ => none) := rfl
section
variable {T : Tb} {Φ : Phi} {cc : Cc} {X : Cx}
theorem compF_ok (h : CtxOk T Φ cc X) : ∀ (n : Nat) {e : Expr} {ie : IE}, compF cc n e = some ie → TyF T Φ X e ie
  | 0, e, ie, c => by simp only [compF] at c; cases c
  | n + 1, e, ie, c => by
    have hf : FOk T Φ X (compE 60 cc) := compE_ok 60 h
    unfold compF at c
    split at c
    · obtain ⟨is, hi, rfl⟩ := Option.map_eq_some_iff.mp c
      exact tf_lst (compL_ok hf hi).1
    · cases c
      exact tf_dnew
    · split at c
      · rename_i ia ib h1 h2
        cases c
        exact tf_or h.K (compF_ok h n h1) (tf_one (compF_ok h n h2))
      · cases c
    · split at c
      · rename_i ia ib h1 h2
        cases c
        exact tf_bin add_nd (o_addF h.K) (hf _ ia h1).1 (hf _ ib h2).1
      · cases c
    · split at c
      · rename_i ia ib h1 h2
        cases c
        exact tf_bin mul_nd (o_mulF h.K) (hf _ ia h1).1 (hf _ ib h2).1
      · cases c
    · split at c
      · rename_i ia l hh h1 h2 h3
        cases c
        exact tf_sl h.K (hf _ ia h1).1 (compO_ok hf h2) (compO_ok hf h3)
      · cases c
    · rename_i x p a p'
      split at c
      · rename_i hc
        simp only [Bool.and_eq_true] at hc
        obtain ⟨⟨ho, hg⟩, hp⟩ := hc
        obtain ⟨h1, h2, h3⟩ := okName_ok ho
        split at c
        · rename_i hx
          subst hx
          have hm : X.mg "list" = none := h.blt _ (by decide +kernel)
          split at c
          · rename_i i hr
            cases c
            unfold compF.compRgF at hr
            split at hr
            · rename_i y py b pb
              split at hr
              · rename_i hb
                simp only [Bool.and_eq_true, beq_iff_eq] at hb
                obtain ⟨⟨hy, gy⟩, pl⟩ := hb
                subst hy
                exact tf_lstrg h.calm (h.gl hg) hm (h.gl gy) (h.blt _ (by decide +kernel)) (hf _ i hr).1 (plain_star pl _ _) (plain_star rfl _ _)
              · cases hr
            · cases hr
          · obtain ⟨i, hi, rfl⟩ := Option.map_eq_some_iff.mp c
            exact tf_callTy list_nd (c_listF h.K h.calm) (h.gl hg) hm (by decide +kernel) (ty_cons (hf _ i hi).1 ty_nil (plain_star hp _ _)) h3 h1 (plain_star hp _ _) rfl
        · split at c
          · rename_i hx
            subst hx
            obtain ⟨i, hi, rfl⟩ := Option.map_eq_some_iff.mp c
            exact tf_callB sorted_nd (c_sortedF h.K h.calm (by have := h.un; omega)) (h.gl hg) (h.blt _ (by decide +kernel)) (by decide +kernel) (ty_cons (hf _ i hi).1 ty_nil (plain_star hp _ _)) h3 h1 (plain_star hp _ _) rfl
          · cases c
      · cases c
    · split at c
      · rename_i own iit t ics ie' h1 h2 h3 h4 h5
        split at c
        · rename_i hb
          cases c
          obtain ⟨hb, hcs⟩ := Bool.and_eq_true_iff.mp hb
          obtain ⟨ti, tf⟩ := compIter_ok h hf h2
          have bo := blkOk_by hb
          rw [← h.N, ← h.sc] at bo
          exact tf_lcE h.K h.calm h.nd ti bo (lc_slots (cc := cc) (c2 := cc.blk _) rfl h1 h3) (fun s H C cl fp => compTg_ok (h.blk _ s H C cl fp) h3) (fun s H C cl fp => compC_ok (compE_ok 60 (h.blk _ s H C cl fp)) (by simpa using hcs) h4)
            (fun s H C cl fp => (compE_ok 60 (h.blk _ s H C cl fp) _ _ h5).1) (foldB_ok tf X.env)
        · cases c
      · cases c
    · cases c
theorem compP_ok (h : CtxOk T Φ cc X) {x : Str} {a : Expr} {ie : IE} (c : compP cc x a = some ie) : TyE T Φ X a ie := by
  unfold compP at c
  split at c
  · split at c
    · rename_i i hi
      cases c
      exact ty_newr (compF_ok h 8 hi)
    · exact (compE_ok 60 h _ _ c).1
  · exact (compE_ok 60 h _ _ c).1
theorem ty_setLc {i : Nat} {y : Str} {py pos spos : Pos} {elt iter tg : Expr} {cs : List Expr} {ie : IE} {it : IT} {ics : List IE} {scope : Scope} {own : List (Str × Nat)} {t : Tg} (hK : X.K = T.K) (hc : X.calm = true) (hN : X.N.Nodup) (hy : X.N[i]? = some y) (hyl : X.env.scope.names.lookup y = some .local)
    (hsw : swapsWith (.ListComp elt [⟨tg, iter, cs, 0⟩] scope pos) (some (.Name y py)) spos.line X.env = pure true) (hi : TyI T Φ X tg iter it) (ok : BlkOk X.N X.env.scope scope own)
    (hv : ∀ i ∈ (match t with | .one i => [i] | .tup is => is), i ∈ own.map (·.2))
    (hg : ∀ (s : Shared) (H : Hp) (C : Addr) (cl : List (Str × Addr)) (fp : List Addr), PG (X.blk s H scope (compEnvC scope cl C X.env) fp) tg (gT X.K t))
    (ht : ∀ (s : Shared) (H : Hp) (C : Addr) (cl : List (Str × Addr)) (fp : List Addr), TyC T Φ (X.blk s H scope (compEnvC scope cl C X.env) fp) cs ics)
    (he : ∀ (s : Shared) (H : Hp) (C : Addr) (cl : List (Str × Addr)) (fp : List Addr), TyE T Φ (X.blk s H scope (compEnvC scope cl C X.env) fp) elt ie) (hs : ∀ x, foldedSetIterable iter X.env x = pure x) :
    TyS T Φ X (.Assign [.Name y py] (.ListComp elt [⟨tg, iter, cs, 0⟩] scope pos) spos) (.set (.one i) (.lc (own.map (·.2)) t it ics ie)) := by
  intro ρ μ σ H F A r D E tk s er e p
  refine wS_of (ps_setLc (g := gT X.K t) (tt := fun σ H Q => ∀ s H0 C cl fp, wC (X.blk s H0 scope (compEnvC scope cl C X.env) fp) cs σ H Q) (te := fun σ H Q => ∀ s H0 C cl fp, wE (X.blk s H0 scope (compEnvC scope cl C X.env) fp) elt σ H Q)
    hc hN hy hyl hsw pi_w ok hg (fun s H C cl fp => ⟨fun pins st σ H' Q I h => h s H C cl fp pins st I⟩) (fun s H C cl fp => ⟨fun pins st σ H' Q I h => h s H C cl fp pins st I⟩) hs) ?_
  have e0 : (evE Φ (.lc (own.map (·.2)) t it ics ie) ρ μ).st ρ (fun w μ1 => some (.nx (ρ.set i (some w)), μ1)) = some r := e
  rcases st_some e0 with ⟨d, m, e1, rfl⟩ | ⟨w, m, e1, e2⟩
  · exact ty_lc hK hc hN hi ok hv hg ht he ρ μ σ H F A _ _ E tk s er e1 fun cls dd H' F' A' x s' xr => p cls dd σ H' F' A' x s' (er.mono x) xr
  · cases e2
    exact ty_lc hK hc hN hi ok hv hg ht he ρ μ σ H F A _ _ E tk s er e1 fun v H1 F1 A1 x s1 r1 => p _ H1 F1 A1 x s1 ((er.mono x).set r1)
theorem ty_setmLc {i : Nat} {y : Str} {py pos spos : Pos} {elt iter tg : Expr} {cs : List Expr} {ie : IE} {it : IT} {ics : List IE} {scope : Scope} {own : List (Str × Nat)} {t : Tg} (hK : X.K = T.K) (hc : X.calm = true) (hN : X.N.Nodup) (hy : X.N[i]? = some y) (hyl : X.env.scope.names.lookup y = some .local)
    (hsw : swapsWith (.ListComp elt [⟨tg, iter, cs, 0⟩] scope pos) (some (.Name y py)) spos.line X.env = pure true) (hi : TyI T Φ X tg iter it) (ok : BlkOk X.N X.env.scope scope own)
    (hv : ∀ i ∈ (match t with | .one i => [i] | .tup is => is), i ∈ own.map (·.2))
    (hg : ∀ (s : Shared) (H : Hp) (C : Addr) (cl : List (Str × Addr)) (fp : List Addr), PG (X.blk s H scope (compEnvC scope cl C X.env) fp) tg (gT X.K t))
    (ht : ∀ (s : Shared) (H : Hp) (C : Addr) (cl : List (Str × Addr)) (fp : List Addr), TyC T Φ (X.blk s H scope (compEnvC scope cl C X.env) fp) cs ics)
    (he : ∀ (s : Shared) (H : Hp) (C : Addr) (cl : List (Str × Addr)) (fp : List Addr), TyE T Φ (X.blk s H scope (compEnvC scope cl C X.env) fp) elt ie) (hs : ∀ x, foldedSetIterable iter X.env x = pure x) :
    TyS T Φ X (.Assign [.Name y py] (.ListComp elt [⟨tg, iter, cs, 0⟩] scope pos) spos) (.setm i (.lc (own.map (·.2)) t it ics ie)) := by
  intro ρ μ σ H F A r D E tk s er e p
  refine wS_of (ps_setLc (g := gT X.K t) (tt := fun σ H Q => ∀ s H0 C cl fp, wC (X.blk s H0 scope (compEnvC scope cl C X.env) fp) cs σ H Q) (te := fun σ H Q => ∀ s H0 C cl fp, wE (X.blk s H0 scope (compEnvC scope cl C X.env) fp) elt σ H Q)
    hc hN hy hyl hsw pi_w ok hg (fun s H C cl fp => ⟨fun pins st σ H' Q I h => h s H C cl fp pins st I⟩) (fun s H C cl fp => ⟨fun pins st σ H' Q I h => h s H C cl fp pins st I⟩) hs) ?_
  simp only [exS] at e
  rcases st_some e with ⟨d, m, e1, rfl⟩ | ⟨w, m, e1, e2⟩
  · refine lc_core hK hc hN hi ok hv hg ht he ρ μ σ H F A _ _ E tk s er e1 (fun d' m' er' => ?_) (fun ys m' er' => by cases er')
    cases er'
    exact fun cls dd H' F' A' x s' xr => p cls dd σ H' F' A' x s' (er.mono x) xr
  · refine lc_core hK hc hN hi ok hv hg ht he ρ μ σ H F A _ _ E tk s er e1 (fun d' m' er' => by cases er') (fun ys m' er' q H1 F1 A1 x s1 hA hO => ?_)
    cases er'
    have s2 := s1.adopt (o := .lst ys) (fun z => by intro h; cases h) hA hO
    have x2 : Ext F1 A1 F1 (A1 ++ [q]) := ⟨Same.refl _, List.prefix_append _ _⟩
    have er2 := ((er.mono x).mono x2).set (i := i) (w := .r m.length) (v := .ref q) ⟨q, by rw [← s1.len]; simp, rfl⟩
    simp only [toO] at e2
    cases e2
    exact p _ H1 F1 _ (x.trans x2) s2 er2
theorem sw2_ok {x y : Str} {px py pt pt2 : Pos} {kt k2 : Nat} {a b : Expr} {env : PySem.Env} (h1 : env.kindOf x = some .local) (h2 : env.kindOf y = some .local) (h3 : (x == y) = false) (h4 : (px.line == py.line) = true) (hb : env.scope.kind = .function)
    (hp1 : plainB a = true) (hp2 : plainB b = true) (h5 : [a, b].all (foldedForSure 8) = false) (h6 : [a, b].all (constantsAlone 8) = false) :
    swappedStores [.Tuple [.Name x px, .Name y py] kt pt] (.Tuple [a, b] k2 pt2) env = pure (some [x, y]) := by
  have hk : env.blockKind = .function := by unfold PySem.Env.blockKind; rw [hb]; rfl
  have hy : (y == x) = false := by
    cases q : y == x with
    | false => rfl
    | true =>
      have : y = x := by simpa using q
      subst this
      simp at h3
  have e4 : px.line = py.line := by simpa using h4
  have hs : ([a, b].any fun | .Starred .. => true | _ => false) = false := by
    cases a <;> cases b <;> first | rfl | (simp [plainB] at hp1; done) | (simp [plainB] at hp2; done)
  unfold swappedStores
  simp only [List.length_cons, List.length_nil]
  simp only [hk, hs, h5, h6, h1, h2, Expr.pos, List.head?_cons, Option.map_some, Option.getD_some, List.filterMap_cons, List.filterMap_nil, e4, beq_self_eq_true, Bool.and_self, if_true]
  simp [List.eraseDups_cons, hy, h3]
  intro z
  exfalso
  rcases z with z | z
  · cases a <;> first | (cases z; done) | (simp [plainB] at hp1)
  · cases b <;> first | (cases z; done) | (simp [plainB] at hp2)
theorem ps_tup {es : List Expr} {kt : Nat} {pt pos : Pos} {v : Expr} {iv : IE} {is : List Nat} (h : CtxOk T Φ cc X) (hv : TyE T Φ X v iv) (hg : PG X (.Tuple es kt pt) (gT X.K (.tup is))) (hs : swapsWith v (some (.Tuple es kt pt)) pos.line X.env = pure false) (hw : swappedStores [.Tuple es kt pt] v X.env = pure none) :
    TyS T Φ X (.Assign [.Tuple es kt pt] v pos) (.set (.tup is) iv) := by
  intro ρ μ σ H F A r D E tk s er e p
  simp only [exS] at e
  refine wS_of (ps_asg pe_w hg hs hw rfl) (hv.st tk s er e p fun w μ1 v H1 F1 A1 x s1 er1 r1 e1 p1 => ?_)
  split at e1
  · cases e1
  · rename_i d μ2 hd
    obtain ⟨F2, s2, sb, rp⟩ := s1.toD r1 hd
    have x2 : Ext F1 A1 F2 A1 := ⟨sb, List.prefix_refl _⟩
    split at e1
    · cases e1
    · rename_i ρ1 hput
      cases e1
      exact gT_ok (t := .tup is) hput rp s2.sub (er1.mono x2) h.K fun σ' er' _ => p1 σ' H1 F2 A1 x2 s2 er'
theorem compB_ok {f : Stmt → Option IS} (hf : ∀ st is, f st = some is → TyS T Φ X st is) : ∀ {b : List Stmt} {ib : List IS}, compS.compB f b = some ib → TyBl T Φ X b ib
  | [], ib, e => by
    simp only [compS.compB] at e
    cases e
    exact tb_nil
  | s :: r, ib, e => by
    simp only [compS.compB] at e
    split at e
    · rename_i a b h1 h2
      cases e
      exact tb_cons (hf _ _ h1) (compB_ok hf h2)
    · cases e
theorem sw3_ok {x y z : Str} {px py pz pt pt2 : Pos} {kt k2 : Nat} {a b c : Expr} {env : PySem.Env} (h1 : env.kindOf x = some .local) (h2 : env.kindOf y = some .local) (h3 : env.kindOf z = some .local) (nxy : (x == y) = false) (nxz : (x == z) = false) (nyz : (y == z) = false) (l1 : (px.line == py.line) = true) (l2 : (px.line == pz.line) = true) (hb : env.scope.kind = .function)
    (hp1 : plainB a = true) (hp2 : plainB b = true) (hp3 : plainB c = true) (h5 : [a, b, c].all (foldedForSure 8) = false) (h6 : [a, b, c].all (constantsAlone 8) = false) :
    swappedStores [.Tuple [.Name x px, .Name y py, .Name z pz] kt pt] (.Tuple [a, b, c] k2 pt2) env = pure (some [x, y, z]) := by
  have hk : env.blockKind = .function := by unfold PySem.Env.blockKind; rw [hb]; rfl
  have fl : ∀ u v : Str, (u == v) = false → (v == u) = false := fun u v h => by
    cases q : v == u with
    | false => rfl
    | true =>
      have : v = u := by simpa using q
      subst this
      simp at h
  have e4 : py.line = px.line := by have := eq_of_beq l1; exact this.symm
  have e5 : pz.line = px.line := by have := eq_of_beq l2; exact this.symm
  have hs : ([a, b, c].any fun | .Starred .. => true | _ => false) = false := by
    cases a <;> first | (simp [plainB] at hp1; done) | (cases b <;> first | (simp [plainB] at hp2; done) | (cases c <;> first | rfl | (simp [plainB] at hp3; done)))
  unfold swappedStores
  simp only [List.length_cons, List.length_nil]
  simp only [hk, hs, h5, h6, h1, h2, h3, Expr.pos, List.head?_cons, Option.map_some, Option.getD_some, List.filterMap_cons, List.filterMap_nil, e4, e5, beq_self_eq_true, Bool.and_self, if_true]
  simp [List.eraseDups_cons, fl _ _ nxy, fl _ _ nxz, fl _ _ nyz, nxy, nxz, nyz]
  intro z
  exfalso
  rcases z with z | z | z
  · cases a <;> first | (cases z; done) | (simp [plainB] at hp1)
  · cases b <;> first | (cases z; done) | (simp [plainB] at hp2)
  · cases c <;> first | (cases z; done) | (simp [plainB] at hp3)
theorem CtxOk.tr (h : CtxOk T Φ cc X) (pn : List (Addr × Obj)) (xe : Value → Shared → Prop) : CtxOk T Φ cc (X.tr pn xe) where
  K := h.K
  N := h.N
  nd := h.nd
  sc := h.sc
  fn := h.fn
  calm := h.calm
  un := h.un
  blt := h.blt
  own := fun x n hx => (h.own x n hx).sim ⟨rfl, rfl, rfl, rfl, rfl⟩ fun _ z => z
  cst := h.cst
  cls := fun x l hx => (h.cls x l hx).sim ⟨rfl, rfl, rfl, rfl, rfl⟩
  err := h.err
  mkr := fun x hx => (h.mkr x hx).sim ⟨rfl, rfl, rfl, rfl, rfl⟩ fun _ z => z
  fns := h.fns
  ins := h.ins
  prp := fun f c q hx => (h.prp f c q hx).sim ⟨rfl, rfl, rfl, rfl, rfl⟩ fun _ z => z
theorem compS_ok {mvf : Bool} : ∀ (n : Nat) {X : Cx} (hst : X.stack = X.env :: X.outer) (hfr : X.env.frame = some X.env.locals) (hp : PassesOwn (model X.prog X.w) X.A X.env X.xe) (h : CtxOk T Φ cc X) (st : Stmt) (is : IS), compS mvf n cc st = some is → TyS T Φ X st is
  | 0, X, hst, hfr, hp, h, st, is, c => by simp only [compS] at c; cases c
  | n + 1, X, hst, hfr, hp, h, st, is, c => by
    have hf : FOk T Φ X (compE 60 cc) := compE_ok 60 h
    have ih := compS_ok (mvf := mvf) n hst hfr hp h
    unfold compS at c
    split at c
    · -- name = e
      rename_i x p' v pos
      split at c
      · rename_i hl
        obtain ⟨l1, l2⟩ := h.loc hl
        split at c
        · cases c
        · rename_i i hi
          have hN : X.N[i]? = some x := by rw [h.N]; exact ixOf_ok hi
          split at c
          · split at c
            · rename_i e tg it cs scope cp
              split at c
              · rename_i hc
                obtain ⟨iv, hv, rfl⟩ := Option.map_eq_some_iff.mp c
                simp only [Bool.and_eq_true, Bool.not_eq_true'] at hc
                obtain ⟨⟨⟨c1, c2⟩, c3⟩, c4⟩ := hc
                have hk : X.env.scope.kind = .function := by rw [h.sc]; simpa using c1
                have hy : X.env.scope.names.lookup x = some .local := by rw [h.sc]; simpa using c2
                rw [compE_lc] at hv
                split at hv
                · rename_i own iit t ics ie' h1 h2 h3 h4 h5
                  split at hv
                  · rename_i hb
                    cases hv
                    obtain ⟨hb, hcs⟩ := Bool.and_eq_true_iff.mp hb
                    have hf' : FOk T Φ X (compE 59 cc) := compE_ok 59 h
                    obtain ⟨ti, tf⟩ := compIter_ok h hf' h2
                    have bo := blkOk_by hb
                    rw [← h.N, ← h.sc] at bo
                    exact ty_setmLc h.K h.calm h.nd hN hy (sw_true hk hy c3 c4) ti bo (lc_slots (cc := cc) (c2 := cc.blk _) rfl h1 h3) (fun s H C cl fp => compTg_ok (h.blk _ s H C cl fp) h3) (fun s H C cl fp => compC_ok (compE_ok 59 (h.blk _ s H C cl fp)) (by simpa using hcs) h4)
                      (fun s H C cl fp => (compE_ok 59 (h.blk _ s H C cl fp) _ _ h5).1) (foldB_ok tf X.env)
                  · cases hv
                · cases hv
              · cases c
            · split at c
              · rename_i hs
                obtain ⟨iv, hv, rfl⟩ := Option.map_eq_some_iff.mp c
                exact ty_setm h.nd hN l1 (compF_ok h 8 hv) (swB_ok hs _ _ _) l2
              · cases c
          · split at c
            · rename_i e tg it cs scope cp
              split at c
              · rename_i hc
                obtain ⟨iv, hv, rfl⟩ := Option.map_eq_some_iff.mp c
                simp only [Bool.and_eq_true, Bool.not_eq_true'] at hc
                obtain ⟨⟨⟨c1, c2⟩, c3⟩, c4⟩ := hc
                have hk : X.env.scope.kind = .function := by rw [h.sc]; simpa using c1
                have hy : X.env.scope.names.lookup x = some .local := by rw [h.sc]; simpa using c2
                rw [compE_lc] at hv
                split at hv
                · rename_i own iit t ics ie' h1 h2 h3 h4 h5
                  split at hv
                  · rename_i hb
                    cases hv
                    obtain ⟨hb, hcs⟩ := Bool.and_eq_true_iff.mp hb
                    have hf' : FOk T Φ X (compE 59 cc) := compE_ok 59 h
                    obtain ⟨ti, tf⟩ := compIter_ok h hf' h2
                    have bo := blkOk_by hb
                    rw [← h.N, ← h.sc] at bo
                    exact ty_setLc h.K h.calm h.nd hN hy (sw_true hk hy c3 c4) ti bo (lc_slots (cc := cc) (c2 := cc.blk _) rfl h1 h3) (fun s H C cl fp => compTg_ok (h.blk _ s H C cl fp) h3) (fun s H C cl fp => compC_ok (compE_ok 59 (h.blk _ s H C cl fp)) (by simpa using hcs) h4)
                      (fun s H C cl fp => (compE_ok 59 (h.blk _ s H C cl fp) _ _ h5).1) (foldB_ok tf X.env)
                  · cases hv
                · cases hv
              · cases c
            · split at c
              · rename_i hs
                obtain ⟨iv, hv, rfl⟩ := Option.map_eq_some_iff.mp c
                exact ty_set h.nd hN l1 (hf _ _ hv).1 (swB_ok hs _ _ _) l2
              · cases c
      · cases c
    · -- a, b = x, y
      split at c
      · rename_i hc
        split at c
        · rename_i i j ia ib h1 h2 h3 h4
          split at c
          · cases c
          · rename_i hij
            cases c
            simp only [Bool.and_eq_true, Bool.not_eq_true', locals2] at hc
            obtain ⟨⟨⟨⟨⟨⟨⟨⟨q1, q2⟩, q3⟩, q4⟩, q5⟩, q6⟩, q7⟩, q8⟩, q9⟩ := hc
            have kl : ∀ z, (List.lookup z cc.sc.names == some NameKind.local) = true → X.env.scope.names.lookup z = some .local := fun z hz => by rw [h.sc]; simpa using hz
            have kk : X.env.scope.kind = .function := by rw [h.sc]; simpa using q5
            exact ty_set2 h.calm h.nd (by rw [h.N]; exact ixOf_ok h1) (by rw [h.N]; exact ixOf_ok h2) hij (kl _ q1) (kl _ q2) (compP_ok h h3) (compP_ok h h4) (plain_star q6 _ _) (plain_star q7 _ _) (sw2_ok (kl _ q1) (kl _ q2) q3 q4 kk q6 q7 q8 q9)
        · cases c
      · split at c
        · rename_i hfo
          split at c
          · rename_i is' iv ht' hv
            cases c
            refine ps_tup h (hf _ _ hv).1 (compTg_ok h ht') rfl ?_
            rcases Bool.or_eq_true_iff.mp hfo with hfo | hfo
            · exact swFold hfo
            · exact swCell (show X.env.scope.names.lookup _ = some .cell by rw [h.sc]; simpa using hfo)
          · cases c
        · cases c
    · -- a, b, c = x, y, z
      split at c
      · rename_i hc
        split at c
        · rename_i i j l ia ib ic h1 h2 h3 h4 h5 h6
          split at c
          · cases c
          · rename_i hij
            cases c
            simp only [Bool.and_eq_true, Bool.not_eq_true', locals2] at hc
            obtain ⟨⟨⟨⟨⟨⟨⟨⟨⟨⟨⟨⟨q1, q2⟩, q3⟩, ⟨⟨_, q4⟩, q5⟩⟩, ⟨⟨_, _⟩, q6⟩⟩, q7⟩, q8⟩, q9⟩, qa⟩, qb⟩, qc⟩, qd⟩, qe⟩ := hc
            simp only [Bool.or_eq_true, beq_iff_eq, not_or] at hij
            have kl : ∀ z, (List.lookup z cc.sc.names == some NameKind.local) = true → X.env.scope.names.lookup z = some .local := fun z hz => by rw [h.sc]; simpa using hz
            have kk : X.env.scope.kind = .function := by rw [h.sc]; simpa using q9
            exact ty_set3 h.calm h.nd (by rw [h.N]; exact ixOf_ok h1) (by rw [h.N]; exact ixOf_ok h2) (by rw [h.N]; exact ixOf_ok h3) hij.1.1 hij.1.2 hij.2 (kl _ q1) (kl _ q2) (kl _ q4) (compP_ok h h4) (compP_ok h h5) (compP_ok h h6) (plain_star qa _ _) (plain_star qb _ _) (plain_star qc _ _) (sw3_ok (kl _ q1) (kl _ q2) (kl _ q4) q3 q5 q6 q7 q8 kk qa qb qc qd qe)
        · cases c
      · cases c
    · -- a, b = e
      split at c
      · rename_i hs
        obtain ⟨hs, ht⟩ := Bool.and_eq_true_iff.mp hs
        split at c
        · rename_i is' iv ht' hv
          cases c
          exact ps_tup h (hf _ _ hv).1 (compTg_ok h ht') (swB_ok hs _ _ _) (swNone ht)
        · cases c
      · cases c
    · -- o[i] = v
      split at c
      · rename_i hc
        obtain ⟨hi, hs⟩ := Bool.and_eq_true_iff.mp hc
        split at c
        · rename_i io ii iv h1 h2 h3
          cases c
          exact ty_setix (by have := h.un; omega) (hf _ _ h1).1 (hf _ _ h2).1 (hf _ _ h3).1 (asgSub hi) (by unfold swapsWithSole; exact swB_ok hs _ _ _) swSub rfl
        · cases c
      · cases c
    · -- self.f = v
      split at c
      · rename_i hc
        simp only [Bool.and_eq_true] at hc
        obtain ⟨⟨⟨ho, hv⟩, hfl⟩, hs⟩ := hc
        split at c
        · rename_i i iv h1 h2
          cases c
          obtain ⟨o1, o2, _⟩ := okName_ok ho
          have hN := ixOf_ok h1
          rw [← h.N] at hN
          exact ty_setf h.ins (by simpa using hfl) (ty_var hN (h.vis hv) o1 o2) (hf _ _ h2).1 (swB_ok hs _ _ _)
        · cases c
      · cases c
    · -- name op= e
      split at c
      · rename_i hl
        obtain ⟨l1, l2⟩ := h.loc hl
        split at c
        · rename_i i iv h1 h2
          have hN := ixOf_ok h1
          rw [← h.N] at hN
          split at c
          · cases c
            exact ty_aug (.inl ⟨rfl, rfl⟩) h.nd hN l1 (hf _ _ h2).1 l2
          · cases c
            exact ty_aug (.inr ⟨rfl, rfl⟩) h.nd hN l1 (hf _ _ h2).1 l2
          · cases c
        · cases c
      · cases c
    · -- o.append(v)
      split at c
      · rename_i hm
        subst hm
        split at c
        · rename_i hc
          simp only [Bool.and_eq_true] at hc
          obtain ⟨⟨ha, hl⟩, hp⟩ := hc
          split at c
          · rename_i io iv h1 h2
            cases c
            refine ty_app (hf _ _ h1).1 (hf _ _ h2).1 (swB_ok rfl _ _ _) (fun {r to t} hm ho hs => pe_bm PySem.F.plainAttrs_list PySem.F.slot_list_append PySem.F.type_list_append hm ho hs (attB_ok ha _ _) ?_ hl (plain_star hp _ _) (by rfl)) (plain_star hp _ _)
            rw [plain_all (by simp [hp])]
            rfl
          · cases c
        · cases c
      · obtain ⟨i, hi, rfl⟩ := Option.map_eq_some_iff.mp c
        exact ty_expr (hf _ _ hi).1 (swB_ok rfl _ _ _)
    · split at c
      · rename_i hs
        obtain ⟨i, hi, rfl⟩ := Option.map_eq_some_iff.mp c
        exact ty_expr (hf _ _ hi).1 (swB_ok hs _ _ _)
      · cases c
    · split at c
      · split at c
        · rename_i ie hi
          cases c
          exact ty_retm (compF_ok h 8 hi)
        · obtain ⟨i, hi, rfl⟩ := Option.map_eq_some_iff.mp c
          exact ty_ret (hf _ _ hi).1
      · obtain ⟨i, hi, rfl⟩ := Option.map_eq_some_iff.mp c
        exact ty_ret (hf _ _ hi).1
    · cases c; exact ty_retN
    · split at c
      · rename_i ic ia ib h1 h2 h3
        cases c
        exact ty_if (hf _ _ h1).2 (compB_ok ih h2) (compB_ok ih h3)
      · cases c
    · split at c
      · rename_i iit t ib h1 h2 h3
        cases c
        obtain ⟨ti, tf⟩ := compIter_ok h hf h1
        exact ty_for hp h.K h.calm ti (compTg_ok h h2) (compB_ok ih h3) (foldB_ok tf X.env)
      · cases c
    · split at c
      · rename_i ic ib h1 h2
        cases c
        exact ty_while hp (hf _ _ h1).2 (compB_ok ih h2)
      · cases c
    · cases c; exact ty_brk
    · cases c; exact ty_cont
    · split at c
      · rename_i x xp es cp pos hc
        simp only [Bool.and_eq_true] at hc
        obtain ⟨⟨ho, hg⟩, hm⟩ := hc
        obtain ⟨is', hi, rfl⟩ := Option.map_eq_some_iff.mp c
        obtain ⟨tl, pl⟩ := compL_ok hf hi
        cases es with
        | nil =>
          simp only [compL] at hi
          cases hi
          exact ty_raise0 (h.mkr _ hm) (h.gl hg) h.calm (okName_ok ho).1
        | cons a r =>
          simp only [List.all_cons, Bool.and_eq_true] at pl
          exact ty_raise (h.mkr _ hm) (h.gl hg) tl h.calm (okName_ok ho).1 pl.1 pl.2
      · cases c
    · split at c
      · rename_i hc
        split at c
        · rename_i l i j ib h1 h2 h3 h4
          cases c
          simp only [Bool.and_eq_true, locals2, Bool.not_eq_true'] at hc
          obtain ⟨⟨⟨⟨⟨q1, q2⟩, q3⟩, q4⟩, ⟨⟨q5, q6⟩, q7⟩⟩, q8⟩ := hc
          have kl : ∀ z, (List.lookup z cc.sc.names == some NameKind.local) = true → X.env.kindOf z = some .local := fun z hz => by
            have : X.env.scope.names.lookup z = some .local := by rw [h.sc]; simpa using hz
            exact this
          have e4 := eq_of_beq q4
          subst e4
          have hij : i ≠ j := fun z => by
            subst z
            have a1 := ixOf_ok h2
            have a2 := ixOf_ok h3
            rw [a1] at a2
            have a3 := Option.some.inj a2
            rw [a3] at q7
            simp at q7
          exact ty_try hst hfr h.nd (by rw [h.N]; exact ixOf_ok h2) (by rw [h.N]; exact ixOf_ok h3) hij (kl _ q5) (kl _ q6) (h.gl q2) q1 (h.cls _ l h1) q3 fun pn xe t2 => compB_ok (compS_ok (mvf := mvf) n (X := X.tr pn xe) hst hfr t2 (h.tr pn xe)) h4
        · cases c
      · cases c
    · split at c
      · rename_i hc
        obtain ⟨q1, q2⟩ := Bool.and_eq_true_iff.mp hc
        split at c
        · rename_i l ib h1 h2
          cases c
          exact ty_tryr hst hfr (h.gl q2) q1 (h.cls _ l h1) fun pn xe t2 => compB_ok (compS_ok (mvf := mvf) n (X := X.tr pn xe) hst hfr t2 (h.tr pn xe)) h2
        · cases c
      · cases c
    · cases c
end
end PI
/-! PI13: defs; the whole text. -/
namespace PI
open PySem PySem.Spec PyProof.Rows L2

theorem start_rel {T : Tb} {F : Hp} {A : List Addr} : ∀ {ws : List W} {vs : List V} (m : Nat), RepWs T F A ws vs → ERel T (ws.map some ++ List.replicate m none) (vs.map some ++ List.replicate m none) F A := by
  intro ws vs m r
  have hl : ws.length = vs.length := Paired.length r
  refine ⟨by simp [hl], fun i u e => ?_⟩
  by_cases hi : i < ws.length
  · rw [List.getElem?_append_left (by simpa using hi)] at e
    rw [List.getElem?_append_left (by simpa using (hl ▸ hi : i < vs.length))]
    rw [List.getElem?_map] at e
    rw [List.getElem?_map]
    obtain ⟨z, hz, hz2⟩ := Option.map_eq_some_iff.mp e
    cases hz2
    obtain ⟨v, h1, h2⟩ := paired_get r hz
    exact ⟨v, by rw [h1]; rfl, h2⟩
  · rw [List.getElem?_append_right (by simpa using hi)] at e
    obtain ⟨_, z⟩ := List.getElem?_eq_some_iff.mp e
    simp at z

/-- a def of the text, with its small form -/
structure Entry where
  name : Str
  qual : Str
  st : Stmt
  N : List Str
  ps : List Str
  mv : List Str
  d : Df
/-- a class of errors of the text -/
structure EntX where
  name : Str
  fo : Option (Str × Option Str)
/-- an own class of the text: its name, its __init__ among the methods, how many arguments it takes -/
structure EntC where
  name : Str
  q : Str
  np : Nat
/-- the text's own names; P: methods (with the names that their defs have), C: own classes, prp: properties by their names -/
structure Txt where
  L : List Entry
  M : List EntX
  P : List (Entry × Str)
  C : List EntC
  prp : Str → Option (Str × Str)
  cst : Str → Option D
  kf : Str → List Str → Option (List Nat)
  cls : Str → Option (List Str)
def Txt.own (t : Txt) (y : Str) : Option Nat := match t.L.find? fun e => e.name == y with
  | some e => some e.d.np
  | none => match t.M.find? fun e => e.name == y with
    | some e => some (if e.fo.isSome then 1 else 0)
    | none => match t.C.find? fun e => e.name == y with
      | some e => some e.np
      | none => none
def Txt.tab (t : Txt) (y : Str) : Option Gd := match t.L.find? fun e => e.name == y with
  | some e => some (.fn e.d)
  | none => match t.M.find? fun e => e.name == y with
    | some e => some (.exc e.name e.fo)
    | none => match t.C.find? fun e => e.name == y with
      | some e => some (.cls e.name e.q e.np)
      | none => match t.P.find? fun e => e.1.name == y with
        | some e => some (.fn e.1.d)
        | none => none
def Txt.mkr (t : Txt) (y : Str) : Bool := (t.L.find? fun e => e.name == y).isNone && (t.M.find? fun e => e.name == y).isSome
def Txt.cc (t : Txt) (N : List Str) (sc : Scope) (mv : List Str) (keep : Bool) : Cc := { N := N, sc := sc, fnb := fun _ => true, mv := mv, own := t.own, cst := t.cst, keep := keep, kf := t.kf, cls := t.cls, mkr := t.mkr, prp := t.prp }
/-- the program and the module of a context -/
structure Comp (P : Program) (w : World) (K : PySem.W.Frag) (mg : Str → Option Value) (base : Heap) (Y : Cx) : Prop where
  prog : Y.prog = P
  w : Y.w = w
  K : Y.K = K
  mg : Y.mg = mg
  base : Y.base = base
section
variable {P : Program} {w : World} {T : Tb} {mg : Str → Option Value} {base : Heap} {t : Txt}
theorem Comp.sim {X Y : Cx} (c : Comp P w T.K mg base X) (e : Sim X Y) : Comp P w T.K mg base Y := ⟨e.prog.trans c.prog, e.w.trans c.w, e.K.trans c.K, e.mg.trans c.mg, e.base.trans c.base⟩
/-- what is called x is there, and to the depth k it is what phi says -/
structure Known (P : Program) (w : World) (T : Tb) (mg : Str → Option Value) (base : Heap) (t : Txt) (k : Nat) (x : Str) (n : Nat) : Prop where
  len : ∀ ws μ r, phi t.tab k x ws μ = some r → ws.length = n
  ex : ∃ fa, mg x = some (.ref fa) ∧ PySem.W.keepIn T.K (.ref fa) = true ∧ ∀ Y, Comp P w T.K mg base Y → Room (3 * k) Y.A → (∀ us vs, Vals vs us → RunAt T (phi t.tab k) Y fa x n us [] vs) ∧
    ∀ ks pm ws zs vs, t.kf x ks = some pm → Vals zs ws → zs.length = ks.length → permL pm zs = some vs → RunAt T (phi t.tab k) Y fa x n [] (ks.zip ws) vs
structure KnownM (P : Program) (w : World) (T : Tb) (mg : Str → Option Value) (base : Heap) (t : Txt) (k : Nat) (x : Str) : Prop where
  ex : ∃ C, mg x = some (.ref C) ∧ PySem.W.keepIn T.K (.ref C) = true ∧ ∀ Y, Comp P w T.K mg base Y → Room (3 * k) Y.A → (∀ us vs, Vals vs us → MakeAt T (phi t.tab k) Y C x us [] vs) ∧
    ∀ ks pm ws zs vs, t.kf x ks = some pm → Vals zs ws → zs.length = ks.length → permL pm zs = some vs → MakeAt T (phi t.tab k) Y C x [] (ks.zip ws) vs
theorem Known.callee {k : Nat} {x : Str} {n : Nat} {X : Cx} (h : Known P w T mg base t k x n) (c : Comp P w T.K mg base X) (hr : Room (3 * k) X.A) : Callee T (phi t.tab k) t.kf X x n := by
  obtain ⟨fa, h1, h2, h3⟩ := h.ex
  exact ⟨h.len, fa, 3 * k, by rw [c.mg]; exact h1, by rw [c.K]; exact h2, hr, fun Y e hY => h3 Y (c.sim e) hY⟩
theorem KnownM.maker {k : Nat} {x : Str} {X : Cx} (h : KnownM P w T mg base t k x) (c : Comp P w T.K mg base X) (hr : Room (3 * k) X.A) : Maker T (phi t.tab k) t.kf X x := by
  obtain ⟨C, h1, h2, h3⟩ := h.ex
  exact ⟨C, 3 * k, by rw [c.mg]; exact h1, by rw [c.K]; exact h2, hr, fun Y e hY => h3 Y (c.sim e) hY⟩
/-- what a def's call does -/
theorem run_of_fn {Φ : Phi} {x : Str} {n k : Nat} {fa : Addr} {fd : FuncData} {ps : List Str} (ok : FnOk P w T.K mg base (L2.CX P w) k fa fd ps (spF T Φ x n)) (hb : Binds T.K fd ps [])
    (hkb : ∀ ks pm, t.kf x ks = some pm → ∀ (s : Shared) (ws us : List Value), T.K.In s.heap → ws.length = ks.length → permL pm ws = some us → BindsTo s fd ⟨[], ks.zip ws⟩ (ps.zip us)) {Y : Cx} (c : Comp P w T.K mg base Y) (hr : Room k Y.A) :
    (∀ us vs, Vals vs us → RunAt T Φ Y fa x n us [] vs) ∧ ∀ ks pm ws zs vs, t.kf x ks = some pm → Vals zs ws → zs.length = ks.length → permL pm zs = some vs → RunAt T Φ Y fa x n [] (ks.zip ws) vs := by
  obtain ⟨rfl, rfl, hK, rfl, rfl⟩ := c
  rw [← hK] at ok hb
  refine ⟨fun us vs rv pins σ H s Q E tk I h => run_fnS (E := WE E) ok hr hb (passAt tk σ) I rv h, fun ks pm ws zs vs hk rz hl hp pins σ H s Q E tk I h => ?_⟩
  obtain ⟨us, hu, ru⟩ : ∃ us, permL pm ws = some us ∧ Vals vs us := by
    clear h hk hl
    induction pm generalizing vs with
    | nil =>
      simp only [permL] at hp
      cases hp
      exact ⟨[], rfl, .nil⟩
    | cons i pm ih =>
      simp only [permL] at hp
      split at hp
      · rename_i z l h1 h2
        cases hp
        obtain ⟨u, h3, h4⟩ := paired_get rz h1
        obtain ⟨us, h5, h6⟩ := ih _ h2
        exact ⟨u :: us, by simp only [permL, h3, h5], .cons h4 h6⟩
      · cases hp
  refine wpAny_call (codeAny_mono (ok.run Y.A Y.stack s H ⟨[], ks.zip ws⟩ us vs Q _ hr I.env0 (hkb ks pm hk s ws us (hK ▸ I.kIn) (by rw [← hl]; exact (Paired.length rz).symm) hu) ru h) fun r s' hq => ?_)
  cases r with
  | error e => exact (passAt (W := E) tk σ) pins H s e s' I hq
  | ok fl =>
    cases fl with
    | ret u => exact I.after hq
    | next => exact False.elim hq
    | brk => exact False.elim hq
    | cont => exact False.elim hq

/-- how the arguments of a method bind -/
def BindP (T : Tb) (fd : FuncData) (ps : List Str) : Prop := ∀ (s : Shared) (us : List Value), T.K.In s.heap → us.length = ps.length → BindsTo s fd ⟨us, []⟩ (ps.zip us)
/-- a property's getter -/
structure HereG (T : Tb) (t : Txt) (c f q : Str) : Prop where
  ex : ∃ (C p g : Addr) (fd : FuncData) (e : Entry × Str), T.cb c = some C ∧ Cls T.K C ∧ PropOf T.K C f p g ∧ e ∈ t.P ∧ e.1.name = q ∧ e.1.ps = (["self"] : List Str) ∧ e.1.d.np = 1 ∧ FunD T.K e.2 e.1.qual (defArgs e.1.st) (defBody e.1.st) (defScope e.1.st) [] [] g fd ∧ Binds T.K fd (["self"] : List Str) []
/-- what is known of the text's names at a depth -/
structure Env1 (P : Program) (w : World) (T : Tb) (mg : Str → Option Value) (base : Heap) (t : Txt) (k : Nat) : Prop where
  blt : ∀ y ∈ bltNames, mg y = none
  cst : ∀ y z, t.cst y = some z → ∃ u v, mg y = some u ∧ RelV v u ∧ ∀ F, Rep T F z v
  own : ∀ y n, t.own y = some n → Known P w T mg base t k y n
  mkr : ∀ y, t.mkr y = true → KnownM P w T mg base t k y
  cls : ∀ Y, Comp P w T.K mg base Y → ∀ x l, t.cls x = some l → ClsOk T Y x l
  err : ∀ c C, T.ca c = some C → ErrC T.K C fieldNames
  fns : ∀ g b, T.fa g = some b → mg g = some (.ref b) ∧ ∃ n, t.own g = some n
  ins : ∀ c C, T.cb c = some C → InsC T.K C insFields
  prp : ∀ f c q, t.prp f = some (c, q) → HereG T t c f q
  met : ∀ e ∈ t.P, ∀ (fa : Addr) (fd : FuncData) (dvs : List V) (kws : List (Str × V)), FunD T.K e.2 e.1.qual (defArgs e.1.st) (defBody e.1.st) (defScope e.1.st) dvs kws fa fd → FnOk P w T.K mg base (L2.CX P w) (3 * k) fa fd e.1.ps (spF T (phi t.tab k) e.1.name e.1.d.np)
theorem Env1.prop {k : Nat} (h : Env1 P w T mg base t k) {X : Cx} (c : Comp P w T.K mg base X) (hr : Room (3 * k + 1) X.A) {f cn q : Str} (hp : t.prp f = some (cn, q)) : PropR T (phi t.tab k) X cn f q := by
  obtain ⟨C, p, g, fd, e, h1, h2, h3, h4, h5, h6, h7, h8, h9⟩ := (h.prp f cn q hp).ex
  have F := h.met e h4 g fd [] [] h8
  rw [h5, h6, h7] at F
  refine ⟨C, 3 * k + 1, h1, hr, fun Y e2 hY a dx fs pins σ H s Q b E' I hH hsp => ?_⟩
  obtain ⟨y1, y2, y3, y4, y5⟩ := c.sim e2
  subst y1 y2 y4 y5
  rw [← y3] at F h2 h3 h9
  exact getprop_ok I hH h2 h3 F hY h9 .nil (fun pins σ H s e s' I z => by obtain ⟨_, _, _, _, _, _, _, _, _, _, _, _, z⟩ := z; exact z) hsp
theorem Env1.ctx {k : Nat} (h : Env1 P w T mg base t k) {N : List Str} {sc : Scope} {mv : List Str} {keep : Bool} {X : Cx} (c : Comp P w T.K mg base X) (hN : X.N = N) (nd : X.N.Nodup) (hs : X.env.scope = sc) (hf : ∀ x, X.fn x = true) (hc : X.calm = true) (hu : X.A.units + 65 < cLine) (hr1 : Room (3 * k + 1) X.A) :
    CtxOk T (phi t.tab k) (t.cc N sc mv keep) X where
  K := c.K
  N := hN
  nd := nd
  sc := hs
  fn := hf
  calm := hc
  un := hu
  blt := by rw [c.mg]; exact h.blt
  own := fun x n hx => (h.own x n hx).callee c (hr1.mono (Nat.le_succ _))
  cst := by rw [c.mg]; exact h.cst
  cls := fun x l hx => h.cls X c x l hx
  mkr := fun x hx => (h.mkr x hx).maker c (hr1.mono (Nat.le_succ _))
  err := by rw [c.K]; exact h.err
  fns := by rw [c.mg]; exact h.fns
  ins := by rw [c.K]; exact h.ins
  prp := fun f cn q hp => h.prop c hr1 hp
/-- THE DEF -/
theorem def_ok {k : Nat} {x y qual : Str} {st : Stmt} {fa : Addr} {fd : FuncData} {N ps mv : List Str} {d : Df} {dvs : List V} {kws : List (Str × V)} (h1 : Env1 P w T mg base t k) (F : FunD T.K y qual (defArgs st) (defBody st) (defScope st) dvs kws fa fd) (S : FnScope N ps (defScope st)) (hG : t.tab x = some (.fn d)) (hnp : d.np = ps.length) (hnn : d.nn = N.length)
    (hb : compS.compB (compS true 60 (t.cc N (defScope st) mv d.keep)) (defBody st) = some d.body) : FnOk P w T.K mg base (L2.CX P w) (3 * (k + 1)) fa fd ps (spF T (phi t.tab (k + 1)) x d.np) := by
  have F2 : FnOk P w T.K mg base (L2.CX P w) (3 * k + 2 + 1) fa fd ps (spF T (phi t.tab (k + 1)) x d.np) := by
    refine F.ok S (fun vs H Q E h => by rw [h.1, hnp]) (fun cdv A outer s H vs Q E hr h => ?_)
    obtain ⟨hl, ws, μ, F0, A0, r, rw0, s0, e, po⟩ := h
    simp only [phi, hG, callD] at e
    split at e
    · rename_i hlen
      generalize hX : cxOf (L2.CX P w) P w T.K mg base N qual (defScope st) fa cdv A outer s H E = X
      have cmp : Comp P w T.K mg base X := by
        subst hX
        exact ⟨rfl, rfl, rfl, rfl, rfl⟩
      have hr' : Room (3 * k + 1) X.A := by
        subst hX
        exact hr.mono (Nat.le_succ _)
      have ctx : CtxOk T (phi t.tab k) (t.cc N (defScope st) mv d.keep) X := by
        refine h1.ctx cmp ?_ ?_ ?_ ?_ ?_ ?_ hr'
        · subst hX; rfl
        · subst hX; exact S.nd
        · subst hX; rfl
        · subst hX; exact fun _ => rfl
        · subst hX; rfl
        · subst hX
          have := hr.un
          show (A.deeper _).units + 65 < cLine
          omega
      have tk : Takes X (fun c dd _ h => E c dd h) := by
        subst hX
        exact takes_of rfl rfl rfl rfl
      have hp : PassesOwn (model X.prog X.w) X.A X.env X.xe := by
        subst hX
        exact passes_of rfl
      have hst : X.stack = X.env :: X.outer := by
        subst hX
        rfl
      have hfr : X.env.frame = some X.env.locals := by
        subst hX
        rfl
      have hbody : TyBl T (phi t.tab k) X (defBody st) d.body := compB_ok (compS_ok 60 hst hfr hp ctx) hb
      refine ⟨_, pb_w, ?_⟩
      cases hx : exB (phi t.tab k) d.body (ws.map some ++ List.replicate (d.nn - ws.length) none) μ with
      | none => rw [hx] at e; cases e
      | some q =>
        rw [hx] at e
        have hws : ws.length = vs.length := Paired.length rw0
        have er0 : ERel T (ws.map some ++ List.replicate (d.nn - ws.length) none) (L2.start N vs) F0 A0 := by
          unfold L2.start
          rw [hnn, hws]
          exact start_rel _ rw0
        refine hbody _ μ _ H F0 A0 q _ _ tk s0 er0 hx ?_
        have cutA : ∀ {A' : List Addr}, A0 <+: A' → A'.take μ.length = A0 := fun {A'} h => by
          obtain ⟨B, rfl⟩ := h
          rw [← s0.len, List.take_left']
          rfl
        obtain ⟨fl, m⟩ := q
        cases fl with
        | nx ρ' =>
          simp only [outD] at e
          cases e
          intro σ' H' F' A' x' s' er'
          have s2 := s'.cut μ.length
          rw [cutA x'.pre] at s2
          exact po .non H' F' A0 ⟨x'.sub, List.prefix_refl _⟩ s2 (by simp only [RepW, Rep])
        | bk ρ' => simp only [outD] at e; cases e
        | ct ρ' => simp only [outD] at e; cases e
        | xc dd ρ' =>
          simp only [outD] at e
          cases e
          intro cls dx σ' H' F' A' x' s' er' xr
          have s2 := s'.cut μ.length
          rw [cutA x'.pre] at s2
          exact po cls dx H' F' A0 ⟨x'.sub, List.prefix_refl _⟩ s2 xr
        | rt u =>
          simp only [outD] at e
          split at e
          · cases e
            exact fun v H' F' A' x' s' r' => po v H' F' A' x' s' r'
          · split at e
            · cases e
            · rename_i y m1 hd
              cases e
              intro v H' F' A' x' s' r'
              obtain ⟨F2, s2, sb, rp⟩ := s'.toD r' hd
              have s3 := s2.cut μ.length
              rw [cutA x'.pre] at s3
              exact po v H' F2 A0 ⟨x'.sub.trans sb, List.prefix_refl _⟩ s3 rp
    · cases e
  exact F2
end
end PI
/-! PI19: classes of errors, made. -/
namespace PI
open PySem PySem.Spec PyProof.Rows L2

theorem heap_one (a : Addr) (o : Obj) (h : o.isFreed = false) : ∃ g : Heap, g.get? a = some o := by
  refine ⟨⟨Array.replicate (a + 1) o, {}⟩, Heap.get?_some_iff.mpr ⟨?_, h⟩⟩
  simp
theorem exo_ne {a C : Addr} {d od : Option Addr} {cls : Value} : exo a C d ≠ exAt a cls od := fun z => by
  obtain ⟨g, hg⟩ := heap_one a { cls := cls, dict := od, data := .fields #[] } rfl
  have q : (fun h : Heap => ∃ t1 : Addr, h.get? a = some ({ cls := .ref C, dict := d, data := .fields #[.ref t1, .none, .none, .none, .bool false, .none] } : Obj)) = fun h : Heap => ∃ (oe : Obj) (vs : Array Value), h.get? a = some oe ∧ Zc cls od oe ∧ oe.data = .fields vs := HO.ext.inj z
  have q2 := congrFun q g
  have t : ∃ t1 : Addr, g.get? a = some ({ cls := .ref C, dict := d, data := .fields #[.ref t1, .none, .none, .none, .bool false, .none] } : Obj) := by
    rw [q2]
    exact ⟨_, _, hg, ⟨rfl, rfl⟩, rfl⟩
  obtain ⟨t1, ht⟩ := t
  rw [hg] at ht
  have := congrArg Obj.data (Option.some.inj ht)
  have := Data.fields.inj this
  have := congrArg Array.size this
  simp at this
theorem del_sub {F : Hp} {a b : Addr} {o : HO} (h : L2.del F a b = some o) : F b = some o ∧ b ≠ a := by
  unfold L2.del at h
  split at h
  · cases h
  · exact ⟨h, ‹_›⟩
mutual
theorem rep_del {T : Tb} {F : Hp} {a C : Addr} {od : Option Addr} (ha : F a = some (exo a C od)) : ∀ (d : D) (v : V), Rep T F d v → Rep T (L2.del F a) d v
  | .non, v, h => by simpa only [Rep] using h
  | .bl b, v, h => by simpa only [Rep] using h
  | .int i, v, h => by simpa only [Rep] using h
  | .str s, v, h => by simpa only [Rep] using h
  | .fn f, v, h => by simpa only [Rep] using h
  | .tup ds, v, h => by
    simp only [Rep] at h ⊢
    obtain ⟨b, vs, rfl, s, r⟩ := h
    refine ⟨b, vs, rfl, ?_, reps_del ha ds vs r⟩
    rw [del_ne (at_ne ha s exo_tup)]
    exact s
  | .lst ds, v, h => by
    simp only [Rep] at h ⊢
    obtain ⟨b, vs, rfl, s, r⟩ := h
    refine ⟨b, vs, rfl, ?_, reps_del ha ds vs r⟩
    rw [del_ne (at_ne ha s (fun z => by have z' : HO.ext _ = HO.lst vs := z; cases z'))]
    exact s
  | .scr ds, v, h => by
    simp only [Rep] at h ⊢
    obtain ⟨b, vs, rfl, s, r⟩ := h
    refine ⟨b, vs, rfl, ?_, reps_del ha ds vs r⟩
    rcases s with (s | ⟨o, s⟩) | s
    · refine .inl (.inl ?_)
      rw [del_ne (at_ne ha s (fun z => by have z' : HO.ext _ = HO.lst vs := z; cases z'))]
      exact s
    · refine .inl (.inr ⟨o, ?_⟩)
      rw [del_ne (at_ne ha s exo_frz)]
      exact s
    · exact .inr s
  | .dic t ks ds, v, h => by
    simp only [Rep] at h ⊢
    obtain ⟨b, vs, rfl, r, h3⟩ := h
    refine ⟨b, vs, rfl, reps_del ha ds vs r, h3.imp fun u _ ⟨o, z⟩ => ⟨o, ?_⟩⟩
    rw [del_ne (at_ne ha z exo_frz)]
    exact z
  | .ins c ns ds, v, h => by
    simp only [Rep] at h ⊢
    obtain ⟨b, C', dx, vs, rfl, h1, h2, h3, r⟩ := h
    refine ⟨b, C', dx, vs, rfl, h1, ?_, h3, reps_del ha ds vs r⟩
    rw [del_ne (at_ne ha h2 (fun z => by have z' : HO.ext _ = HO.ins C' dx (ns.zip vs) := z; cases z'))]
    exact h2
  | .exc c ns ds, v, h => by
    simp only [Rep] at h ⊢
    obtain ⟨b, C', od', vs, rfl, h1, h2, h3, r, h4⟩ := h
    have hb : b ≠ a := fun z => by
      subst z
      rw [ha] at h2
      exact exo_ne (Option.some.inj h2)
    refine ⟨b, C', od', vs, rfl, h1, ?_, h3, reps_del ha ds vs r, ?_⟩
    · rw [del_ne hb]
      exact h2
    · rcases h4 with z | ⟨dx, z1, z2⟩
      · exact .inl z
      · refine .inr ⟨dx, z1, ?_⟩
        rw [del_ne (at_ne ha z2 (fun z => by have z' : HO.ext _ = HO.xd (ns.zip vs) := z; cases z'))]
        exact z2
theorem reps_del {T : Tb} {F : Hp} {a C : Addr} {od : Option Addr} (ha : F a = some (exo a C od)) : ∀ (ds : List D) (vs : List V), Reps T F ds vs → Reps T (L2.del F a) ds vs
  | [], vs, h => by simpa only [Reps] using h
  | d :: ds, vs, h => by
    simp only [Reps] at h ⊢
    obtain ⟨v, r, rfl, h1, h2⟩ := h
    exact ⟨v, r, rfl, rep_del ha d v h1, reps_del ha ds r h2⟩
end

section
variable {T : Tb} {Φ : Phi} {μ : Mu} {H F : Hp} {A : List Addr}
/-- all that stands and doesn't change -/
def wide (H F : Hp) (A : List Addr) : Hp := fun b => match F b with
  | some o => some o
  | none => if b ∈ A then none else H b
theorem wide_sub : Sub F (wide H F A) := fun b o e => by
  unfold wide
  rw [e]
theorem SRel.wide (s : SRel T μ H F A) : SRel T μ H (wide H F A) A := by
  refine ⟨fun b o e => ?_, s.len, s.nod, s.thr, fun k a o h1 h2 => ?_⟩
  · unfold PI.wide at e
    split at e
    · rename_i u hu
      cases e
      exact s.sub _ _ hu
    · split at e
      · cases e
      · exact e
  · have hA : a ∈ A := List.mem_of_getElem? h1
    refine (s.obj k a o h1 h2).mono wide_sub fun ho => ⟨?_, rfl⟩
    unfold PI.wide
    rw [(s.obj k a o h1 h2).nF ho]
    exact if_pos hA
theorem wide_none (s : SRel T μ H F A) {F' H' : Hp} {A' : List Addr} {μ' : Mu} (s' : SRel T μ' H' F' A') (x : Ext (wide H F A) A F' A') {b : Addr} (hb : H' b = none) : H b = none := by
  have h1 : F' b = none := s'.sub.free hb
  have h2 : wide H F A b = none := x.sub.free h1
  unfold wide at h2
  split at h2
  · cases h2
  · split at h2
    · rename_i hA
      obtain ⟨B, rfl⟩ := x.pre
      exact absurd hb (s'.thr b (List.mem_append_left _ hA))
    · exact h2
end

/-- what an error's own __init__ promises -/
def spIni (T : Tb) (K : PySem.W.Frag) (Φ : Phi) (C : Addr) (f : Str) (ie : IE) : Sp := fun vs H Q E => ∃ a y w μ F A r, vs = [.ref a, y] ∧ H a = some (exo a C none) ∧ RepW T F A w y ∧ SRel T μ H F A ∧ F a = some (exo a C none) ∧ evIni ie Φ w μ = some r ∧
  (match r with
    | .ok d μ' => ∀ z H' F' A' dx, Ext F A F' A' → SRel T μ' H' F' A' → μ'.length = μ.length → Rep T F' d z → H' dx = none → dx ≠ a → Q .non (upd (upd H' dx (exd dx [(f, z)])) a (exo a C (some dx)))
    | .er d μ' => ∀ cls dd H' F' A', Ext F A F' A' → SRel T μ' H' F' A' → XRep T F' d cls dd → E cls dd H')
section
variable {P : Program} {w : World} {T : Tb} {mg : Str → Option Value} {base : Heap} {t : Txt} {k : Nat}
theorem ini_ok {x qual p : Str} {st : Stmt} {fa C : Addr} {fd : FuncData} {f : Str} {ie : IE} {e : Expr} {p1 p2 pos : Pos} (h1 : Env1 P w T mg base t k) (F : FunD T.K x qual (defArgs st) (defBody st) (defScope st) [] [] fa fd) (S : FnScope ["self", p] ["self", p] (defScope st)) (hb : defBody st = [.Assign [.Attribute (.Name "self" p1) f p2] e pos])
    (hv : Vis (defScope st) "self") (he : compE 60 (t.cc ["self", p] (defScope st) [] false) e = some ie) (hs : swB e = true) (hC : OexC T.K C) (hno : PySem.W.findIn T.K (.ref C) f = some none) :
    FnOk P w T.K mg base (L2.CX P w) (3 * k + 2) fa fd ["self", p] (spIni T T.K (phi t.tab k) C f ie) := by
  refine F.ok S (fun vs H Q E h => by obtain ⟨a, y, _, _, _, _, _, rfl, _⟩ := h; rfl) (fun cdv A outer s H vs Q E hr h => ?_)
  obtain ⟨a, y, w0, μ, F0, A0, r, rfl, ha, rw0, s0, hFa, ev, po⟩ := h
  generalize hX : cxOf (L2.CX P w) P w T.K mg base ["self", p] qual (defScope st) fa cdv A outer s H E = X
  have cmp : Comp P w T.K mg base X := by
    subst hX
    exact ⟨rfl, rfl, rfl, rfl, rfl⟩
  have hr' : Room (3 * k + 1) X.A := by
    subst hX
    exact hr
  have ctx : CtxOk T (phi t.tab k) (t.cc ["self", p] (defScope st) [] false) X := by
    refine h1.ctx cmp ?_ ?_ ?_ ?_ ?_ ?_ hr'
    · subst hX; rfl
    · subst hX; exact S.nd
    · subst hX; rfl
    · subst hX; exact fun _ => rfl
    · subst hX; rfl
    · subst hX
      have := hr.un
      show (A.deeper _).units + 65 < cLine
      omega
  have tk : Takes X (fun c dd _ h => E c dd h) := by
    subst hX
    exact takes_of rfl rfl rfl rfl
  have hself : PE X (.Name "self" p1) (tVar 0) := by
    refine pv 0 ?_ ?_
    · rw [ctx.N]; rfl
    · rw [ctx.sc]; exact hv
  have hE := (compE_ok 60 ctx e ie he).1
  rw [hb]
  refine ⟨_, pss_one (ps_ost (f := f) hself pe_w (swB_ok hs _ _ _)), ?_⟩
  have er0 : ERel T [none, some w0] (L2.start ["self", p] [.ref a, y]) F0 A0 := by
    refine ⟨rfl, fun i u q => ?_⟩
    match i, q with
    | 1, q =>
      simp at q
      subst q
      exact ⟨y, rfl, rw0⟩
  unfold evIni at ev
  refine hE.then (rep := fun F _ d z => Rep T F d z) (Q2 := fun z H' => ∀ dx, H' dx = none → dx ≠ a → H' a = some (exo a C none) → Q .non (upd (upd H' dx (exd dx [(f, z)])) a (exo a C (some dx)))) tk s0 er0 ev ?_ (fun u μ1 v H1 F1 A1 x s1 er1 r1 e1 p1 => ?_)
  · cases r with
    | er d m => exact po
    | ok d m =>
      intro z H' F' A' x s' rz dx h1 h2 h3
      refine po z H' F' A' dx x s' ?_ rz h1 h2
      rcases bind_some ev with ⟨d', m', _, z⟩ | ⟨u, m', _, e2⟩
      · cases z
      · split at e2
        · cases e2
        · split at e2
          · rename_i hl
            cases e2
            exact hl
          · cases e2
  · split at e1
    · cases e1
    · rename_i d μ2 hd
      split at e1
      · cases e1
        obtain ⟨F2, s2, sb, rp⟩ := s1.toD r1 hd
        have hH1 : H1 a = some (exo a C none) := s1.sub _ _ (x.sub _ _ hFa)
        refine ⟨.ref a, rfl, a, C, rfl, cmp.K ▸ hC, cmp.K ▸ hno, .inl ⟨hH1, fun dx n1 n2 => ?_⟩⟩
        exact p1 v H1 F2 A1 ⟨sb, List.prefix_refl _⟩ s2 rp dx n1 n2 hH1
      · cases e1
end
end PI
/-! PI20: .. called. -/
namespace PI
open PySem PySem.Spec PyProof.Rows L2
section
variable {T : Tb} {Φ Φ' : Phi} {X : Cx} {x c p f : Str} {C fI : Addr} {fd : FuncData} {j : Nat} {ie : IE}
/-- the error leaves its own __init__: the store without it -/
theorem ini_end {a dx : Addr} {μ μ' : Mu} {H F H' F' : Hp} {A A' : List Addr} {d : D} {z : V} (s : SRel T μ H F A) (na : H a = none) (x1 : Ext (upd (wide H F A) a (exo a C none)) A F' A') (s' : SRel T μ' H' F' A') (hl : μ'.length = μ.length) (rz : Rep T F' d z) (hdx : H' dx = none) (hne : dx ≠ a) (hc : T.ca c = some C) :
    H dx = none ∧ ∃ F'' : Hp, Ext F A F'' A' ∧ SRel T μ' (upd (L2.del (upd (upd H' dx (exd dx [(f, z)])) a (exo a C (some dx))) a) dx (.xd [(f, z)])) F'' A' ∧ XRep T F'' (.exc c [f] [d]) (.ref C) (some dx) := by
  have sw := s.wide
  have nw : wide H F A a = none := by
    have := sw.sub.free na
    exact this
  have sb0 : Sub (wide H F A) (upd (wide H F A) a (exo a C none)) := fun b o e => by
    rw [upd_ne (ne_of_none e nw)]
    exact e
  have hFa : F' a = some (exo a C none) := x1.sub _ _ upd_same
  have hFd : F' dx = none := s'.sub.free hdx
  have eA : A' = A := by
    obtain ⟨B, rfl⟩ := x1.pre
    have h1 := s'.len
    have h2 := s.len
    rw [List.length_append, h2, hl] at h1
    have : B = [] := List.length_eq_zero_iff.mp (by omega)
    rw [this, List.append_nil]
  subst eA
  have Hd : H dx = none := wide_none s s' ⟨sb0.trans x1.sub, x1.pre⟩ hdx
  have nA : ∀ b, b ∈ A' → b ≠ a ∧ b ≠ dx := fun b hb => ⟨fun z => s.thr b hb (z ▸ na), fun z => s.thr b hb (z ▸ Hd)⟩
  have hN : ∀ {b : Addr}, b ≠ a → b ≠ dx → upd (L2.del (upd (upd H' dx (exd dx [(f, z)])) a (exo a C (some dx))) a) dx (.xd [(f, z)]) b = H' b := fun {b} h1 h2 => by
    rw [upd_ne h2, del_ne h1, upd_ne h1, upd_ne h2]
  have dn : L2.del F' a dx = none := by
    rw [del_ne hne]
    exact hFd
  have sb1 : Sub (L2.del F' a) (upd (L2.del F' a) dx (.xd [(f, z)])) := fun b o e => by
    rw [upd_ne (ne_of_none e dn)]
    exact e
  have mv : ∀ {y : D} {v : V}, Rep T F' y v → Rep T (upd (L2.del F' a) dx (.xd [(f, z)])) y v := fun {y v} r => Rep.mono sb1 y v (rep_del hFa y v r)
  refine ⟨Hd, upd (L2.del F' a) dx (.xd [(f, z)]), ⟨fun b o e => ?_, List.prefix_refl _⟩, ⟨fun b o e => ?_, s'.len, s'.nod, fun b hb => ?_, fun i b o h1 h2 => ?_⟩, C, hc, rfl, .inr ⟨dx, [z], rfl, upd_same, rfl, .cons (mv rz) .nil⟩⟩
  · have e2 : F' b = some o := x1.sub _ _ (sb0 _ _ (wide_sub _ _ e))
    refine sb1 _ _ ?_
    rw [del_ne]
    · exact e2
    · intro q
      subst q
      rw [s.sub.free na] at e
      cases e
  · by_cases hb : b = dx
    · subst hb
      rw [upd_same] at e ⊢
      exact e
    · rw [upd_ne hb] at e
      obtain ⟨e1, e2⟩ := del_sub e
      rw [hN e2 hb]
      exact s'.sub _ _ e1
  · obtain ⟨n1, n2⟩ := nA b hb
    rw [hN n1 n2]
    exact s'.thr b hb
  · have hb : b ∈ A' := List.mem_of_getElem? h1
    obtain ⟨n1, n2⟩ := nA b hb
    have q := s'.obj i b o h1 h2
    cases o with
    | lst ds =>
      obtain ⟨q1, vs, q2, q3⟩ := q
      refine ⟨?_, vs, ?_, (reps_del hFa _ _ q3).mono sb1⟩
      · rw [upd_ne n2, del_ne n1]
        exact q1
      · rw [hN n1 n2]
        exact q2
    | dic t ks ds =>
      obtain ⟨q1, vs, q3, q6⟩ := q
      refine ⟨?_, vs, (reps_del hFa _ _ q3).mono sb1, q6.imp fun u _ z => ?_⟩
      · rw [upd_ne n2, del_ne n1]
        exact q1
      · rw [hN n1 n2]
        exact z
    | fz y => exact mv q
    | ins c0 ns ds =>
      obtain ⟨q1, C0, dx0, vs, q2, q3, q4, q5⟩ := q
      refine ⟨?_, C0, dx0, vs, q2, ?_, q4, (reps_del hFa _ _ q5).mono sb1⟩
      · rw [upd_ne n2, del_ne n1]
        exact q1
      · rw [hN n1 n2]
        exact q3
theorem make_ini (T1 : OexC X.K C) (iC : PySem.W.findIn X.K (.ref C) "__init__" = some (some (.ref fI))) (tI : PySem.W.typeIn X.K (.ref fI) = some (.type "function")) (F1 : FnOk X.prog X.w X.K X.mg X.base (L2.CX X.prog X.w) j fI fd ["self", p] (spIni T X.K Φ' C f ie)) (hr : Room (j + 1) X.A)
    (hphi : ∀ w μ, Φ x [w] μ = (evIni ie Φ' w μ).bind fun d μ1 => rok (.d (.exc c [f] [d])) μ1) (hl1 : ∀ ws μ r, Φ x ws μ = some r → ws.length = 1) (hc : T.ca c = some C) {us : List Value} {kw : List (Str × Value)} {u : Value} {v : V} (rv : RelV v u) (hus : us.length ≤ sizeLine)
    (hb : ∀ (s : Shared) (self : Value), X.K.In s.heap → BindsTo s fd ⟨self :: us, kw⟩ ((["self", p] : List Str).zip [self, u])) : MakeAt T Φ X C x us kw [v] := by
  intro pins σ H1 s1 Q E tk I1 h
  obtain ⟨ws, μ, F, A, r, rw0, s0, hr0, po⟩ := h
  obtain ⟨w0, rfl⟩ : ∃ w0, ws = [w0] := by
    have := hl1 _ _ _ hr0
    match ws, this with
    | [w0], _ => exact ⟨w0, rfl⟩
  have rw1 : RepW T F A w0 v := by
    cases rw0 with
    | cons a b => exact a
  obtain ⟨nm, q, N, bs, bm, sn, sub, ab, col, dd, k0, k1, k2, k3, k5, hC, hbm⟩ := T1.cls
  obtain ⟨hp, g, dr, t1, os⟩ := s1
  have hsz : hp.objs.size ≤ hp.objs.size + 1 := Nat.le_succ _
  generalize hea : hp.objs.size + 1 = ea at *
  have hn : H1 ea = none := I1.hok.fresh hsz
  have kk : ∀ b o, hp.get? b = some o → ((hp.push (PySem.W.kdv_tup us)).push (PySem.HandSPX.excO C hp.objs.size)).get? b = some o := fun b o e => Heap.get?_push_of_some _ (Heap.get?_push_of_some _ e)
  have hget : ((hp.push (PySem.W.kdv_tup us)).push (PySem.HandSPX.excO C hp.objs.size)).get? ea = some (PySem.HandSPX.excO C hp.objs.size) := by
    rw [← hea]
    heap_get
  have I2 : Inv X pins σ (upd H1 ea (exo ea C none)) ⟨(hp.push (PySem.W.kdv_tup us)).push (PySem.HandSPX.excO C hp.objs.size), g, dr, t1, os⟩ :=
    I1.laid (t' := t1) (a := ea) (o := exo ea C none) (h' := (hp.push (PySem.W.kdv_tup us)).push (PySem.HandSPX.excO C hp.objs.size)) kk hsz (exo_ok hget)
  have r2 : Vals [V.ref ea, v] [Value.ref ea, u] := .cons rfl (.cons rv .nil)
  rw [hphi] at hr0
  have hsp : spIni T X.K Φ' C f ie [.ref ea, v] (upd H1 ea (exo ea C none)) (fun v H2 => v = .non ∧ ∃ (d : Addr) (fs : List (Str × V)), H2 ea = some (exo ea C (some d)) ∧ H2 d = some (exd d fs) ∧ H1 d = none ∧ Q (.ref C) (some d) (upd (L2.del H2 ea) d (.xd fs))) (fun c d h => E c d σ h) := by
    have sw := s0.wide
    obtain ⟨s2, sb⟩ := sw.new (o := exo ea C none) hn
    have x0 : Ext F A (upd (wide H1 F A) ea (exo ea C none)) A := ⟨wide_sub.trans sb, List.prefix_refl _⟩
    rcases bind_some hr0 with ⟨d, m, e1, rfl⟩ | ⟨d, m, e1, e2⟩
    · exact ⟨ea, v, w0, μ, _, A, _, rfl, upd_same, rw1.mono x0, s2, upd_same, e1, fun cls dd H' F' A' x1 s1 xr => po cls dd H' F' A' (x0.trans x1) s1 xr⟩
    · cases e2
      refine ⟨ea, v, w0, μ, _, A, _, rfl, upd_same, rw1.mono x0, s2, upd_same, e1, fun z H' F' A' dx x1 s1 hl rz n1 n2 => ⟨rfl, dx, [(f, z)], upd_same, ?_, ?_, ?_⟩⟩
      · rw [upd_ne n2, upd_same]
      · exact (ini_end (f := f) (c := c) (C := C) s0 hn x1 s1 hl rz n1 n2 hc).1
      · obtain ⟨_, F'', x3, s3, xr⟩ := ini_end (f := f) (c := c) (C := C) s0 hn x1 s1 hl rz n1 n2 hc
        obtain ⟨d0, hd0, post⟩ := po
        cases hd0
        exact post _ _ _ _ _ x3 s3 xr
  refine wpAny_call (Kwx.call_kw PySem.F.excBase_ValueError (fun Y => PySem.HandSPX.refsVE_contains Y bm hbm) (I1.kIn _ _ hC) (PySem.W.looks_findIn I1.kIn iC) (fun self => PySem.W.bind_fn I1.kIn self tI) hus ?_)
  rw [hea]
  refine codeAny_mono (F1.run _ X.stack _ _ ⟨Value.ref ea :: us, kw⟩ [Value.ref ea, u] [V.ref ea, v] _ _ (hr.make C us kw) (I2.env0.make C us kw) (hb _ (.ref ea) I2.kIn) r2 hsp) fun rr s' hq' => ?_
  cases rr with
  | error er => exact (passAt (W := E) tk σ) pins _ _ er s' I2 hq'
  | ok fl =>
    cases fl with
    | ret u =>
      obtain ⟨v2, H2, os2, bare2, un2, hok2, rv2, ev2, d, fs, e1, e2, hd1, q2⟩ := hq'
      subst ev2
      obtain ⟨h2, g2, d2, t2, os'⟩ := s'
      have r3 : u = Value.none := by
        cases rv2
        rfl
      refine ⟨r3, ?_⟩
      have hsz2 : hp.objs.size ≤ ea := by omega
      exact mk_end (raises_own T1.exC T1.tyC) I1 hsz2 kk un2 hok2 os2 bare2 e1 e2 hd1 q2
    | next => exact False.elim hq'
    | brk => exact False.elim hq'
    | cont => exact False.elim hq'
end
end PI
/-! PI29: an object of an own class is made. -/
namespace PI
open PySem PySem.Spec PyProof.Rows L2
section
variable {T : Tb} {Φ Φ' : Phi} {X : Cx} {x c q : Str} {C fI : Addr} {fd : FuncData} {ps : List Str} {j np : Nat}
theorem make_cls (M : Mk X.K C fI) (F1 : FnOk X.prog X.w X.K X.mg X.base (L2.CX X.prog X.w) j fI fd ps (spF T Φ' q (np + 1))) (hr : Room (j + 1) X.A) (hphi : ∀ ws μ, Φ x ws μ = clsD c q np Φ' ws μ) (hc : T.cb c = some C)
    {us us' : List Value} {kw : List (Str × Value)} {vs : List V} (rv : Vals vs us') (hb : ∀ (s : Shared) (self : Value), X.K.In s.heap → vs.length = np → BindsTo s fd ⟨self :: us, kw⟩ (ps.zip (self :: us'))) : RunAt T Φ X C x np us kw vs := by
  intro pins σ H s Q E tk I h
  obtain ⟨hl, ws, μ, F, A, r, rw0, s0, e, po⟩ := h
  rw [hphi] at e
  unfold clsD at e
  split at e
  case isFalse => cases e
  rename_i hnp
  have fr1 : H (s.heap.objs.size + 1) = none := I.hok.fresh (Nat.le_succ _)
  have fr2 : H s.heap.objs.size = none := I.hok.fresh (Nat.le_refl _)
  have I2 := Inv.made (C := C) I
  generalize hx : s.heap.objs.size + 1 = ad at *
  generalize hd : s.heap.objs.size = dx at *
  have hne : dx ≠ ad := by omega
  obtain ⟨s1, sb1⟩ := s0.new (o := .own ad) fr2
  have ha1 : upd H dx (.own ad) ad = none := by
    rw [upd_ne (Ne.symm hne)]
    exact fr1
  have hF1 : upd F dx (.own ad) ad = none := s1.sub.free ha1
  have s2 : SRel T (μ ++ [.ins c [] []]) (upd (upd H dx (.own ad)) ad (.ins C dx [])) (upd F dx (.own ad)) (A ++ [ad]) :=
    s1.alloc ha1 ⟨hF1, C, dx, [], hc, upd_same, rfl, .nil⟩
  have hAk : (A ++ [ad])[μ.length]? = some ad := by
    rw [← s0.len]
    simp
  have xt : Ext F A (upd F dx (.own ad)) (A ++ [ad]) := ⟨sb1, List.prefix_append _ _⟩
  have cutA : ∀ {A' : List Addr}, A ++ [ad] <+: A' → A'.take μ.length = A ∧ A'[μ.length]? = some ad := fun {A'} h => by
    obtain ⟨B, rfl⟩ := h
    constructor
    · rw [← s0.len, List.append_assoc, List.take_left']
      rfl
    · rw [List.getElem?_append_left (by simp [s0.len])]
      exact hAk
  have rwA : RepWs T (upd F dx (.own ad)) (A ++ [ad]) (.r μ.length :: ws) (.ref ad :: vs) := .cons (show RepW T (upd F dx (.own ad)) (A ++ [ad]) (.r μ.length) (.ref ad) from ⟨ad, hAk, rfl⟩) (RepWs.mono xt rw0)
  have r2 : Vals (V.ref ad :: vs) (Value.ref ad :: us') := .cons rfl rv
  have hsp : spF T Φ' q (np + 1) (.ref ad :: vs) (upd (upd H dx (.own ad)) ad (.ins C dx [])) (fun v H2 => v = .non ∧ Q (.ref ad) H2) (fun c d h => E c d σ h) := by
    split at e
    · rename_i m hm
      split at e
      · cases e
      · rename_i d m1 hd1
        cases e
        refine ⟨by simp [hl], _, _, _, _, _, rwA, s2, hm, fun v H' F' A' x' s' r' => ?_⟩
        refine ⟨by simpa only [RepW, Rep] using r', ?_⟩
        obtain ⟨c1, c2⟩ := cutA x'.pre
        obtain ⟨F3, s3, sb3, rp⟩ := s'.toD (w := .r μ.length) (v := .ref ad) ⟨ad, c2, rfl⟩ hd1
        have s4 := s3.cut μ.length
        rw [c1] at s4
        exact po (.ref ad) H' F3 A ⟨(sb1.trans x'.sub).trans sb3, List.prefix_refl _⟩ s4 rp
    · rename_i d m hm
      cases e
      refine ⟨by simp [hl], _, _, _, _, _, rwA, s2, hm, fun cls dd H' F' A' x' s' xr => ?_⟩
      obtain ⟨c1, c2⟩ := cutA x'.pre
      have s4 := s'.cut μ.length
      rw [c1] at s4
      exact po cls dd H' F' A ⟨sb1.trans x'.sub, List.prefix_refl _⟩ s4 xr
    · cases e
  subst hx
  subst hd
  have hself := hb { s with heap := (s.heap.push PySem.W.emptyDict).push (PySem.W.instObj C s.heap.objs.size) } (Value.ref (s.heap.objs.size + 1)) I2.kIn hl
  refine wpAny_call (make_map (f := fI) I.kIn M.makes M.init (beq_iff_eq.mp M.fn) (codeAny_mono (F1.run _ X.stack _ _ ⟨Value.ref (s.heap.objs.size + 1) :: us, kw⟩ (Value.ref (s.heap.objs.size + 1) :: us') (V.ref (s.heap.objs.size + 1) :: vs) _ _ (hr.make C us kw)
    (I2.env0.make C us kw) hself r2 hsp) fun r s' hq' => ?_))
  cases r with
  | error er => exact (passAt (W := E) tk σ) pins _ _ er s' I2 hq'
  | ok fl =>
    cases fl with
    | ret u =>
      obtain ⟨v, H', I3, rv3, ev, q3⟩ := I2.after hq'
      subst ev
      exact ⟨rv3, ⟨V.ref (s.heap.objs.size + 1), H', I3, rfl, q3⟩⟩
    | next => exact False.elim hq'
    | brk => exact False.elim hq'
    | cont => exact False.elim hq'
end
end PI
/-! PI21: the whole text is known. -/
namespace PI
open PySem PySem.Spec PyProof.Rows L2
/-- what the kernel reckons of a def -/
def entB (t : Txt) (e : Entry) : Prop := FnScope e.N e.ps (defScope e.st) ∧ e.d.np = e.ps.length ∧ e.d.nn = e.N.length ∧ compS.compB (compS true 60 (t.cc e.N (defScope e.st) e.mv e.d.keep)) (defBody e.st) = some e.d.body
/-- what stands behind the top -/
structure HereF (T : Tb) (mg : Str → Option Value) (t : Txt) (e : Entry) : Prop where
  ex : ∃ fa fd, mg e.name = some (.ref fa) ∧ FunD T.K e.name e.qual (defArgs e.st) (defBody e.st) (defScope e.st) [] [] fa fd ∧ Binds T.K fd e.ps [] ∧
    ∀ ks pm, t.kf e.name ks = some pm → ∀ (s : Shared) (ws us : List Value), T.K.In s.heap → ws.length = ks.length → permL pm ws = some us → BindsTo s fd ⟨[], ks.zip ws⟩ (e.ps.zip us)
/-- a class of errors without own __init__ | with one of one field -/
structure HereX0 (T : Tb) (t : Txt) (m : EntX) (C : Addr) : Prop where
  ex : ∃ bmB B newId initId, ExcBaseFacts B newId initId bmB ∧ PySem.W.excIn T.K C bmB newId = true
  sb : PySem.W.subIn T.K (.ref C) (.type "BaseException") = some true
  ty : PySem.W.typeIn T.K (.ref C) = some (.type "type")
  kf : ∀ ks, t.kf m.name ks = none
structure HereX1 (T : Tb) (t : Txt) (m : EntX) (C : Addr) (f : Str) (g : Option Str) : Prop where
  ox : OexC T.K C
  no : PySem.W.findIn T.K (.ref C) f = some none
  ex : ∃ (fI : Addr) (fd : FuncData) (p : Str) (st : Stmt) (xn qual : Str) (p1 p2 pos : Pos) (e : Expr), PySem.W.findIn T.K (.ref C) "__init__" = some (some (.ref fI)) ∧ PySem.W.typeIn T.K (.ref fI) = some (.type "function") ∧
    FunD T.K xn qual (defArgs st) (defBody st) (defScope st) [] [] fI fd ∧ FnScope ["self", p] ["self", p] (defScope st) ∧ defBody st = [.Assign [.Attribute (.Name "self" p1) f p2] e pos] ∧ Vis (defScope st) "self" ∧
    compE 60 (t.cc ["self", p] (defScope st) [] false) e = some (iniE g) ∧ swB e = true ∧ Binds T.K fd ["self", p] [] ∧
    ∀ ks pm, t.kf m.name ks = some pm → ks = [p] ∧ pm = [0] ∧ ∀ (s : Shared) (self u : Value), T.K.In s.heap → BindsTo s fd ⟨[self], [(p, u)]⟩ ((["self", p] : List Str).zip [self, u])
structure HereX (T : Tb) (mg : Str → Option Value) (t : Txt) (m : EntX) : Prop where
  ex : ∃ C, mg m.name = some (.ref C) ∧ T.ca m.name = some C ∧ PySem.W.keepIn T.K (.ref C) = true ∧ (match m.fo with
    | none => HereX0 T t m C
    | some (f, g) => HereX1 T t m C f g)
section
variable {P : Program} {w : World} {T : Tb} {mg : Str → Option Value} {base : Heap} {t : Txt}
theorem tab_exc {x : Str} {m : EntX} (h1 : t.L.find? (fun e => e.name == x) = none) (h2 : t.M.find? (fun e => e.name == x) = some m) : m ∈ t.M ∧ m.name = x ∧ t.tab x = some (.exc x m.fo) := by
  have hn : m.name = x := by
    have := List.find?_some h2
    simpa using this
  refine ⟨List.mem_of_find?_eq_some h2, hn, ?_⟩
  unfold Txt.tab
  rw [h1, h2]
  subst hn
  rfl
theorem tab_fn {x : Str} {e : Entry} (h1 : t.L.find? (fun e => e.name == x) = some e) : e ∈ t.L ∧ e.name = x ∧ t.tab x = some (.fn e.d) := by
  have hn : e.name = x := by
    have := List.find?_some h1
    simpa using this
  refine ⟨List.mem_of_find?_eq_some h1, hn, ?_⟩
  unfold Txt.tab
  rw [h1]
theorem known_fn {k : Nat} {x : Str} {e : Entry} (h : Env1 P w T mg base t k) (hE : entB t e) (hH : HereF T mg t e) (hn : e.name = x) (ht : t.tab x = some (.fn e.d)) : Known P w T mg base t (k + 1) x e.d.np := by
  subst hn
  obtain ⟨fa, fd, m, f, b, kb⟩ := hH.ex
  obtain ⟨e1, e2, e3, e4⟩ := hE
  refine ⟨fun ws μ r z => ?_, fa, m, f.kp, fun Y c hr => ?_⟩
  · simp only [phi, ht, callD] at z
    split at z
    · assumption
    · cases z
  · have ok := def_ok (k := k) (mv := e.mv) h f e1 ht e2 e3 e4
    exact run_of_fn ok b kb c hr
theorem phi_exc0 {k : Nat} {x : Str} (ht : t.tab x = some (.exc x none)) {ws : List W} {μ : Mu} {r : X1 W} (h : phi t.tab (k + 1) x ws μ = some r) : ws = [] ∧ r = .ok (.d (.exc x [] [])) μ := by
  simp only [phi, ht] at h
  unfold excD at h
  split at h
  · cases h
    exact ⟨rfl, rfl⟩
  · rename_i z
    cases z
  · cases h
theorem known_exc {k : Nat} {x : Str} {m : EntX} (h : Env1 P w T mg base t k) (hH : HereX T mg t m) (hn : m.name = x) (ht : t.tab x = some (.exc x m.fo)) :
    KnownM P w T mg base t (k + 1) x ∧ (∀ ws μ r, phi t.tab (k + 1) x ws μ = some r → ws.length = (if m.fo.isSome then 1 else 0)) ∧ ∀ ws μ w m', phi t.tab (k + 1) x ws μ = some (.ok w m') → ∃ c ns ds, w = .d (.exc c ns ds) := by
  subst hn
  obtain ⟨C, h1, h2, h3, h4⟩ := hH.ex
  cases hfo : m.fo with
  | none =>
    rw [hfo] at h4 ht
    have h4 : HereX0 T t m C := h4
    obtain ⟨⟨bmB, B, newId, initId, FB, q⟩, sb, ty, nk⟩ := h4
    refine ⟨⟨C, h1, h3, fun Y c hr => ?_⟩, fun ws μ r z => ?_, fun ws μ w m' z => ?_⟩
    rotate_left
    · rw [(phi_exc0 ht z).1]
      rfl
    · obtain ⟨_, e⟩ := phi_exc0 ht z
      cases e
      exact ⟨_, _, _, rfl⟩
    · obtain ⟨rfl, rfl, hK, rfl, rfl⟩ := c
      refine ⟨fun us vs rv pins σ H s Q E tk I hs => ?_, fun ks pm ws zs vs hk => by rw [nk] at hk; cases hk⟩
      obtain ⟨ws, μ, F, A, r, r0, s0, hp, po⟩ := hs
      obtain ⟨rfl, rfl⟩ := phi_exc0 ht hp
      cases r0
      cases rv
      obtain ⟨hp0, g, dr, tk0, os⟩ := s
      rw [← hK] at q sb ty
      obtain ⟨bm, N, nm, qn, bs, hdct, sn, sub, ab, col, dd, k0, k1, k2, k3, k5, mN, hC, hN, hni, OT⟩ := exc_obj I.kIn q
      refine wpAny_call_exc_subT FB OT hC hN hni (fun h' e hm => ?_) (Nat.zero_le _)
      obtain ⟨d0, hd0, post⟩ := po
      cases hd0
      exact mk_of I hm (raises_own sb ty) (post _ none H F A (.refl _ _) s0 ⟨C, h2, rfl, .inl ⟨rfl, rfl, rfl⟩⟩) (I.hok.gone hm.new)
  | some fg =>
    obtain ⟨f, g⟩ := fg
    rw [hfo] at h4 ht
    have h4 : HereX1 T t m C f g := h4
    obtain ⟨ox, no, fI, fd, p, st, xn, qual, p1, p2, pos, e, iC, tI, FD, FS, hb, hv, he, hs, bi, kw⟩ := h4
    have hphi : ∀ w μ, phi t.tab (k + 1) m.name [w] μ = (evIni (iniE g) (phi t.tab k) w μ).bind fun d μ1 => rok (.d (.exc m.name [f] [d])) μ1 := fun w μ => by
      simp only [phi, ht, excD]
    have hl : ∀ ws μ r, phi t.tab (k + 1) m.name ws μ = some r → ws.length = 1 := fun ws μ r z => by
      simp only [phi, ht] at z
      unfold excD at z
      split at z
      · rename_i q
        cases q
      · rfl
      · cases z
    refine ⟨⟨C, h1, h3, fun Y c hr => ?_⟩, fun ws μ r z => hl ws μ r z, fun ws μ w m' z => ?_⟩
    rotate_left
    · obtain ⟨w0, rfl⟩ : ∃ w0, ws = [w0] := by
        have := hl _ _ _ z
        match ws, this with
        | [w0], _ => exact ⟨w0, rfl⟩
      rw [hphi] at z
      rcases bind_some z with ⟨d, m, e1, q⟩ | ⟨d, m, e1, e2⟩
      · cases q
      · cases e2
        exact ⟨_, _, _, rfl⟩
    · have ok := ini_ok (f := f) (C := C) h FD FS hb hv he hs ox no
      obtain ⟨rfl, rfl, hK, rfl, rfl⟩ := c
      rw [← hK] at ok ox iC tI bi
      refine ⟨fun us vs rv => ?_, fun ks pm ws zs vs hk rz hlen hpm => ?_⟩
      · cases rv with
        | nil =>
          intro pins σ H s Q E tk I hs
          obtain ⟨ws, μ, F, A, r, r0, s0, hp, po⟩ := hs
          cases r0
          have := hl _ _ _ hp
          cases this
        | @cons v u vs us r1 r2 =>
          cases r2 with
          | nil =>
            refine make_ini ox iC tI ok hr hphi hl h2 r1 (by rw [sizeLine_eq]; simp) (fun s self hK => ?_)
            exact bi s [self, u] hK rfl
          | cons r3 r4 =>
            intro pins σ H s Q E tk I hs
            obtain ⟨ws, μ, F, A, r, r0, s0, hp, po⟩ := hs
            have := hl _ _ _ hp
            rw [Paired.length r0] at this
            simp at this
      · obtain ⟨rfl, rfl, kb⟩ := kw ks pm hk
        cases rz with
        | nil => cases hlen
        | @cons v u zs ws r1 r2 =>
          cases r2 with
          | cons r3 r4 => simp at hlen
          | nil =>
            simp only [permL] at hpm
            cases hpm
            exact make_ini ox iC tI ok hr hphi hl h2 r1 (Nat.zero_le _) fun s self hI => kb s self u (hK ▸ hI)
/-- an own class -/
structure HereC (T : Tb) (mg : Str → Option Value) (t : Txt) (m : EntC) : Prop where
  ex : ∃ (C fI : Addr) (fd : FuncData) (e : Entry × Str) (dvs : List V) (kws : List (Str × V)), mg m.name = some (.ref C) ∧ T.cb m.name = some C ∧ Mk T.K C fI ∧ e ∈ t.P ∧ e.1.name = m.q ∧ e.1.d.np = m.np + 1 ∧
    FunD T.K e.2 e.1.qual (defArgs e.1.st) (defBody e.1.st) (defScope e.1.st) dvs kws fI fd ∧ (∀ (s : Shared) (us : List Value), T.K.In s.heap → us.length = m.np + 1 → BindsTo s fd ⟨us, []⟩ (e.1.ps.zip us)) ∧
    ∀ ks pm, t.kf m.name ks = some pm → ∀ (s : Shared) (self : Value) (ws us : List Value), T.K.In s.heap → ws.length = ks.length → permL pm ws = some us → BindsTo s fd ⟨[self], ks.zip ws⟩ (e.1.ps.zip (self :: us))
theorem permL_vals : ∀ {pm : List Nat} {ws : List Value} {zs vs : List V}, Vals zs ws → permL pm zs = some vs → ∃ us, permL pm ws = some us ∧ Vals vs us
  | [], ws, zs, vs, rz, hp => by
    simp only [permL] at hp
    cases hp
    exact ⟨[], rfl, .nil⟩
  | i :: pm, ws, zs, vs, rz, hp => by
    simp only [permL] at hp
    split at hp
    · rename_i z l h1 h2
      cases hp
      obtain ⟨u, h3, h4⟩ := paired_get rz h1
      obtain ⟨us, h5, h6⟩ := permL_vals (pm := pm) rz h2
      exact ⟨u :: us, by simp only [permL, h3, h5], .cons h4 h6⟩
    · cases hp
theorem tab_cls {x : Str} {m : EntC} (h1 : t.L.find? (fun e => e.name == x) = none) (h2 : t.M.find? (fun e => e.name == x) = none) (h3 : t.C.find? (fun e => e.name == x) = some m) : m ∈ t.C ∧ m.name = x ∧ t.tab x = some (.cls m.name m.q m.np) := by
  have hn : m.name = x := by
    have := List.find?_some h3
    simpa using this
  refine ⟨List.mem_of_find?_eq_some h3, hn, ?_⟩
  unfold Txt.tab
  rw [h1, h2, h3]
theorem known_cls {k : Nat} {x : Str} {m : EntC} (h : Env1 P w T mg base t k) (hH : HereC T mg t m) (hn : m.name = x) (ht : t.tab x = some (.cls m.name m.q m.np)) : Known P w T mg base t (k + 1) x m.np := by
  subst hn
  obtain ⟨C, fI, fd, e, dvs, kws, h1, h2, h3, h4, h5, h6, h7, h8, h9⟩ := hH.ex
  have F := h.met e h4 fI fd dvs kws h7
  rw [h5, h6] at F
  have hphi : ∀ ws μ, phi t.tab (k + 1) m.name ws μ = clsD m.name m.q m.np (phi t.tab k) ws μ := fun ws μ => by
    simp only [phi, ht]
  refine ⟨fun ws μ r z => ?_, C, h1, h3.kp, fun Y c hr => ?_⟩
  · rw [hphi] at z
    unfold clsD at z
    split at z
    · assumption
    · cases z
  · have hr' : Room (3 * k + 1) Y.A := hr.mono (by omega)
    obtain ⟨rfl, rfl, hK, rfl, rfl⟩ := c
    rw [← hK] at F h3
    refine ⟨fun us vs rv => make_cls h3 F hr' hphi h2 rv fun s self hI hl => h8 s (self :: us) (hK ▸ hI) (by rw [List.length_cons, ← rv.length, hl]), fun ks pm ws zs vs hk rz hlen hp => ?_⟩
    obtain ⟨us, hu, ru⟩ := permL_vals rz hp
    exact make_cls h3 F hr' hphi h2 ru fun s self hI hl => h9 ks pm hk s self ws us (hK ▸ hI) (by rw [← hlen]; exact rz.length.symm) hu
/-- what must be so once for all -/
structure Base (P : Program) (w : World) (T : Tb) (mg : Str → Option Value) (base : Heap) (t : Txt) : Prop where
  E : ∀ e ∈ t.L, entB t e
  F : ∀ e ∈ t.L, HereF T mg t e
  X : ∀ m ∈ t.M, HereX T mg t m
  blt : ∀ y ∈ bltNames, mg y = none
  cst : ∀ y z, t.cst y = some z → ∃ u v, mg y = some u ∧ RelV v u ∧ ∀ F, Rep T F z v
  cls : ∀ Y, Comp P w T.K mg base Y → ∀ x l, t.cls x = some l → ClsOk T Y x l
  err : ∀ c C, T.ca c = some C → ErrC T.K C fieldNames
  fns : ∀ g b, T.fa g = some b → mg g = some (.ref b) ∧ ∃ n, t.own g = some n
  ins : ∀ c C, T.cb c = some C → InsC T.K C insFields
  prp : ∀ f c q, t.prp f = some (c, q) → HereG T t c f q
  P : ∀ e ∈ t.P, entB t e.1 ∧ t.tab e.1.name = some (.fn e.1.d)
  C : ∀ m ∈ t.C, HereC T mg t m
theorem all_known (b : Base P w T mg base t) : ∀ k, Env1 P w T mg base t k
  | 0 => by
    refine ⟨b.blt, b.cst, fun y n hy => ?_, fun y hy => ?_, b.cls, b.err, b.fns, b.ins, b.prp, fun e he fa fd dvs kws F => ⟨fun vs H Q E h => ?_, fun A outer s H args us vs Q E _ _ _ _ h => ?_⟩⟩
    rotate_left 2
    · obtain ⟨_, _, _, _, _, _, _, _, z, _⟩ := h
      cases z
    · obtain ⟨_, _, _, _, _, _, _, _, z, _⟩ := h
      cases z
    · refine ⟨fun ws μ r z => (by cases z), ?_⟩
      have no : ∀ Y fa us kw vs, RunAt T (phi t.tab 0) Y fa y n us kw vs := fun Y fa us kw vs pins σ H s Q E tk I hs => by
        obtain ⟨_, _, _, _, _, _, _, _, z, _⟩ := hs
        cases z
      unfold Txt.own at hy
      split at hy
      · rename_i e he
        obtain ⟨h1, h2, h3⟩ := tab_fn he
        obtain ⟨fa, fd, m, f, _⟩ := (b.F e h1).ex
        exact ⟨fa, h2 ▸ m, f.kp, fun Y _ _ => ⟨fun _ _ _ => no _ _ _ _ _, fun _ _ _ _ _ _ _ _ _ => no _ _ _ _ _⟩⟩
      · rename_i he
        split at hy
        · rename_i m hm
          obtain ⟨h1, h2, h3⟩ := tab_exc he hm
          obtain ⟨C, g1, g2, g3, _⟩ := (b.X m h1).ex
          exact ⟨C, h2 ▸ g1, g3, fun Y _ _ => ⟨fun _ _ _ => no _ _ _ _ _, fun _ _ _ _ _ _ _ _ _ => no _ _ _ _ _⟩⟩
        · rename_i hM
          split at hy
          · rename_i m hm
            obtain ⟨h1, h2, h3⟩ := tab_cls he hM hm
            obtain ⟨C, fI, fd, e, dvs, kws, g1, g2, g3, _⟩ := (b.C m h1).ex
            exact ⟨C, h2 ▸ g1, g3.kp, fun Y _ _ => ⟨fun _ _ _ => no _ _ _ _ _, fun _ _ _ _ _ _ _ _ _ => no _ _ _ _ _⟩⟩
          · cases hy
    · have no : ∀ Y fa us kw vs, MakeAt T (phi t.tab 0) Y fa y us kw vs := fun Y fa us kw vs pins σ H s Q E tk I hs => by
        obtain ⟨_, _, _, _, _, _, _, z, _⟩ := hs
        cases z
      unfold Txt.mkr at hy
      obtain ⟨y1, y2⟩ := Bool.and_eq_true_iff.mp hy
      obtain ⟨m, hm⟩ := Option.isSome_iff_exists.mp y2
      obtain ⟨h1, h2, h3⟩ := tab_exc (by simpa using y1) hm
      obtain ⟨C, g1, g2, g3, _⟩ := (b.X m h1).ex
      exact ⟨C, h2 ▸ g1, g3, fun Y _ _ => ⟨fun _ _ _ => no _ _ _ _ _, fun _ _ _ _ _ _ _ _ _ => no _ _ _ _ _⟩⟩
  | k + 1 => by
    have ih := all_known b k
    refine ⟨b.blt, b.cst, fun y n hy => ?_, fun y hy => ?_, b.cls, b.err, b.fns, b.ins, b.prp, fun e he fa fd dvs kws F => ?_⟩
    rotate_left 2
    · obtain ⟨⟨e1, e2, e3, e4⟩, ht⟩ := b.P e he
      exact def_ok (k := k) (mv := e.1.mv) ih F e1 ht e2 e3 e4
    · unfold Txt.own at hy
      split at hy
      · rename_i e he
        obtain ⟨h1, h2, h3⟩ := tab_fn he
        cases hy
        exact known_fn ih (b.E e h1) (b.F e h1) h2 h3
      · rename_i he
        split at hy
        · rename_i m hm
          obtain ⟨h1, h2, h3⟩ := tab_exc he hm
          obtain ⟨q1, q2, q3⟩ := known_exc ih (b.X m h1) h2 h3
          cases hy
          obtain ⟨C, g1, g2, g3⟩ := q1.ex
          exact ⟨q2, C, g1, g2, fun Y c hr => ⟨fun us vs rv => run_of_make ((g3 Y c hr).1 us vs rv) q3, fun ks pm ws zs vs a1 a2 a3 a4 => run_of_make ((g3 Y c hr).2 ks pm ws zs vs a1 a2 a3 a4) q3⟩⟩
        · rename_i hM
          split at hy
          · rename_i m hm
            obtain ⟨h1, h2, h3⟩ := tab_cls he hM hm
            cases hy
            exact known_cls ih (b.C m h1) h2 h3
          · cases hy
    · unfold Txt.mkr at hy
      obtain ⟨y1, y2⟩ := Bool.and_eq_true_iff.mp hy
      obtain ⟨m, hm⟩ := Option.isSome_iff_exists.mp y2
      obtain ⟨h1, h2, h3⟩ := tab_exc (by simpa using y1) hm
      exact (known_exc ih (b.X m h1) h2 h3).1
end
end PI
/-! PI30: what the head tells, with the getters of properties. -/
namespace PI
open PySem PySem.Spec PyProof.Rows L2
/-- a property: its class, its name, its getter -/
structure GetD where
  c : Str
  f : Str
  e : Entry
def pAd (K : PySem.W.Frag) (c f : Str) : Addr := match PySem.W.findIn K (.ref (He.ga K c)) f with
  | some (some (.ref p)) => p
  | _ => 0
def gAd (K : PySem.W.Frag) (c f : Str) : Addr := match PySem.W.recIn K (pAd K c f) "property" with
  | some (.ref g :: _) => g
  | _ => 0
/-- what the kernel compares of the def at a -/
def fnAt (K : PySem.W.Frag) (a : Addr) : He.FnW := match K.lookup a with
  | some o => match o.data with
    | .func d => some (d.name, d.qualname, d.params, d.body, d.scope, d.globals, d.closure, d.builtins)
    | _ => none
  | none => none
def GetD.val (g : GetD) : He.FnW := some (g.f, g.e.qual, defArgs g.e.st, .stmts (defBody g.e.st), defScope g.e.st, mainGlobals, [], builtinsNs)
/-- what it looks at -/
def getB (K : PySem.W.Frag) (g : GetD) : Bool := He.eqO (PySem.W.findIn K (.ref (He.ga K g.c)) g.f) (some (some (.ref (pAd K g.c g.f)))) && (He.eqO (PySem.W.specialIn K (.ref (pAd K g.c g.f)) "__get__") (some (some (.builtin "property.__get__"))) &&
  (decide (PySem.W.takesIn K (.ref (pAd K g.c g.f)) = some true) && ((match PySem.W.recIn K (pAd K g.c g.f) "property" with
    | some (.ref _ :: _) => true
    | _ => false) && (PySem.W.keepIn K (.ref (gAd K g.c g.f)) && (match K.lookup (gAd K g.c g.f) with
    | some o => (match o.data with
      | .func d => PySem.W.codeIn K d.code g.e.qual && (match d.defaults with
        | .none => true
        | _ => false)
      | _ => false)
    | none => false)))))
theorem getB_ok {K : PySem.W.Frag} {g : GetD} (e : fnAt K (gAd K g.c g.f) = g.val) (h : getB K g = true) : PropOf K (He.ga K g.c) g.f (pAd K g.c g.f) (gAd K g.c g.f) ∧ ∃ fd, FunD K g.f g.e.qual (defArgs g.e.st) (defBody g.e.st) (defScope g.e.st) [] [] (gAd K g.c g.f) fd := by
  unfold getB at h
  obtain ⟨h1, h⟩ := He.ba h
  obtain ⟨h2, h⟩ := He.ba h
  obtain ⟨h3, h⟩ := He.ba h
  obtain ⟨h4, h⟩ := He.ba h
  obtain ⟨h5, h6⟩ := He.ba h
  refine ⟨⟨He.eqO_ok h1, He.eqO_ok h2, of_decide_eq_true h3, ?_⟩, ?_⟩
  · split at h4
    · rename_i p rest hr
      refine ⟨rest, ?_⟩
      unfold gAd
      rw [hr]
    · cases h4
  · unfold fnAt at e
    split at h6
    · rename_i o ho
      rw [ho] at e
      obtain ⟨oc, od, dt, osl⟩ := o
      cases dt with
      | func fd =>
        obtain ⟨n1, n2, n3, n4, n5, n6, n7, n8, n9, n10, n11, n12, n13, n14, n15⟩ := fd
        dsimp only at e h6
        unfold GetD.val at e
        simp only [Option.some.injEq, Prod.mk.injEq] at e
        obtain ⟨e1, e2, e3, e4, e5, e6, e7, e8⟩ := e
        subst e1 e2 e3 e4 e5 e6 e7 e8
        obtain ⟨k1, k2⟩ := He.ba h6
        have k3 : n8 = .none := by
          cases n8 <;> first | rfl | cases k2
        subst k3
        exact ⟨_, ⟨oc, od, .none, n9, n10, n11, n12, n13, n14, osl, rfl, ho, k1, .inl ⟨rfl, rfl⟩, .inl rfl⟩, h5⟩
      | _ => cases h6
    · cases h6
def obsP (n : Nat) (fa : List He.Fa) (fn : List He.DefD) (ex : PySem.W.Frag → Bool) (gs : List GetD) (g : Addr → Option Obj) : He.AlX × List He.FnW :=
  (He.obsX n fa fn [] [] ex g, gs.map fun d => fnAt (He.frT g (He.asD g n)) (gAd (He.frT g (He.asD g n)) d.c d.f))
def hookP (n : Nat) (fa : List He.Fa) (fn : List He.DefD) (ex : PySem.W.Frag → Bool) (gs : List GetD) : PySem.W.Hook where
  α := He.AlX × List He.FnW
  obs := fun s => obsP n fa fn ex gs s.heap.get?
  val := fun w => (He.valX fn [] w, gs.map GetD.val)
  says := fun w h => ∃ K : PySem.W.Frag, K.In h ∧ He.SaysX fa fn [] [] ex w h K ∧ gs.map (fun d => fnAt K (gAd K d.c d.f)) = gs.map GetD.val
  of := fun _ _ e => ⟨_, He.frT_in, He.saysX_of (congrArg Prod.fst e), congrArg Prod.snd e⟩
  keeps := fun _ _ _ ⟨K, i, c, z⟩ k => ⟨K, PySem.W.Frag.In.keeps i k, ⟨c.t, c.more, c.hd, c.out, fun p hp => k _ _ (c.empty p hp)⟩, z⟩
theorem obsP_eq {n : Nat} {fa : List He.Fa} {fn : List He.DefD} {ex : PySem.W.Frag → Bool} {gs : List GetD} {g : Addr → Option Obj} {s : Shared} (h : ∀ a, g a = s.heap.get? a) : obsP n fa fn ex gs g = (hookP n fa fn ex gs).obs s := by
  obtain rfl : g = s.heap.get? := funext h
  rfl
end PI
/-! PI22: from the head's facts to the law. -/
namespace PI
open PySem PySem.Spec PyProof.Rows L2

/-- what the kernel looks at of a class of errors with an own __init__ -/
def oexB (K : PySem.W.Frag) (C : Addr) : Bool :=
  (match K.lookup C with
    | some ⟨.type ty, _, .cls ⟨_, _, mro, _, _, hd, _, _, _, _, dl⟩, sl⟩ => decide (ty = "type") && (!dl && (hd && ((match mro with
        | .ref C1 :: bm => decide (C1 = C) && PySem.HandSPX.refsVE bm
        | _ => false) && (match sl.toList with
        | [_, _, _, _, some (.builtin n), _] => decide (n = "ValueError.__new__")
        | _ => false))))
    | _ => false) &&
  (He.eqO (PySem.W.findIn K (.ref C) "__setattr__") (some (some (.builtin "object.__setattr__"))) && (decide (PySem.W.subIn K (.ref C) (.type "BaseException") = some true) && (decide (PySem.W.typeIn K (.ref C) = some (.type "type")) && PySem.W.keepIn K (.ref C))))
theorem oexB_ok {K : PySem.W.Frag} {C : Addr} (h : oexB K C = true) : OexC K C := by
  obtain ⟨h1, h⟩ := He.ba h
  obtain ⟨h2, h⟩ := He.ba h
  obtain ⟨h3, h⟩ := He.ba h
  obtain ⟨h4, h5⟩ := He.ba h
  refine ⟨?_, He.eqO_ok h2, of_decide_eq_true h3, of_decide_eq_true h4, h5⟩
  split at h1
  · rename_i ty dd nm bs mro ns qn hd sn sub ab col dl sl ho
    obtain ⟨a1, g1⟩ := He.ba h1
    obtain ⟨a2, g2⟩ := He.ba g1
    obtain ⟨a3, g3⟩ := He.ba g2
    obtain ⟨a4, a5⟩ := He.ba g3
    split at a4
    · rename_i C1 bm
      obtain ⟨b1, b2⟩ := He.ba a4
      split at a5
      · rename_i k0 k1 k2 k3 n k5 hs
        have e1 : ty = "type" := of_decide_eq_true a1
        have e2 : dl = false := by simpa using a2
        have e3 : hd = true := a3
        have e4 : C1 = C := of_decide_eq_true b1
        have e5 : n = "ValueError.__new__" := of_decide_eq_true a5
        have e6 : sl = #[k0, k1, k2, k3, some (.builtin n), k5] := by
          obtain ⟨l⟩ := sl
          simp only at hs
          rw [hs]
        subst e1 e2 e3 e4 e5 e6
        exact ⟨nm, qn, ns, bs, bm, sn, sub, ab, col, dd, k0, k1, k2, k3, k5, ho, b2⟩
      · cases a5
    · cases a4
  · cases h1
def excB (K : PySem.W.Frag) (D : Addr) : Bool := He.eqO (PySem.W.findIn K (.ref D) "__getattribute__") (some (some (.builtin "BaseException.__getattribute__"))) && (He.eqO (PySem.W.findIn K (.ref D) "__getattr__") (some none) && (decide (PySem.W.subIn K (.ref D) (.type "BaseException") = some true) && (PySem.W.hasDictIn K D &&
  (He.eqO (PySem.W.findIn K (.ref D) "__class__") (some (some (.builtin "object.__class__"))) && (He.eqO (PySem.W.specialIn K (.builtin "object.__class__") "__get__") (some (some (.builtin "getset_descriptor.__get__"))) && (decide (PySem.W.takesIn K (.builtin "object.__class__") = some true) && decide (PySem.W.mroIn K D (.type "object") = some true)))))))
theorem excB_ok {K : PySem.W.Frag} {D : Addr} (h : excB K D = true) : ExcC K D := by
  obtain ⟨h1, h⟩ := He.ba h
  obtain ⟨h2, h⟩ := He.ba h
  obtain ⟨h3, h⟩ := He.ba h
  obtain ⟨h4, h⟩ := He.ba h
  obtain ⟨h5, h⟩ := He.ba h
  obtain ⟨h6, h⟩ := He.ba h
  obtain ⟨h7, h8⟩ := He.ba h
  exact ⟨He.eqO_ok h1, He.eqO_ok h2, of_decide_eq_true h3, h4, He.eqO_ok h5, He.eqO_ok h6, of_decide_eq_true h7, of_decide_eq_true h8⟩
/-- an own __init__ of one field, as it is written -/
structure IniD where
  p : Str
  st : Stmt
  qual : Str
  p1 : Pos
  p2 : Pos
  pos : Pos
  e : Expr
/-- an own class: its __init__ with its defaults, its properties with their getters -/
structure ClsD where
  m : EntC
  ini : Entry
  dfl : List He.Dv
  prs : List (Str × Entry)
/-- what is said of a text and of its names; cl: the classes that isinstance and except are asked about (own, or a built-in one) -/
structure Law where
  L : List Entry
  M : List (EntX × Option IniD)
  cst : List (Str × D)
  klF : List (Entry × List Str × List Nat)
  klX : List (EntX × IniD)
  cl : List (Str × Option String × List Str)
  cs : List ClsD := []
  klC : List (ClsD × List Str × List Nat) := []
def Law.kf (l : Law) (x : Str) (ks : List Str) : Option (List Nat) := match l.klF.find? fun q => q.1.name == x && q.2.1 == ks with
  | some q => some q.2.2
  | none => match l.klX.find? fun q => q.1.name == x && [q.2.p] == ks with
    | some _ => some [0]
    | none => match l.klC.find? fun q => q.1.m.name == x && q.2.1 == ks with
      | some q => some q.2.2
      | none => none
def Law.mets (l : Law) : List (Entry × Str) := l.cs.flatMap fun c => (c.ini, "__init__") :: c.prs.map fun p => (p.2, p.1)
def Law.prt (l : Law) : List (Str × Str × Str) := l.cs.flatMap fun c => c.prs.map fun p => (p.1, c.m.name, p.2.name)
def Law.gs (l : Law) : List GetD := l.cs.flatMap fun c => c.prs.map fun p => ⟨c.m.name, p.1, p.2⟩
def Law.t (l : Law) : Txt := { L := l.L, M := l.M.map (·.1), cst := fun y => l.cst.lookup y, kf := l.kf, cls := fun y => (l.cl.find? fun q => q.1 == y).map (·.2.2), P := l.mets, C := l.cs.map (·.m), prp := fun f => l.prt.lookup f }
def clsV (K : PySem.W.Frag) (q : Str × Option String × List Str) : Value := match q.2.1 with
  | none => .ref (He.ga K q.1)
  | some n => .type n
/-- what the kernel looks at of the errors and the classes -/
def Law.exB0 (l : Law) (K : PySem.W.Frag) : Bool :=
  (l.M.all fun m => PySem.W.keepIn K (.ref (He.ga K m.1.name)) && (xfB K (He.ga K m.1.name) && (excB K (He.ga K m.1.name) && ((fieldNames.all fun f => He.eqO (PySem.W.findIn K (.ref (He.ga K m.1.name)) f) (some none)) && (match m.1.fo, m.2 with
    | none, _ => PySem.W.excIn K (He.ga K m.1.name) He.veBase "ValueError.__new__" && (decide (PySem.W.subIn K (.ref (He.ga K m.1.name)) (.type "BaseException") = some true) && decide (PySem.W.typeIn K (.ref (He.ga K m.1.name)) = some (.type "type")))
    | some f, some _ => oexB K (He.ga K m.1.name) && (He.eqO (PySem.W.findIn K (.ref (He.ga K m.1.name)) f.1) (some none) && (He.eqO (PySem.W.findIn K (.ref (He.ga K m.1.name)) "__init__") (some (some (.ref (He.ma K (He.ga K m.1.name) "__init__")))) && decide (PySem.W.typeIn K (.ref (He.ma K (He.ga K m.1.name) "__init__")) = some (.type "function"))))
    | _, _ => false))))) &&
  (l.cl.all fun q => (["NoneType", "bool", "int", "str", "tuple", "list"].all fun ty => decide (PySem.W.kitOne K (.type ty) (clsV K q) = some false)) && (l.M.all fun m => decide (PySem.W.kitOne K (.ref (He.ga K m.1.name)) (clsV K q) = some (q.2.2.contains m.1.name)) && decide (PySem.W.exmOne K (.ref (He.ga K m.1.name)) (clsV K q) = some (q.2.2.contains m.1.name))))
def Law.exB (l : Law) (K : PySem.W.Frag) : Bool := l.exB0 K && l.gs.all (getB K)
def Law.T (l : Law) (K : PySem.W.Frag) : Tb := { K := K, fa := fun f => if (l.L.any fun e => e.name == f) = true then some (He.ga K f) else none, ca := fun c => if (l.M.any fun m => m.1.name == c) = true then some (He.ga K c) else none, cb := fun c => if (l.cs.any fun m => m.m.name == c) = true then some (He.ga K c) else none }
/-- the defs that the head tells -/
def defOf (e : Entry) : He.DefD := ⟨(e.name, none), e.name, e.qual, defArgs e.st, defBody e.st, defScope e.st, [], []⟩
def iniOf (m : EntX) (i : IniD) : He.DefD := ⟨(m.name, some "__init__"), "__init__", i.qual, defArgs i.st, defBody i.st, defScope i.st, [], []⟩
def iniC (c : ClsD) : He.DefD := ⟨(c.m.name, some "__init__"), "__init__", c.ini.qual, defArgs c.ini.st, defBody c.ini.st, defScope c.ini.st, c.dfl, []⟩
def Law.fn0 (l : Law) : List He.DefD := l.L.map defOf ++ l.M.filterMap fun m => m.2.map (iniOf m.1)
def Law.fn (l : Law) : List He.DefD := l.fn0 ++ l.cs.map iniC
def faC (q : Str × D) : He.Fa := match q.2 with
  | .int i => .int q.1 i
  | .str s => .str q.1 s
  | .fn _ => .glo q.1
  | _ => .free q.1
def Law.fa0 (l : Law) : List He.Fa := (l.L.map fun e => .glo e.name) ++ ((l.M.map fun m => .glo m.1.name) ++ ((bltNames.map fun x => .free x) ++ (l.cl.map fun q => if q.2.1.isSome then .free q.1 else .glo q.1) ++ (l.cst.map faC)))
def faOfC (c : ClsD) : List He.Fa := .glo c.m.name :: .cls c.m.name :: .mkr c.m.name :: insFields.map fun f => .noat c.m.name f
def Law.fa (l : Law) : List He.Fa := l.fa0 ++ l.cs.flatMap faOfC
/-- how the arguments of a def bind -/
structure BindE (e : Entry) : Prop where
  pos : ∀ (kV doc pm : Value) (an : Option Addr) (cdv ct : Value) (us : List Value), us.length = e.ps.length → bindArgs (PySem.W.fnOf e.name e.qual (defArgs e.st) (defBody e.st) (defScope e.st) .none kV doc pm an cdv ct) ⟨us, []⟩ = pure (e.ps.zip us)
def BindK (e : Entry) (ks : List Str) (pm : List Nat) : Prop := ∀ (kV doc pm' : Value) (an : Option Addr) (cdv ct : Value) (ws us : List Value), ws.length = ks.length → permL pm ws = some us →
  bindArgs (PySem.W.fnOf e.name e.qual (defArgs e.st) (defBody e.st) (defScope e.st) .none kV doc pm' an cdv ct) ⟨[], ks.zip ws⟩ = pure (e.ps.zip us)
structure BindI (m : EntX) (i : IniD) : Prop where
  pos : ∀ (kV doc pm : Value) (an : Option Addr) (cdv ct : Value) (us : List Value), us.length = 2 → bindArgs (PySem.W.fnOf "__init__" i.qual (defArgs i.st) (defBody i.st) (defScope i.st) .none kV doc pm an cdv ct) ⟨us, []⟩ = pure ((["self", i.p] : List Str).zip us)
  kw : ∀ (kV doc pm : Value) (an : Option Addr) (cdv ct : Value) (self u : Value), bindArgs (PySem.W.fnOf "__init__" i.qual (defArgs i.st) (defBody i.st) (defScope i.st) .none kV doc pm an cdv ct) ⟨[self], [(i.p, u)]⟩ = pure ((["self", i.p] : List Str).zip [self, u])
/-- a binding that may look at the defaults (n of them), and ends by r -/
def BindDf (n : Nat) (B : Value → Sem (List (Str × Value))) (r : List (Str × Value)) : Prop :=
  (n = 0 ∧ B .none = pure r) ∨ (n ≠ 0 ∧ ∀ (T : Addr) (its : List Value), its.length = n → ∃ k, B (.ref T) = seqItems? (.ref T) >>= k ∧ k (some its.toArray) = pure r)
/-- how the arguments of a class's __init__ bind, by place and by names; of a getter -/
def BindC (c : ClsD) : Prop := ∀ (kV doc pm : Value) (an : Option Addr) (cdv ct : Value) (us : List Value), us.length = c.m.np + 1 → BindDf c.dfl.length (fun dV => bindArgs (PySem.W.fnOf "__init__" c.ini.qual (defArgs c.ini.st) (defBody c.ini.st) (defScope c.ini.st) dV kV doc pm an cdv ct) ⟨us, []⟩) (c.ini.ps.zip us)
def BindCK (c : ClsD) (ks : List Str) (pm : List Nat) : Prop := ∀ (kV doc pm' : Value) (an : Option Addr) (cdv ct self : Value) (ws us : List Value), ws.length = ks.length → permL pm ws = some us →
  BindDf c.dfl.length (fun dV => bindArgs (PySem.W.fnOf "__init__" c.ini.qual (defArgs c.ini.st) (defBody c.ini.st) (defScope c.ini.st) dV kV doc pm' an cdv ct) ⟨[self], ks.zip ws⟩) (c.ini.ps.zip (self :: us))
def BindG (f : Str) (e : Entry) : Prop := ∀ (kV doc pm : Value) (an : Option Addr) (cdv ct : Value) (us : List Value), us.length = (["self"] : List Str).length → bindArgs (PySem.W.fnOf f e.qual (defArgs e.st) (defBody e.st) (defScope e.st) .none kV doc pm an cdv ct) ⟨us, []⟩ = pure ((["self"] : List Str).zip us)
/-- what is reckoned of a law's text -/
structure Law.Good (l : Law) : Prop where
  E : ∀ e ∈ l.L, entB l.t e
  B : ∀ e ∈ l.L, BindE e
  K : ∀ q ∈ l.klF, BindK q.1 q.2.1 q.2.2
  I : ∀ m ∈ l.M, ∀ i, m.2 = some i → BindI m.1 i ∧ FnScope ["self", i.p] ["self", i.p] (defScope i.st) ∧ defBody i.st = [.Assign [.Attribute (.Name "self" i.p1) ((m.1.fo.map (·.1)).getD "") i.p2] i.e i.pos] ∧ Vis (defScope i.st) "self" ∧
    compE 60 (l.t.cc ["self", i.p] (defScope i.st) [] false) i.e = some (iniE ((m.1.fo.map (·.2)).getD none)) ∧ swB i.e = true
  nL : (l.L.map (·.name)).Nodup
  nM : (l.M.map (·.1.name)).Nodup
  dis : ∀ x ∈ l.L.map (·.name), x ∉ l.M.map (·.1.name)
  sF : ∀ q ∈ l.klF, q.1 ∈ l.L
  sX : ∀ q ∈ l.klX, (q.1, some q.2) ∈ l.M
  fo : ∀ m ∈ l.M, m.1.fo.isSome = m.2.isSome
  blt : ∀ q ∈ l.cl, ∀ n, q.2.1 = some n → bootBuiltins q.1 = some (.type n) ∧ q.1 ≠ "__name__"
  cI : ∀ c ∈ l.cs, entB l.t c.ini ∧ BindC c ∧ c.ini.name = c.m.q ∧ c.ini.d.np = c.m.np + 1
  cP : ∀ c ∈ l.cs, ∀ p ∈ c.prs, entB l.t p.2 ∧ BindG p.1 p.2 ∧ p.2.ps = (["self"] : List Str) ∧ p.2.d.np = 1
  cK : ∀ q ∈ l.klC, q.1 ∈ l.cs ∧ BindCK q.1 q.2.1 q.2.2
  nA : (l.L.map (·.name) ++ (l.M.map (·.1.name) ++ (l.cs.map (·.m.name) ++ l.mets.map (·.1.name)))).Nodup
  cst : ∀ q ∈ l.cst, (∃ i, q.2 = .int i) ∨ (∃ s, q.2 = .str s) ∨ (q.2 = .fn q.1 ∧ q.1 ∈ l.L.map (·.name))
theorem nodup_key {α : Type} {f : α → Str} : ∀ {l : List α}, (l.map f).Nodup → ∀ {a b : α}, a ∈ l → b ∈ l → f a = f b → a = b
  | [], _, _, _, h, _, _ => by cases h
  | x :: l, n, a, b, ha, hb, e => by
    simp only [List.map_cons, List.nodup_cons] at n
    obtain ⟨n1, n2⟩ := n
    rcases List.mem_cons.mp ha with z1 | h1
    · rcases List.mem_cons.mp hb with z2 | h2
      · rw [z1, z2]
      · subst z1
        exact absurd (e ▸ List.mem_map_of_mem h2) n1
    · rcases List.mem_cons.mp hb with z2 | h2
      · subst z2
        exact absurd (e ▸ List.mem_map_of_mem h1) n1
      · exact nodup_key n2 h1 h2 e

/-- the names are unlike -/
theorem Law.Good.disL {l : Law} (g : l.Good) (x : Str) (h : x ∈ l.L.map (·.name)) : x ∉ l.cs.map (·.m.name) ∧ x ∉ l.mets.map (·.1.name) := by
  have n := g.nA
  rw [List.nodup_append] at n
  exact ⟨fun z => n.2.2 x h x (List.mem_append_right _ (List.mem_append_left _ z)) rfl, fun z => n.2.2 x h x (List.mem_append_right _ (List.mem_append_right _ z)) rfl⟩
theorem Law.Good.disM {l : Law} (g : l.Good) (x : Str) (h : x ∈ l.M.map (·.1.name)) : x ∉ l.cs.map (·.m.name) ∧ x ∉ l.mets.map (·.1.name) := by
  have n := g.nA
  rw [List.nodup_append, List.nodup_append] at n
  exact ⟨fun z => n.2.1.2.2 x h x (List.mem_append_left _ z) rfl, fun z => n.2.1.2.2 x h x (List.mem_append_right _ z) rfl⟩
theorem Law.Good.disC {l : Law} (g : l.Good) : (l.cs.map (·.m.name)).Nodup ∧ (l.mets.map (·.1.name)).Nodup ∧ ∀ x ∈ l.cs.map (·.m.name), x ∉ l.mets.map (·.1.name) := by
  have n := g.nA
  rw [List.nodup_append, List.nodup_append, List.nodup_append] at n
  exact ⟨n.2.1.2.1.1, n.2.1.2.1.2.1, fun x h z => n.2.1.2.1.2.2 x h x z rfl⟩
theorem findn_none {α : Type} {f : α → Str} {l : List α} {x : Str} (h : x ∉ l.map f) : l.find? (fun e => f e == x) = none := by
  rw [List.find?_eq_none]
  intro a ha z
  exact h (by
    have : f a = x := by simpa using z
    exact this ▸ List.mem_map_of_mem ha)
theorem find_key {α : Type} {f : α → Str} {l : List α} (n : (l.map f).Nodup) {a : α} (ha : a ∈ l) : l.find? (fun e => f e == f a) = some a := by
  cases hf : l.find? (fun e => f e == f a) with
  | none =>
    have := List.find?_eq_none.mp hf a ha
    simp at this
  | some b =>
    have h1 := List.find?_some hf
    rw [nodup_key n (List.mem_of_find?_eq_some hf) ha (by simpa using h1)]
theorem tab_met {l : Law} (g : l.Good) {e : Entry × Str} (he : e ∈ l.mets) : l.t.tab e.1.name = some (.fn e.1.d) := by
  obtain ⟨n1, n2, n3⟩ := g.disC
  have hm : e.1.name ∈ l.mets.map (·.1.name) := List.mem_map_of_mem (f := fun e : Entry × Str => e.1.name) he
  have h1 : l.t.L.find? (fun z => z.name == e.1.name) = none := findn_none fun z => (g.disL _ z).2 hm
  have h2 : l.t.M.find? (fun z => z.name == e.1.name) = none := findn_none fun z => (g.disM e.1.name (by
    have z : e.1.name ∈ (l.M.map (·.1)).map (·.name) := z
    rw [List.map_map] at z
    exact z)).2 hm
  have h3 : l.t.C.find? (fun z => z.name == e.1.name) = none := findn_none fun z => n3 e.1.name (by
    have z : e.1.name ∈ (l.cs.map (·.m)).map (·.name) := z
    rw [List.map_map] at z
    exact z) hm
  have h4 : l.t.P.find? (fun z => z.1.name == e.1.name) = some e := find_key (f := fun z : Entry × Str => z.1.name) n2 he
  unfold Txt.tab
  rw [h1, h2, h3, h4]
theorem lookup_in {α : Type} {y : Str} {z : α} : ∀ {l : List (Str × α)}, l.lookup y = some z → (y, z) ∈ l
  | [], h => by cases h
  | (a, b) :: l, h => by
    simp only [List.lookup] at h
    split at h
    · rename_i q
      cases h
      rw [eq_of_beq q]
      exact List.mem_cons_self
    · exact List.mem_cons_of_mem _ (lookup_in h)
/-- the facts together -/
structure Law.Says (l : Law) (K : PySem.W.Frag) : Prop where
  facts : ∀ f ∈ l.fa, f.ok K = true
  defs : ∀ d ∈ l.fn, ∃ fd, FunD K d.name d.qual d.params d.body d.scope (d.dvs K) (d.kws K) (He.fAd K d.at_) fd
  ex : l.exB K = true
  gets : l.gs.map (fun d => fnAt K (gAd K d.c d.f)) = l.gs.map GetD.val
section
variable {l : Law} {K : PySem.W.Frag} {h : Heap} {mg : Str → Option Value} {P : Program} {w : World}
theorem says_fn (c : l.Says K) (X : K.In h) (G : h.Ns mainGlobals mg) {e : Entry} (he : e ∈ l.L) : mg e.name = some (.ref (He.ga K e.name)) ∧ ∃ fd, FunD K e.name e.qual (defArgs e.st) (defBody e.st) (defScope e.st) [] [] (He.ga K e.name) fd := by
  refine ⟨He.glo_ok X G (c.facts _ ?_), ?_⟩
  · unfold Law.fa
    refine List.mem_append_left _ ?_
    unfold Law.fa0
    exact List.mem_append_left _ (List.mem_map_of_mem (f := fun e : Entry => He.Fa.glo e.name) he)
  · exact c.defs (defOf e) (by unfold Law.fn; refine List.mem_append_left _ ?_; unfold Law.fn0; exact List.mem_append_left _ (List.mem_map_of_mem he))
theorem says_glo (c : l.Says K) (X : K.In h) (G : h.Ns mainGlobals mg) {m : EntX × Option IniD} (hm : m ∈ l.M) : mg m.1.name = some (.ref (He.ga K m.1.name)) := by
  refine He.glo_ok X G (c.facts _ ?_)
  unfold Law.fa
  refine List.mem_append_left _ ?_
  unfold Law.fa0
  exact List.mem_append_right _ (List.mem_append_left _ (List.mem_map_of_mem (f := fun m : EntX × Option IniD => He.Fa.glo m.1.name) hm))
theorem kf_fn (g : l.Good) {e : Entry} (he : e ∈ l.L) {ks : List Str} {pm : List Nat} (hk : l.kf e.name ks = some pm) : BindK e ks pm := by
  unfold Law.kf at hk
  split at hk
  · rename_i q hq
    cases hk
    have h1 := List.find?_some hq
    simp only [Bool.and_eq_true, beq_iff_eq] at h1
    have h2 := List.mem_of_find?_eq_some hq
    have e1 := nodup_key g.nL (g.sF _ h2) he h1.1
    have := g.K _ h2
    rw [e1, h1.2] at this
    exact this
  · split at hk
    · rename_i q hq
      have h1 := List.find?_some hq
      simp only [Bool.and_eq_true, beq_iff_eq] at h1
      have h2 := g.sX _ (List.mem_of_find?_eq_some hq)
      exact absurd (h1.1 ▸ List.mem_map_of_mem (f := fun m : EntX × Option IniD => m.1.name) h2) (g.dis e.name (List.mem_map_of_mem he))
    · split at hk
      · rename_i q hq
        have h1 := List.find?_some hq
        simp only [Bool.and_eq_true, beq_iff_eq] at h1
        have h2 := (g.cK _ (List.mem_of_find?_eq_some hq)).1
        exact absurd (h1.1 ▸ List.mem_map_of_mem (f := fun c : ClsD => c.m.name) h2) (g.disL e.name (List.mem_map_of_mem he)).1
      · cases hk
theorem kf_x (g : l.Good) {m : EntX × Option IniD} (hm : m ∈ l.M) {ks : List Str} {pm : List Nat} (hk : l.kf m.1.name ks = some pm) : ∃ i, m.2 = some i ∧ ks = [i.p] ∧ pm = [0] := by
  unfold Law.kf at hk
  split at hk
  · rename_i q hq
    have h1 := List.find?_some hq
    simp only [Bool.and_eq_true, beq_iff_eq] at h1
    have h2 := g.sF _ (List.mem_of_find?_eq_some hq)
    exact absurd (List.mem_map_of_mem (f := fun m : EntX × Option IniD => m.1.name) hm) (h1.1 ▸ g.dis q.1.name (List.mem_map_of_mem h2))
  · split at hk
    · rename_i q hq
      have h1 := List.find?_some hq
      simp only [Bool.and_eq_true, beq_iff_eq] at h1
      have h2 := g.sX _ (List.mem_of_find?_eq_some hq)
      have e1 := nodup_key g.nM h2 hm h1.1
      cases hk
      exact ⟨q.2, by rw [← e1], h1.2.symm, rfl⟩
    · split at hk
      · rename_i q hq
        have h1 := List.find?_some hq
        simp only [Bool.and_eq_true, beq_iff_eq] at h1
        have h2 := (g.cK _ (List.mem_of_find?_eq_some hq)).1
        exact absurd (h1.1 ▸ List.mem_map_of_mem (f := fun c : ClsD => c.m.name) h2) (g.disM m.1.name (List.mem_map_of_mem (f := fun m : EntX × Option IniD => m.1.name) hm)).1
      · cases hk
theorem kf_c (g : l.Good) {d : ClsD} (hd : d ∈ l.cs) {ks : List Str} {pm : List Nat} (hk : l.kf d.m.name ks = some pm) : BindCK d ks pm := by
  have hdn : d.m.name ∈ l.cs.map (·.m.name) := List.mem_map_of_mem (f := fun c : ClsD => c.m.name) hd
  unfold Law.kf at hk
  split at hk
  · rename_i q hq
    have h1 := List.find?_some hq
    simp only [Bool.and_eq_true, beq_iff_eq] at h1
    have h2 := g.sF _ (List.mem_of_find?_eq_some hq)
    exact absurd hdn (h1.1 ▸ (g.disL q.1.name (List.mem_map_of_mem h2)).1)
  · split at hk
    · rename_i q hq
      have h1 := List.find?_some hq
      simp only [Bool.and_eq_true, beq_iff_eq] at h1
      have h2 := g.sX _ (List.mem_of_find?_eq_some hq)
      exact absurd hdn (h1.1 ▸ (g.disM q.1.name (List.mem_map_of_mem (f := fun m : EntX × Option IniD => m.1.name) h2)).1)
    · split at hk
      · rename_i q hq
        cases hk
        have h1 := List.find?_some hq
        simp only [Bool.and_eq_true, beq_iff_eq] at h1
        obtain ⟨h2, h3⟩ := g.cK _ (List.mem_of_find?_eq_some hq)
        rw [nodup_key g.disC.1 h2 hd h1.1, h1.2] at h3
        exact h3
      · cases hk
theorem binds_fn {x qual : Str} {params : Arguments} {body : List Stmt} {scope : Scope} {f : Addr} {fd : FuncData} {args : Args} {bs : List (Str × Value)} (F : FunD K x qual params body scope [] [] f fd)
    (hb : ∀ (kV doc pm : Value) (an : Option Addr) (cdv ct : Value), bindArgs (PySem.W.fnOf x qual params body scope .none kV doc pm an cdv ct) args = pure bs) (s : Shared) : BindsTo s fd args bs := by
  obtain ⟨oc, od, dV, kV, doc, pm, an, cdv, ct, osl, rfl, lk, hcd, hD, hK⟩ := F.ex
  rcases hD with ⟨_, rfl⟩ | ⟨e, _⟩
  · exact .of_eq (hb kV doc pm an cdv ct)
  · exact absurd rfl e
theorem binds_df {x qual : Str} {params : Arguments} {body : List Stmt} {scope : Scope} {dvs : List V} {kws : List (Str × V)} {f : Addr} {fd : FuncData} {args : Args} {bs : List (Str × Value)} {n : Nat} (F : FunD K x qual params body scope dvs kws f fd) (hn : dvs.length = n)
    (hb : ∀ (kV doc pm : Value) (an : Option Addr) (cdv ct : Value), BindDf n (fun dV => bindArgs (PySem.W.fnOf x qual params body scope dV kV doc pm an cdv ct) args) bs) {s : Shared} (X : K.In s.heap) : BindsTo s fd args bs := by
  obtain ⟨oc, od, dV, kV, doc, pm, an, cdv, ct, osl, rfl, lk, hcd, hD, hK⟩ := F.ex
  rcases hb kV doc pm an cdv ct with ⟨h1, h2⟩ | ⟨h1, h2⟩
  · rcases hD with ⟨_, rfl⟩ | ⟨e, _⟩
    · exact .of_eq h2
    · exact absurd (List.length_eq_zero_iff.mp (hn.trans h1)) e
  · rcases hD with ⟨e, _⟩ | ⟨_, T, o, its, m, rfl, lT, oT, rT⟩
    · rw [← hn, e] at h1
      exact absurd rfl h1
    · obtain ⟨k, e1, e2⟩ := h2 T its (rT.length.symm.trans hn)
      refine BindsTo.of_looks fun M => ?_
      show PySem.W.Looks M s.heap (bindArgs (PySem.W.fnOf x qual params body scope (.ref T) kV doc pm an cdv ct) args) bs
      rw [show bindArgs (PySem.W.fnOf x qual params body scope (.ref T) kV doc pm an cdv ct) args = seqItems? (.ref T) >>= k from e1]
      exact looks_items X lT oT (PySem.W.Looks.of_pure e2)
theorem ca_some {c : Str} {C : Addr} (hc : (l.T K).ca c = some C) : ∃ m ∈ l.M, m.1.name = c ∧ C = He.ga K c := by
  unfold Law.T at hc
  simp only at hc
  split at hc
  · rename_i z
    cases hc
    obtain ⟨m, h1, h2⟩ := List.any_eq_true.mp z
    exact ⟨m, h1, by simpa using h2, rfl⟩
  · cases hc
theorem base_of (g : l.Good) (c : l.Says K) (X : K.In h) (G : h.Ns mainGlobals mg) (base : Heap) : Base P w (l.T K) mg base l.t := by
  obtain ⟨ex0, exG⟩ := He.ba (show l.exB K = true from c.ex)
  obtain ⟨ex1, ex2⟩ := He.ba (show l.exB0 K = true from ex0)
  have cls : ∀ d ∈ l.cs, (l.T K).cb d.m.name = some (He.ga K d.m.name) ∧ mg d.m.name = some (.ref (He.ga K d.m.name)) ∧ Cls K (He.ga K d.m.name) ∧ Mk K (He.ga K d.m.name) (He.ma K (He.ga K d.m.name) "__init__") ∧ InsC K (He.ga K d.m.name) insFields := fun d hd => by
    have f0 : ∀ f ∈ faOfC d, f.ok K = true := fun f hf => c.facts f (by
      unfold Law.fa
      exact List.mem_append_right _ (List.mem_flatMap.mpr ⟨d, hd, hf⟩))
    have k1 := He.cls_ok (f0 (.cls d.m.name) (by simp [faOfC]))
    refine ⟨?_, He.glo_ok X G (f0 (.glo d.m.name) (by simp [faOfC])), k1, He.mkr_ok (f0 (.mkr d.m.name) (by simp [faOfC])), k1, fun f hf => He.noat_ok (f0 (.noat d.m.name f) ?_)⟩
    · unfold Law.T
      simp only
      rw [if_pos (List.any_eq_true.mpr ⟨d, hd, by simp⟩)]
    · unfold faOfC
      exact List.mem_cons_of_mem _ (List.mem_cons_of_mem _ (List.mem_cons_of_mem _ (List.mem_map_of_mem (f := fun f => He.Fa.noat d.m.name f) hf)))
  have em : ∀ m ∈ l.M, _ := fun m hm => List.all_eq_true.mp ex1 m hm
  refine ⟨g.E, fun e he => ?_, fun m hm => ?_, fun y hy => ?_, fun y z hy => ?_, fun Y cm x ls hx => ?_, fun cn C hc => ?_, fun fg fb hfg => ?_, fun cn C hc => ?_, fun f cn q hp => ?_, fun e he => ?_, fun m hm => ?_⟩
  rotate_left 6
  · -- fns
    have hfg : (if (l.L.any fun e => e.name == fg) = true then some (He.ga K fg) else none) = some fb := hfg
    split at hfg
    · rename_i hany
      cases hfg
      obtain ⟨e', he', hn⟩ := List.any_eq_true.mp hany
      have hn : e'.name = fg := by simpa using hn
      subst hn
      obtain ⟨h1, _⟩ := says_fn c X G he'
      refine ⟨h1, ?_⟩
      show ∃ n, Txt.own l.t e'.name = some n
      unfold Txt.own
      cases hq : l.t.L.find? fun e => e.name == e'.name with
      | some z => exact ⟨_, rfl⟩
      | none =>
        have := List.find?_eq_none.mp hq e' he'
        simp at this
    · cases hfg
  · -- ins
    have hc : (if (l.cs.any fun m => m.m.name == cn) = true then some (He.ga K cn) else none) = some C := hc
    split at hc
    · rename_i hany
      cases hc
      obtain ⟨d, hd, hn⟩ := List.any_eq_true.mp hany
      have hn : d.m.name = cn := by simpa using hn
      subst hn
      exact (cls d hd).2.2.2.2
    · cases hc
  · -- prp
    have hin : (f, cn, q) ∈ l.prt := lookup_in (show l.prt.lookup f = some (cn, q) from hp)
    obtain ⟨d, hd, hin2⟩ := List.mem_flatMap.mp (show (f, cn, q) ∈ l.cs.flatMap (fun c => c.prs.map fun p => (p.1, c.m.name, p.2.name)) from hin)
    obtain ⟨p, hp2, he⟩ := List.mem_map.mp hin2
    simp only [Prod.mk.injEq] at he
    obtain ⟨rfl, rfl, rfl⟩ := he
    obtain ⟨k1, k2, k3, k4, k5⟩ := cls d hd
    have hg : (⟨d.m.name, p.1, p.2⟩ : GetD) ∈ l.gs := List.mem_flatMap.mpr ⟨d, hd, List.mem_map_of_mem (f := fun p : Str × Entry => (⟨d.m.name, p.1, p.2⟩ : GetD)) hp2⟩
    have heq : fnAt K (gAd K d.m.name p.1) = (⟨d.m.name, p.1, p.2⟩ : GetD).val := List.map_inj_left.mp c.gets _ hg
    obtain ⟨po, fd, F⟩ := getB_ok (g := ⟨d.m.name, p.1, p.2⟩) heq (List.all_eq_true.mp exG _ hg)
    obtain ⟨e1, e2, e3, e4⟩ := g.cP d hd p hp2
    exact ⟨_, _, _, fd, (p.2, p.1), k1, k3, po, List.mem_flatMap.mpr ⟨d, hd, List.mem_cons_of_mem _ (List.mem_map_of_mem (f := fun p : Str × Entry => (p.2, p.1)) hp2)⟩, rfl, e3, e4, F, F.bindsN e2⟩
  · -- methods
    refine ⟨?_, tab_met g he⟩
    obtain ⟨d, hd, he2⟩ := List.mem_flatMap.mp (show e ∈ l.cs.flatMap (fun c : ClsD => ((c.ini, ("__init__" : Str)) : Entry × Str) :: c.prs.map fun p => (p.2, p.1)) from he)
    rcases List.mem_cons.mp he2 with rfl | he3
    · exact (g.cI d hd).1
    · obtain ⟨p, hp2, rfl⟩ := List.mem_map.mp he3
      exact (g.cP d hd p hp2).1
  · -- classes
    obtain ⟨d, hd, rfl⟩ := List.mem_map.mp (show m ∈ l.cs.map (·.m) from hm)
    obtain ⟨k1, k2, k3, k4, k5⟩ := cls d hd
    obtain ⟨e1, e2, e3, e4⟩ := g.cI d hd
    have hdn : ∀ d : ClsD, ((iniC d).dvs K).length = d.dfl.length := fun d => List.length_map _
    obtain ⟨fd, F⟩ := c.defs (iniC d) (by
      unfold Law.fn
      exact List.mem_append_right _ (List.mem_map_of_mem hd))
    have F : FunD K "__init__" d.ini.qual (defArgs d.ini.st) (defBody d.ini.st) (defScope d.ini.st) ((iniC d).dvs K) ((iniC d).kws K) (He.ma K (He.ga K d.m.name) "__init__") fd := F
    refine ⟨_, _, fd, (d.ini, ("__init__" : Str)), _, _, k2, k1, k4, List.mem_flatMap.mpr ⟨d, hd, List.mem_cons_self⟩, e3, e4, F, fun s us X' hl => binds_df F (hdn d) (fun kV doc pm an cdv ct => e2 kV doc pm an cdv ct us hl) X', fun ks pm hk s self ws us X' h2 h3 => binds_df F (hdn d) (fun kV doc pm' an cdv ct => kf_c g hd hk kV doc pm' an cdv ct self ws us h2 h3) X'⟩
  · obtain ⟨h1, fd, F⟩ := says_fn c X G he
    exact ⟨_, fd, h1, F, F.bindsN (g.B e he).pos, fun ks pm hk s ws us _ h2 h3 => binds_fn F (fun kV doc pm' an cdv ct => kf_fn g he hk kV doc pm' an cdv ct ws us h2 h3) s⟩
  · obtain ⟨m', hm', rfl⟩ := List.mem_map.mp (show m ∈ l.M.map (·.1) from hm)
    have q := em m' hm'
    obtain ⟨q1, q⟩ := He.ba q
    obtain ⟨q2, q⟩ := He.ba q
    obtain ⟨q3, q⟩ := He.ba q
    obtain ⟨q4, q5⟩ := He.ba q
    have hca : (l.T K).ca m'.1.name = some (He.ga K m'.1.name) := by
      unfold Law.T
      simp only
      rw [if_pos (List.any_eq_true.mpr ⟨m', hm', by simp⟩)]
    refine ⟨_, says_glo c X G hm', hca, q1, ?_⟩
    have hfo := g.fo m' hm'
    cases h1 : m'.1.fo with
    | none =>
      rw [h1] at q5
      obtain ⟨a1, q5⟩ := He.ba q5
      obtain ⟨a2, a3⟩ := He.ba q5
      refine ⟨⟨He.veBase, _, _, _, PySem.F.excBase_ValueError, a1⟩, of_decide_eq_true a2, of_decide_eq_true a3, fun ks => ?_⟩
      cases hk : l.kf m'.1.name ks with
      | none => exact hk
      | some pm =>
        obtain ⟨i, h2, _⟩ := kf_x g hm' hk
        rw [h1, h2] at hfo
        cases hfo
    | some fg =>
      cases h2 : m'.2 with
      | none =>
        rw [h1, h2] at hfo
        cases hfo
      | some i =>
        rw [h1, h2] at q5
        obtain ⟨a1, q5⟩ := He.ba q5
        obtain ⟨a2, q5⟩ := He.ba q5
        obtain ⟨a3, a4⟩ := He.ba q5
        obtain ⟨bi, fs, db, vi, ce, sw⟩ := g.I m' hm' i h2
        obtain ⟨fd, F⟩ := c.defs (iniOf m'.1 i) (by
          unfold Law.fn
          refine List.mem_append_left _ ?_
          unfold Law.fn0
          exact List.mem_append_right _ (List.mem_filterMap.mpr ⟨m', hm', by rw [h2]; rfl⟩))
        have F : FunD K "__init__" i.qual (defArgs i.st) (defBody i.st) (defScope i.st) [] [] (He.ma K (He.ga K m'.1.name) "__init__") fd := F
        rw [h1] at db ce
        exact ⟨oexB_ok a1, He.eqO_ok a2, _, fd, i.p, i.st, "__init__", i.qual, i.p1, i.p2, i.pos, i.e, He.eqO_ok a3, of_decide_eq_true a4, F, fs, db, vi, ce, sw, F.bindsN bi.pos, fun ks pm hk => by
          obtain ⟨i2, k1, k2, k3⟩ := kf_x g hm' hk
          rw [h2] at k1
          cases k1
          exact ⟨k2, k3, fun s self u _ => binds_fn F (fun kV doc pm' an cdv ct => bi.kw kV doc pm' an cdv ct self u) s⟩⟩
  · refine He.free_ok X G (c.facts _ ?_)
    unfold Law.fa
    refine List.mem_append_left _ ?_
    unfold Law.fa0
    exact List.mem_append_right _ (List.mem_append_right _ (List.mem_append_left _ (List.mem_append_left _ (List.mem_map_of_mem hy))))
  · obtain ⟨hz⟩ : Nonempty ((y, z) ∈ l.cst) := ⟨by
      have : l.cst.lookup y = some z := hy
      exact lookup_in this⟩
    have hf := c.facts (faC (y, z)) (by
      unfold Law.fa
      refine List.mem_append_left _ ?_
      unfold Law.fa0
      exact List.mem_append_right _ (List.mem_append_right _ (List.mem_append_right _ (List.mem_map_of_mem hz))))
    rcases g.cst _ hz with ⟨i, e⟩ | ⟨s, e⟩ | ⟨e, he⟩
    · cases (show z = .int i from e)
      obtain ⟨tk, ht⟩ := He.int_ok X G hf
      exact ⟨_, .int i, ht, ⟨tk, rfl⟩, fun F => by simp only [Rep]⟩
    · cases (show z = .str s from e)
      obtain ⟨tk, ht⟩ := He.str_ok X G hf
      exact ⟨_, .str s, ht, ⟨tk, rfl⟩, fun F => by simp only [Rep]⟩
    · cases (show z = .fn y from e)
      obtain ⟨e', he', rfl⟩ := List.mem_map.mp (show y ∈ l.L.map (·.name) from he)
      obtain ⟨h1, _⟩ := says_fn c X G he'
      refine ⟨_, .ref (He.ga K e'.name), h1, rfl, fun F => ?_⟩
      simp only [Rep]
      exact ⟨_, rfl, if_pos (List.any_eq_true.mpr ⟨e', he', by simp⟩)⟩
  · obtain ⟨q, hq, rfl⟩ := Option.map_eq_some_iff.mp (show (l.cl.find? fun q => q.1 == x).map (·.2.2) = some ls from hx)
    have hn : q.1 = x := by simpa using List.find?_some hq
    subst hn
    have hm := List.mem_of_find?_eq_some hq
    obtain ⟨z1, z2⟩ := He.ba (List.all_eq_true.mp ex2 q hm)
    have cK : Y.K = K := cm.K
    have hf := c.facts (if q.2.1.isSome then .free q.1 else .glo q.1) (by
      unfold Law.fa
      refine List.mem_append_left _ ?_
      unfold Law.fa0
      exact List.mem_append_right _ (List.mem_append_right _ (List.mem_append_left _ (List.mem_append_right _ (List.mem_map_of_mem (f := fun q : Str × Option String × List Str => if q.2.1.isSome then He.Fa.free q.1 else He.Fa.glo q.1) hm)))))
    refine ⟨clsV K q, ?_, ?_, fun ty ht => ?_, fun cn C hc => ?_⟩
    · rw [cm.mg]
      cases hb : q.2.1 with
      | none =>
        rw [hb] at hf
        left
        have := He.glo_ok X G hf
        unfold clsV
        rw [hb]
        exact this
      | some n =>
        rw [hb] at hf
        right
        obtain ⟨b1, b2⟩ := g.blt q hm n hb
        refine ⟨He.free_ok X G hf, ?_, b2⟩
        unfold clsV
        rw [hb]
        exact b1
    · unfold clsV
      cases q.2.1 with
      | none => exact ⟨.ref (He.ga K q.1), rfl, fun u hu => hu⟩
      | some n => exact ⟨.ty n, rfl, fun u hu => hu⟩
    · rw [cK]
      exact of_decide_eq_true (List.all_eq_true.mp z1 ty ht)
    · obtain ⟨m, hm2, rfl, rfl⟩ := ca_some hc
      obtain ⟨y1, y2⟩ := He.ba (List.all_eq_true.mp z2 m hm2)
      have q := em m hm2
      obtain ⟨q1, q⟩ := He.ba q
      obtain ⟨q2, q⟩ := He.ba q
      obtain ⟨q3, q⟩ := He.ba q
      rw [cK]
      exact ⟨excB_ok q3, of_decide_eq_true y1, of_decide_eq_true y2⟩
  · obtain ⟨m, hm2, rfl, rfl⟩ := ca_some hc
    have q := em m hm2
    obtain ⟨q1, q⟩ := He.ba q
    obtain ⟨q2, q⟩ := He.ba q
    obtain ⟨q3, q⟩ := He.ba q
    obtain ⟨q4, q5⟩ := He.ba q
    exact ⟨xfB_ok q2, fun f hf => He.eqO_ok (List.all_eq_true.mp q4 f hf)⟩
end
end PI
/-! PI23: the law. -/
namespace PI
open PySem PySem.Spec PyProof.Rows L2
theorem tab_mem {l : Law} (g : l.Good) {e : Entry} (he : e ∈ l.L) : l.t.tab e.name = some (.fn e.d) := by
  have : l.L.find? (fun z => z.name == e.name) = some e := by
    cases hf : l.L.find? (fun z => z.name == e.name) with
    | none =>
      have := List.find?_eq_none.mp hf e he
      simp at this
    | some e2 =>
      have h1 := List.find?_some hf
      have h2 := List.mem_of_find?_eq_some hf
      rw [nodup_key g.nL h2 he (by simpa using h1)]
  unfold Txt.tab
  rw [show l.t.L = l.L from rfl, this]
theorem reps_ints {T : Tb} {F : Hp} : ∀ ns : List Int, Reps T F (ns.map D.int) (ns.map V.int)
  | [] => .nil
  | n :: ns => .cons (by simp only [Rep]) (reps_ints ns)
theorem law_pi {l : Law} (g : l.Good) {ol : PySem.W.OpenLaw} {q : Program} {loose : List Str} {XP : (Str → Option Value) → Heap → Prop} {d : DefRec} {N nn k : Nat} {e : Entry} {x : Str} (hn : ol.most = some nn) (hn2 : nn ≤ sizeLine) (hdf : d.params.defaults = []) (hr : Room (3 * (k + 1)) callerA)
    (he : e ∈ l.L) (hname : e.name = d.name) (hps : e.ps = [x]) (hphi : ∀ ns : List Int, ns.length ≤ nn → ∃ μ, phi l.t.tab (k + 1) e.name [.d (.scr (ns.map .int))] [] = some (.ok (.d (.bl true)) μ)) :
    PySem.W.WalkO q loose XP (hookP N l.fa l.fn l.exB l.gs).says ol.row.toRowW d [] (fun f vs => PySem.call f vs) := by
  refine Att.attach_call hn hdf fun w s₀ s₁ mg mb fa o pm cd doc a vs ns G Y ho hd hcd hmg hobj hints hlen hg => ?_
  obtain ⟨K, KX, c, gt⟩ := Y
  have cs : l.Says K := ⟨fun f hf => c.t.d.facts hf, fun d hd => c.t.d.defs hd, c.more, gt⟩
  obtain ⟨m1, fd, F⟩ := says_fn cs KX G.T.g he
  rw [hname, hmg] at m1
  have efa : fa = He.ga K e.name := by
    rw [hname]
    cases m1
    rfl
  rw [← efa] at F
  obtain ⟨S, hnp, hnn, hb⟩ := g.E e he
  have np1 : e.d.np = 1 := by
    rw [hnp, hps]
    rfl
  refine law_call (CX := L2.CX ol.prog w) (sp := spF (l.T K) (phi l.t.tab (k + 1)) e.name e.d.np) (x := x) (fd := fd) (K := K) KX G.T.g G.T.b G.T.builtins G.T.nolimit hg hobj hints (Nat.le_trans hlen hn2) hr (fun base _ _ => ?_) (fun s u => ?_) (fun H hO hS => ?_) fun H er s' z => ?_
  · have := def_ok (k := k) (P := ol.prog) (w := w) (base := base) (all_known (base_of g cs KX G.T.g base) k) F S (tab_mem g he) hnp hnn hb
    rw [hps] at this
    exact this
  · have := F.bindsA (ps := e.ps) (g.B e he).pos s [u] (by rw [hps]; rfl)
    rw [hps] at this
    exact this
  · obtain ⟨μ, hp⟩ := hphi ns hlen
    refine ⟨np1.symm, _, [], H, [], _, .cons ?_ .nil, ⟨fun _ _ z => z, rfl, List.nodup_nil, fun a ha => (by cases ha), fun k a o h1 => (by simp at h1)⟩, hp, fun v H' F' A' x' s' r => ?_⟩
    · simp only [RepW, Rep]
      exact ⟨a, _, rfl, hS, reps_ints ns⟩
    · simp only [RepW, Rep] at r
      exact r
  · obtain ⟨_, _, _, _, _, _, _, _, _, _, _, _, z⟩ := z
    exact z
end PI
namespace PI.K01
open PySem PySem.Spec PyProof.Rows L2 PI
def topS (i : Nat) : Stmt := PySem.Challenge.pw_letahead_k01_pairs_queues_and_orders_rea.main.body.getD i (.Pass ⟨0, 0, 0, 0⟩)
def iniS (i : Nat) : Stmt := match topS i with
  | .ClassDef _ _ _ (s :: _) _ _ _ _ _ _ _ => s
  | s => s
def iP1 (s : Stmt) : Pos := match defBody s with
  | [.Assign [.Attribute (.Name _ p) _ _] _ _] => p
  | _ => default
def iP2 (s : Stmt) : Pos := match defBody s with
  | [.Assign [.Attribute _ _ p] _ _] => p
  | _ => default
def iP (s : Stmt) : Pos := match defBody s with
  | [.Assign _ _ p] => p
  | _ => default
def iE (s : Stmt) : Expr := match defBody s with
  | [.Assign _ e _] => e
  | _ => .Constant .none 0 ⟨0, 0, 0, 0⟩
def metS (i j : Nat) : Stmt := match topS i with
  | .ClassDef _ _ _ body _ _ _ _ _ _ _ => body.getD j (.Pass ⟨0, 0, 0, 0⟩)
  | s => s
def b_is_name : List IS := [.ife (.or (.op .not [.op (.isi [.tstr]) [.var 0]]) (.op .not [.chain .le .le (.cst (.int 1)) (.op .len [.var 0]) (.cst (.int 8))])) [.ret (.cst (.bl false))] [], .ret (.op .all [.lc [1] (.one 1) (.seq (.var 0)) [] (.op .in_ [.var 1, .cst (.str "abcdefghijklmnopqrstuvwxyz")])])]
def e_is_name : Entry := ⟨"is_name", "is_name", topS 6, ["thing", "letter"], ["thing"], [], ⟨1, 2, false, b_is_name⟩⟩
def b_fits : List IS := [.set (.tup [2, 3]) (.var 0), .ret (.and (.op .ne [.var 2, .var 3]) (.op .notin [.tup [.var 3, .var 2], .var 1]))]
def e_fits : Entry := ⟨"fits", "fits", topS 7, ["pair", "pairs", "one", "other"], ["pair", "pairs"], [], ⟨2, 4, false, b_fits⟩⟩
def b_pairs_text : List IS := [.ret (.call "text_of_pieces" [.lc [1, 2] (.tup [1, 2]) (.seq (.var 0)) [] (.fs [.var 1, .cst (.str " "), .var 2]), .cst (.str "; ")])]
def e_pairs_text : Entry := ⟨"pairs_text", "pairs_text", topS 11, ["pairs", "one", "other"], ["pairs"], [], ⟨1, 3, false, b_pairs_text⟩⟩
def b_queue_text : List IS := [.ret (.call "text_of_pieces" [.var 0, .cst (.str " ")])]
def e_queue_text : Entry := ⟨"queue_text", "queue_text", topS 12, ["queue"], ["queue"], [], ⟨1, 1, false, b_queue_text⟩⟩
def b_order_text : List IS := [.ret (.call "text_of_pieces" [.lc [1] (.one 1) (.seq (.var 0)) [] (.op .str [.var 1]), .cst (.str " ")])]
def e_order_text : Entry := ⟨"order_text", "order_text", topS 13, ["order", "person"], ["order"], [], ⟨1, 2, false, b_order_text⟩⟩
def b_pairs_from : List IS := [.setm 1 (.dnew true), .set (.one 2) (.tup []), .for_ (.tup [3, 4]) (.enu (.call "pieces" [.var 0, .cst (.str "; ")])) [.set (.one 5) (.op .tuple [.m1 .split (.var 4) (.cst (.str " "))]), .ife (.or (.op .not [.call "is_written_pair" [.var 5]]) (.or (.op .not [.call "fits" [.var 5, .var 1]]) (.op .le [.var 5, .var 2]))) [.raise "BadText" [.var 3]] [], .setix (.var 1) (.var 5) (.cst (.bl true)), .set (.one 2) (.var 5)], .ret (.op .tuple [.var 1])]
def e_pairs_from : Entry := ⟨"pairs_from", "pairs_from", topS 14, ["text", "pairs", "last", "number", "piece", "pair"], ["text"], ["pairs", "*T"], ⟨1, 6, false, b_pairs_from⟩⟩
def b_queue_from : List IS := [.set (.one 1) (.call "pieces" [.var 0, .cst (.str " ")]), .for_ (.tup [2, 3]) (.enu (.var 1)) [.ife (.op .not [.call "is_name" [.var 3]]) [.raise "BadText" [.var 2]] []], .ret (.op .tuple [.var 1])]
def e_queue_from : Entry := ⟨"queue_from", "queue_from", topS 15, ["text", "kinds", "number", "piece"], ["text"], [], ⟨1, 4, false, b_queue_from⟩⟩
def b_order_from : List IS := [.setm 1 (.dnew false), .for_ (.tup [2, 3]) (.enu (.call "pieces" [.var 0, .cst (.str " ")])) [.ife (.or (.op .not [.call "is_written_number" [.var 3]]) (.op .in_ [.var 3, .var 1])) [.raise "BadText" [.var 2]] [], .setix (.var 1) (.var 3) (.cst (.bl true))], .ret (.op .tuple [.lc [4] (.one 4) (.seq (.var 1)) [] (.op .int [.var 4])])]
def e_order_from : Entry := ⟨"order_from", "order_from", topS 16, ["text", "words", "number", "piece", "word"], ["text"], ["words"], ⟨1, 5, false, b_order_from⟩⟩
def b_text_of_pieces : List IS := [.set (.one 2) (.cst (.str "")), .for_ (.one 3) (.seq (.var 0)) [.set (.one 2) (.fs [.var 2, .var 1, .var 3])], .ret (.or (.sl true false (.var 2) (.op .len [.var 1]) (.cst .non)) (.cst (.str "-")))]
def e_text_of_pieces : Entry := ⟨"text_of_pieces", "text_of_pieces", topS 17, ["parts", "between", "text", "part"], ["parts", "between"], [], ⟨2, 4, false, b_text_of_pieces⟩⟩
def b_pieces : List IS := [.ife (.op .eq [.var 0, .cst (.str "-")]) [.ret (.lst [])] [], .ret (.m1 .split (.var 0) (.var 1))]
def e_pieces : Entry := ⟨"pieces", "pieces", topS 18, ["text", "between"], ["text", "between"], [], ⟨2, 2, false, b_pieces⟩⟩
def b_is_written_pair : List IS := [.ret (.and (.op .eq [.op .len [.var 0], .cst (.int 2)]) (.op .all [.lc [1] (.one 1) (.seq (.var 0)) [] (.call "is_name" [.var 1])]))]
def e_is_written_pair : Entry := ⟨"is_written_pair", "is_written_pair", topS 19, ["words", "word"], ["words"], [], ⟨1, 2, false, b_is_written_pair⟩⟩
def b_is_written_number : List IS := [.ife (.or (.op .eq [.var 0, .cst (.str "")]) (.op .not [.op .all [.lc [1] (.one 1) (.seq (.var 0)) [] (.op .in_ [.var 1, .cst (.str "0123456789")])]])) [.ret (.cst (.bl false))] [], .ret (.or (.op .eq [.var 0, .cst (.str "0")]) (.op .not [.m1 .starts (.var 0) (.cst (.str "0"))]))]
def e_is_written_number : Entry := ⟨"is_written_number", "is_written_number", topS 20, ["word", "sign"], ["word"], [], ⟨1, 2, false, b_is_written_number⟩⟩
def b_law_box : List IS := [.set (.one 2) (.ite (.op .lt [.var 1, .op .len [.var 0]]) (.op .ix [.var 0, .var 1]) (.cst (.int 0))), .retm (.lst [.op .mul [.op .abs [.var 2], .op .int [.op .ge [.op .abs [.var 2], .op .pow [.cst (.int 10), .cst (.int 18)]]]], .op .add [.op .add [.op .mod [.op .int [.var 2], .cst (.int 2305843009213693951)], .op .mul [.cst (.int 39373), .var 1]], .cst (.int 90501)], .cst (.int 0)])]
def e_law_box : Entry := ⟨"_law_box", "_law_box", topS 22, ["_law_script", "_law_k", "_law_cell"], ["_law_script", "_law_k"], [], ⟨2, 3, true, b_law_box⟩⟩
def b_law_take : List IS := [.ife (.op .gt [.op .ix [.var 0, .cst (.int 0)], .cst (.int 0)]) [.set (.one 2) (.op .mod [.op .int [.op .ix [.var 0, .cst (.int 0)]], .var 1]), .setix (.var 0) (.cst (.int 0)) (.op .fdiv [.op .ix [.var 0, .cst (.int 0)], .var 1]), .ret (.var 2)] [], .setix (.var 0) (.cst (.int 2)) (.op .add [.op .ix [.var 0, .cst (.int 2)], .cst (.int 1)]), .set (.one 3) (.op .mod [.op .int [.op .mul [.op .add [.op .ix [.var 0, .cst (.int 1)], .op .mul [.cst (.int 48271), .op .ix [.var 0, .cst (.int 2)]]], .op .add [.cst (.int 39373), .op .ix [.var 0, .cst (.int 2)]]]], .cst (.int 2147483647)]), .set (.one 4) (.op .add [.op .mod [.op .int [.var 3], .cst (.int 40009)], .cst (.int 7)]), .set (.one 5) (.op .mod [.op .int [.op .mul [.op .add [.op .add [.var 3, .op .ix [.var 0, .cst (.int 2)]], .op .fdiv [.op .ix [.var 0, .cst (.int 1)], .cst (.int 1000003)]], .var 4]], .cst (.int 2147483629)]), .ret (.op .mod [.op .int [.op .fdiv [.op .mod [.op .int [.op .add [.op .mul [.var 5, .cst (.int 48271)], .var 3]], .cst (.int 2147483587)], .cst (.int 64)]], .var 1])]
def e_law_take : Entry := ⟨"_law_take", "_law_take", topS 23, ["_law_box_here", "_law_size_so", "_law_some", "_law_once", "_law_far", "_law_again"], ["_law_box_here", "_law_size_so"], [], ⟨2, 6, false, b_law_take⟩⟩
def b_law_cells : List IS := [.setm 2 (.or (.op .list [.sl false true (.var 0) (.cst .non) (.var 1)]) (.lst [.cst (.int 0)])), .for_ (.tup [3, 4]) (.enu (.sl true true (.var 0) (.var 1) (.cst (.int 63)))) [.set (.one 5) (.op .mod [.op .int [.var 3], .var 1]), .setix (.var 2) (.var 5) (.op .add [.op .ix [.var 2, .var 5], .op .mul [.var 4, .op .add [.var 3, .cst (.int 2)]]])], .ret (.var 2)]
def e_law_cells : Entry := ⟨"_law_cells", "_law_cells", topS 24, ["_law_script", "_law_top_so", "_law_cells_so", "_law_k", "_law_cell", "_law_at_so"], ["_law_script", "_law_top_so"], ["_law_cells_so"], ⟨2, 6, false, b_law_cells⟩⟩
def b_law_of : List IS := [.ret (.op .ix [.var 1, .call "_law_take" [.var 0, .op .len [.var 1]]])]
def e_law_of : Entry := ⟨"_law_of", "_law_of", topS 25, ["_law_box_here", "_law_goods_so"], ["_law_box_here", "_law_goods_so"], [], ⟨2, 2, false, b_law_of⟩⟩
def b_law_pick : List IS := [.set2 3 4 (.newr (.op .list [.var 1])) (.newr (.lst [])), .for_ (.one 5) (.rng1 (.op .min2 [.op .int [.var 2], .op .len [.var 3]])) [.app (.var 4) (.pop1 (.var 3) (.call "_law_take" [.var 0, .op .len [.var 3]]))], .ret (.var 4)]
def e_law_pick : Entry := ⟨"_law_pick", "_law_pick", topS 26, ["_law_box_here", "_law_goods_so", "_law_count_so", "_law_pool_so", "_law_found", "_law_turn"], ["_law_box_here", "_law_goods_so", "_law_count_so"], ["_law_found", "_law_pool_so"], ⟨3, 6, false, b_law_pick⟩⟩
def b_law_same : List IS := [.ife (.op (.isi [.tlist, .ttuple]) [.var 1]) [.ife (.op .ne [.op (.isi [.tlist]) [.var 0], .op (.isi [.tlist]) [.var 1]]) [.ret (.cst (.bl false))] [], .ife (.op .ne [.op (.isi [.ttuple]) [.var 0], .op (.isi [.ttuple]) [.var 1]]) [.ret (.cst (.bl false))] [], .ret (.and (.op .eq [.op .len [.var 0], .op .len [.var 1]]) (.op .all [.lc [2, 3] (.tup [2, 3]) (.zip (.var 0) (.var 1)) [] (.call "_law_same" [.var 2, .var 3])]))] [], .ife (.or (.op .isN [.var 1]) (.op (.isi [.tbool, .tstr]) [.var 1])) [.ret (.and (.op .eq [.var 0, .var 1]) (.and (.op .eq [.op (.isi [.tbool]) [.var 0], .op (.isi [.tbool]) [.var 1]]) (.op .eq [.op .isN [.var 0], .op .isN [.var 1]])))] [], .ret (.and (.op (.isi [.tint]) [.var 0]) (.and (.op .not [.op (.isi [.tbool]) [.var 0]]) (.op .eq [.var 0, .var 1])))]
def e_law_same : Entry := ⟨"_law_same", "_law_same", topS 27, ["_law_got", "_law_due", "_law_mine", "_law_its"], ["_law_got", "_law_due"], [], ⟨2, 4, false, b_law_same⟩⟩
def b_law_lists : List IS := [.ret (.ite (.op (.isi [.tlist, .ttuple]) [.var 0]) (.lc [1] (.one 1) (.seq (.var 0)) [] (.call "_law_lists" [.var 1])) (.var 0))]
def e_law_lists : Entry := ⟨"_law_lists", "_law_lists", topS 28, ["_law_matter", "_law_bit"], ["_law_matter"], [], ⟨1, 2, false, b_law_lists⟩⟩
def b_law_kinds : List IS := [.set (.one 1) (.lst [.lst [.cst (.str "a"), .cst (.str "ab"), .cst (.str "b"), .cst (.str "x"), .cst (.str "y")], .lst [.cst (.str "for"), .cst (.str "in"), .cst (.str "no"), .cst (.str "of"), .cst (.str "on")]]), .set (.one 1) (.op .add [.var 1, .lst [.lst [.cst (.str "abcdefgh"), .cst (.str "abcdefgi"), .cst (.str "c"), .cst (.str "z"), .cst (.str "zz")]]]), .ret (.op .sorted [.call "_law_pick" [.var 0, .call "_law_of" [.var 0, .var 1], .op .add [.cst (.int 2), .call "_law_take" [.var 0, .cst (.int 4)]]]])]
def e_law_kinds : Entry := ⟨"_law_kinds", "_law_kinds", topS 29, ["_law_box_here", "_law_pools"], ["_law_box_here"], [], ⟨1, 2, false, b_law_kinds⟩⟩
def b_law_pairs : List IS := [.setm 2 (.lst []), .for_ (.one 3) (.rng1 (.op .len [.var 1])) [.for_ (.one 4) (.rng1 (.var 3)) [.set (.one 5) (.call "_law_take" [.var 0, .cst (.int 3)]), .ife (.op .gt [.var 5, .cst (.int 0)]) [.app (.var 2) (.ite (.op .eq [.var 5, .cst (.int 1)]) (.tup [.op .ix [.var 1, .var 3], .op .ix [.var 1, .var 4]]) (.tup [.op .ix [.var 1, .var 4], .op .ix [.var 1, .var 3]]))] []]], .ret (.op .tuple [.op .sorted [.var 2]])]
def e_law_pairs : Entry := ⟨"_law_pairs", "_law_pairs", topS 30, ["_law_box_here", "_law_tags", "_law_found", "_law_one_so", "_law_two_so", "_law_way_so"], ["_law_box_here", "_law_tags"], ["_law_found"], ⟨2, 6, false, b_law_pairs⟩⟩
def b_law_row : List IS := [.ret (.op .tuple [.lc [3] (.one 3) (.rng1 (.call "_law_take" [.var 0, .op .add [.var 2, .cst (.int 1)]])) [] (.call "_law_of" [.var 0, .var 1])])]
def e_law_row : Entry := ⟨"_law_row", "_law_row", topS 31, ["_law_box_here", "_law_tags", "_law_most_so", "_law_turn"], ["_law_box_here", "_law_tags", "_law_most_so"], [], ⟨3, 4, false, b_law_row⟩⟩
def b_law_by_hand_right : List IS := [.set (.one 0) (.lst [.tup [], .tup [.tup [.cst (.str "a"), .cst (.str "b")]], .tup [.tup [.cst (.str "a"), .cst (.str "b")], .tup [.cst (.str "b"), .cst (.str "c")]], .tup [.tup [.cst (.str "ab"), .cst (.str "a")], .tup [.cst (.str "b"), .cst (.str "a")], .tup [.cst (.str "b"), .cst (.str "ab")]]]), .set (.one 1) (.lst [.cst (.str "-"), .cst (.str "a b"), .cst (.str "a b; b c"), .cst (.str "ab a; b a; b ab")]), .set (.one 2) (.lc [8] (.one 8) (.seq (.var 0)) [] (.call "_law_lists" [.var 8])), .set (.one 3) (.lst [.lc [8] (.one 8) (.seq (.var 0)) [] (.call "pairs_text" [.var 8]), .lc [8] (.one 8) (.seq (.var 2)) [] (.callK "pairs_text" [0] [.var 8]), .var 2]), .set (.one 3) (.op .add [.var 3, .lst [.lc [8] (.one 8) (.seq (.var 1)) [] (.call "pairs_from" [.var 8]), .lc [8] (.one 8) (.seq (.var 1)) [] (.callK "pairs_from" [0] [.var 8])]]), .set (.one 4) (.lst [.var 1, .var 1, .lc [8] (.one 8) (.seq (.var 0)) [] (.call "_law_lists" [.var 8]), .var 0, .var 0]), .set2 5 6 (.lst [.tup [], .tup [.cst (.str "a")], .tup [.cst (.str "b"), .cst (.str "a"), .cst (.str "b")], .op .mul [.tup [.cst (.str "abcdefgh")], .cst (.int 10)]]) (.lst [.cst (.str "-"), .cst (.str "a"), .cst (.str "b a b"), .m1 .join (.cst (.str " ")) (.op .mul [.lst [.cst (.str "abcdefgh")], .cst (.int 10)])]), .set (.one 3) (.op .add [.var 3, .lst [.lc [8] (.one 8) (.seq (.var 5)) [] (.call "queue_text" [.var 8]), .lc [8] (.one 8) (.seq (.var 5)) [] (.callK "queue_text" [0] [.op .list [.var 8]])]]), .set (.one 3) (.op .add [.var 3, .lst [.lc [8] (.one 8) (.seq (.var 6)) [] (.call "queue_from" [.var 8]), .lc [8] (.one 8) (.seq (.var 6)) [] (.callK "queue_from" [0] [.var 8])]]), .set (.one 4) (.op .add [.var 4, .lst [.var 6, .var 6, .var 5, .var 5]]), .set2 5 6 (.lst [.tup [], .tup [.cst (.int 0)], .tup [.cst (.int 0), .cst (.int 2), .cst (.int 1)], .tup [.cst (.int 10), .cst (.int 9)]]) (.lst [.cst (.str "-"), .cst (.str "0"), .cst (.str "0 2 1"), .cst (.str "10 9")]), .set (.one 3) (.op .add [.var 3, .lst [.lc [8] (.one 8) (.seq (.var 5)) [] (.call "order_text" [.var 8]), .lc [8] (.one 8) (.seq (.var 5)) [] (.callK "order_text" [0] [.op .list [.var 8]])]]), .set (.one 3) (.op .add [.var 3, .lst [.lc [8] (.one 8) (.seq (.var 6)) [] (.call "order_from" [.var 8]), .lc [8] (.one 8) (.seq (.var 6)) [] (.callK "order_from" [0] [.var 8])]]), .set (.one 4) (.op .add [.var 4, .lst [.var 6, .var 6, .var 5, .var 5]]), .set (.one 7) (.op .tuple [.lc [9, 10] (.tup [9, 10]) (.zip (.cst (.str "abcdefg")) (.cst (.str "bcdefgh"))) [] (.tup [.var 9, .var 10])]), .ret (.call "_law_same" [.op .add [.var 3, .lst [.call "pairs_text" [.var 7], .call "pairs_from" [.cst (.str "a b; b c; c d; d e; e f; f g; g h")]]], .op .add [.var 4, .lst [.cst (.str "a b; b c; c d; d e; e f; f g; g h"), .var 7]]])]
def e_law_by_hand_right : Entry := ⟨"_law_by_hand_right", "_law_by_hand_right", topS 32, ["_law_some", "_law_flat", "_law_soft", "_law_got", "_law_due", "_law_rows_so", "_law_words", "_law_wide_so", "_law_own", "_law_one_so", "_law_two_so"], [], [], ⟨0, 11, false, b_law_by_hand_right⟩⟩
def b_law_case_right : List IS := [.set (.one 1) (.call "_law_kinds" [.var 0]), .set2 2 3 (.call "_law_pairs" [.var 0, .var 1]) (.call "_law_row" [.var 0, .var 1, .cst (.int 10)]), .set (.one 4) (.ite (.op .ne [.var 2, .tup []]) (.m1 .join (.cst (.str "; ")) (.lc [9, 10] (.tup [9, 10]) (.seq (.var 2)) [] (.op .add [.op .add [.var 9, .cst (.str " ")], .var 10]))) (.cst (.str "-"))), .set (.one 5) (.ite (.op .ne [.var 3, .tup []]) (.m1 .join (.cst (.str " ")) (.var 3)) (.cst (.str "-"))), .set (.one 6) (.op .tuple [.call "_law_pick" [.var 0, .lrng false (.op .len [.var 3]), .op .len [.var 3]]]), .set (.one 7) (.ite (.op .ne [.var 6, .tup []]) (.m1 .join (.cst (.str " ")) (.lc [11] (.one 11) (.seq (.var 6)) [] (.op .str [.var 11]))) (.cst (.str "-"))), .set (.one 8) (.lst [.call "pairs_text" [.var 2], .call "pairs_text" [.call "_law_lists" [.var 2]], .call "pairs_from" [.var 4]]), .set (.one 8) (.op .add [.var 8, .lst [.call "queue_text" [.var 3], .call "queue_from" [.var 5]]]), .set (.one 8) (.op .add [.var 8, .lst [.call "order_text" [.var 6], .call "order_from" [.var 7]]]), .ret (.call "_law_same" [.var 8, .lst [.var 4, .var 4, .var 2, .var 5, .var 3, .var 7, .var 6]])]
def e_law_case_right : Entry := ⟨"_law_case_right", "_law_case_right", topS 33, ["_law_box_here", "_law_tags", "_law_bits_so", "_law_row_so", "_law_flat", "_law_words", "_law_spots", "_law_line_so", "_law_got", "_law_one_so", "_law_two_so", "_law_own"], ["_law_box_here"], [], ⟨1, 12, false, b_law_case_right⟩⟩
def b_law_right : List IS := [.ret (.op .all [.lc [1] (.one 1) (.rng1 (.cst (.int 6))) [] (.call "_law_case_right" [.var 0])])]
def e_law_right : Entry := ⟨"_law_right", "_law_right", topS 34, ["_law_box_here", "_law_turn"], ["_law_box_here"], [], ⟨1, 2, false, b_law_right⟩⟩
def b_law : List IS := [.set (.one 1) (.call "_law_cells" [.var 0, .cst (.int 3)]), .ret (.and (.call "_law_by_hand_right" []) (.op .all [.lc [2] (.one 2) (.rng1 (.op .len [.var 1])) [] (.call "_law_right" [.call "_law_box" [.var 1, .var 2]])]))]
def e_law : Entry := ⟨"law", "law", topS 35, ["_law_script", "_law_cells_here", "_law_k"], ["_law_script"], [], ⟨1, 3, false, b_law⟩⟩
def x_BadText : EntX := ⟨"BadText", some ("piece", none)⟩
def i_BadText : IniD := ⟨"piece", iniS 2, "BadText.__init__", iP1 (iniS 2), iP2 (iniS 2), iP (iniS 2), iE (iniS 2)⟩
def law0 : Law := { L := [e_is_name, e_fits, e_pairs_text, e_queue_text, e_order_text, e_pairs_from, e_queue_from, e_order_from, e_text_of_pieces, e_pieces, e_is_written_pair, e_is_written_number, e_law_box, e_law_take, e_law_cells, e_law_of, e_law_pick, e_law_same, e_law_lists, e_law_kinds, e_law_pairs, e_law_row, e_law_by_hand_right, e_law_case_right, e_law_right, e_law], M := [(x_BadText, some i_BadText)], cst := [("LETTERS", .str "abcdefghijklmnopqrstuvwxyz"), ("LONGEST_NAME", .int 8), ("NOTHING", .str "-"), ("DIGITS", .str "0123456789")], klF := [(e_pairs_text, ["pairs"], [0]), (e_pairs_from, ["text"], [0]), (e_queue_text, ["queue"], [0]), (e_queue_from, ["text"], [0]), (e_order_text, ["order"], [0]), (e_order_from, ["text"], [0])], klX := [], cl := [], cs := [], klC := [] }
theorem s_is_name : FnScope e_is_name.N e_is_name.ps (defScope e_is_name.st) := ⟨rfl, rfl, rfl, by decide +kernel, rfl, by decide +kernel, by decide +kernel⟩
theorem ent_is_name : entB law0.t e_is_name := ⟨s_is_name, rfl, rfl, by kernel_rfl⟩
theorem bd_is_name : BindE e_is_name := ⟨fun kV doc pm an cdv ct us hl => by
  have hl : us.length = 1 := hl
  match us, hl with
  | [_], _ => rfl⟩
theorem s_fits : FnScope e_fits.N e_fits.ps (defScope e_fits.st) := ⟨rfl, rfl, rfl, by decide +kernel, rfl, by decide +kernel, by decide +kernel⟩
theorem ent_fits : entB law0.t e_fits := ⟨s_fits, rfl, rfl, by kernel_rfl⟩
theorem bd_fits : BindE e_fits := ⟨fun kV doc pm an cdv ct us hl => by
  have hl : us.length = 2 := hl
  match us, hl with
  | [_, _], _ => rfl⟩
theorem s_pairs_text : FnScope e_pairs_text.N e_pairs_text.ps (defScope e_pairs_text.st) := ⟨rfl, rfl, rfl, by decide +kernel, rfl, by decide +kernel, by decide +kernel⟩
theorem ent_pairs_text : entB law0.t e_pairs_text := ⟨s_pairs_text, rfl, rfl, by kernel_rfl⟩
theorem bd_pairs_text : BindE e_pairs_text := ⟨fun kV doc pm an cdv ct us hl => by
  have hl : us.length = 1 := hl
  match us, hl with
  | [_], _ => rfl⟩
theorem s_queue_text : FnScope e_queue_text.N e_queue_text.ps (defScope e_queue_text.st) := ⟨rfl, rfl, rfl, by decide +kernel, rfl, by decide +kernel, by decide +kernel⟩
theorem ent_queue_text : entB law0.t e_queue_text := ⟨s_queue_text, rfl, rfl, by kernel_rfl⟩
theorem bd_queue_text : BindE e_queue_text := ⟨fun kV doc pm an cdv ct us hl => by
  have hl : us.length = 1 := hl
  match us, hl with
  | [_], _ => rfl⟩
theorem s_order_text : FnScope e_order_text.N e_order_text.ps (defScope e_order_text.st) := ⟨rfl, rfl, rfl, by decide +kernel, rfl, by decide +kernel, by decide +kernel⟩
theorem ent_order_text : entB law0.t e_order_text := ⟨s_order_text, rfl, rfl, by kernel_rfl⟩
theorem bd_order_text : BindE e_order_text := ⟨fun kV doc pm an cdv ct us hl => by
  have hl : us.length = 1 := hl
  match us, hl with
  | [_], _ => rfl⟩
theorem s_pairs_from : FnScope e_pairs_from.N e_pairs_from.ps (defScope e_pairs_from.st) := ⟨rfl, rfl, rfl, by decide +kernel, rfl, by decide +kernel, by decide +kernel⟩
theorem ent_pairs_from : entB law0.t e_pairs_from := ⟨s_pairs_from, rfl, rfl, by kernel_rfl⟩
theorem bd_pairs_from : BindE e_pairs_from := ⟨fun kV doc pm an cdv ct us hl => by
  have hl : us.length = 1 := hl
  match us, hl with
  | [_], _ => rfl⟩
theorem s_queue_from : FnScope e_queue_from.N e_queue_from.ps (defScope e_queue_from.st) := ⟨rfl, rfl, rfl, by decide +kernel, rfl, by decide +kernel, by decide +kernel⟩
theorem ent_queue_from : entB law0.t e_queue_from := ⟨s_queue_from, rfl, rfl, by kernel_rfl⟩
theorem bd_queue_from : BindE e_queue_from := ⟨fun kV doc pm an cdv ct us hl => by
  have hl : us.length = 1 := hl
  match us, hl with
  | [_], _ => rfl⟩
theorem s_order_from : FnScope e_order_from.N e_order_from.ps (defScope e_order_from.st) := ⟨rfl, rfl, rfl, by decide +kernel, rfl, by decide +kernel, by decide +kernel⟩
theorem ent_order_from : entB law0.t e_order_from := ⟨s_order_from, rfl, rfl, by kernel_rfl⟩
theorem bd_order_from : BindE e_order_from := ⟨fun kV doc pm an cdv ct us hl => by
  have hl : us.length = 1 := hl
  match us, hl with
  | [_], _ => rfl⟩
theorem s_text_of_pieces : FnScope e_text_of_pieces.N e_text_of_pieces.ps (defScope e_text_of_pieces.st) := ⟨rfl, rfl, rfl, by decide +kernel, rfl, by decide +kernel, by decide +kernel⟩
theorem ent_text_of_pieces : entB law0.t e_text_of_pieces := ⟨s_text_of_pieces, rfl, rfl, by kernel_rfl⟩
theorem bd_text_of_pieces : BindE e_text_of_pieces := ⟨fun kV doc pm an cdv ct us hl => by
  have hl : us.length = 2 := hl
  match us, hl with
  | [_, _], _ => rfl⟩
theorem s_pieces : FnScope e_pieces.N e_pieces.ps (defScope e_pieces.st) := ⟨rfl, rfl, rfl, by decide +kernel, rfl, by decide +kernel, by decide +kernel⟩
theorem ent_pieces : entB law0.t e_pieces := ⟨s_pieces, rfl, rfl, by kernel_rfl⟩
theorem bd_pieces : BindE e_pieces := ⟨fun kV doc pm an cdv ct us hl => by
  have hl : us.length = 2 := hl
  match us, hl with
  | [_, _], _ => rfl⟩
theorem s_is_written_pair : FnScope e_is_written_pair.N e_is_written_pair.ps (defScope e_is_written_pair.st) := ⟨rfl, rfl, rfl, by decide +kernel, rfl, by decide +kernel, by decide +kernel⟩
theorem ent_is_written_pair : entB law0.t e_is_written_pair := ⟨s_is_written_pair, rfl, rfl, by kernel_rfl⟩
theorem bd_is_written_pair : BindE e_is_written_pair := ⟨fun kV doc pm an cdv ct us hl => by
  have hl : us.length = 1 := hl
  match us, hl with
  | [_], _ => rfl⟩
theorem s_is_written_number : FnScope e_is_written_number.N e_is_written_number.ps (defScope e_is_written_number.st) := ⟨rfl, rfl, rfl, by decide +kernel, rfl, by decide +kernel, by decide +kernel⟩
theorem ent_is_written_number : entB law0.t e_is_written_number := ⟨s_is_written_number, rfl, rfl, by kernel_rfl⟩
theorem bd_is_written_number : BindE e_is_written_number := ⟨fun kV doc pm an cdv ct us hl => by
  have hl : us.length = 1 := hl
  match us, hl with
  | [_], _ => rfl⟩
theorem s_law_box : FnScope e_law_box.N e_law_box.ps (defScope e_law_box.st) := ⟨rfl, rfl, rfl, by decide +kernel, rfl, by decide +kernel, by decide +kernel⟩
theorem ent_law_box : entB law0.t e_law_box := ⟨s_law_box, rfl, rfl, by kernel_rfl⟩
theorem bd_law_box : BindE e_law_box := ⟨fun kV doc pm an cdv ct us hl => by
  have hl : us.length = 2 := hl
  match us, hl with
  | [_, _], _ => rfl⟩
theorem s_law_take : FnScope e_law_take.N e_law_take.ps (defScope e_law_take.st) := ⟨rfl, rfl, rfl, by decide +kernel, rfl, by decide +kernel, by decide +kernel⟩
theorem ent_law_take : entB law0.t e_law_take := ⟨s_law_take, rfl, rfl, by kernel_rfl⟩
theorem bd_law_take : BindE e_law_take := ⟨fun kV doc pm an cdv ct us hl => by
  have hl : us.length = 2 := hl
  match us, hl with
  | [_, _], _ => rfl⟩
theorem s_law_cells : FnScope e_law_cells.N e_law_cells.ps (defScope e_law_cells.st) := ⟨rfl, rfl, rfl, by decide +kernel, rfl, by decide +kernel, by decide +kernel⟩
theorem ent_law_cells : entB law0.t e_law_cells := ⟨s_law_cells, rfl, rfl, by kernel_rfl⟩
theorem bd_law_cells : BindE e_law_cells := ⟨fun kV doc pm an cdv ct us hl => by
  have hl : us.length = 2 := hl
  match us, hl with
  | [_, _], _ => rfl⟩
theorem s_law_of : FnScope e_law_of.N e_law_of.ps (defScope e_law_of.st) := ⟨rfl, rfl, rfl, by decide +kernel, rfl, by decide +kernel, by decide +kernel⟩
theorem ent_law_of : entB law0.t e_law_of := ⟨s_law_of, rfl, rfl, by kernel_rfl⟩
theorem bd_law_of : BindE e_law_of := ⟨fun kV doc pm an cdv ct us hl => by
  have hl : us.length = 2 := hl
  match us, hl with
  | [_, _], _ => rfl⟩
theorem s_law_pick : FnScope e_law_pick.N e_law_pick.ps (defScope e_law_pick.st) := ⟨rfl, rfl, rfl, by decide +kernel, rfl, by decide +kernel, by decide +kernel⟩
theorem ent_law_pick : entB law0.t e_law_pick := ⟨s_law_pick, rfl, rfl, by kernel_rfl⟩
theorem bd_law_pick : BindE e_law_pick := ⟨fun kV doc pm an cdv ct us hl => by
  have hl : us.length = 3 := hl
  match us, hl with
  | [_, _, _], _ => rfl⟩
theorem s_law_same : FnScope e_law_same.N e_law_same.ps (defScope e_law_same.st) := ⟨rfl, rfl, rfl, by decide +kernel, rfl, by decide +kernel, by decide +kernel⟩
theorem ent_law_same : entB law0.t e_law_same := ⟨s_law_same, rfl, rfl, by kernel_rfl⟩
theorem bd_law_same : BindE e_law_same := ⟨fun kV doc pm an cdv ct us hl => by
  have hl : us.length = 2 := hl
  match us, hl with
  | [_, _], _ => rfl⟩
theorem s_law_lists : FnScope e_law_lists.N e_law_lists.ps (defScope e_law_lists.st) := ⟨rfl, rfl, rfl, by decide +kernel, rfl, by decide +kernel, by decide +kernel⟩
theorem ent_law_lists : entB law0.t e_law_lists := ⟨s_law_lists, rfl, rfl, by kernel_rfl⟩
theorem bd_law_lists : BindE e_law_lists := ⟨fun kV doc pm an cdv ct us hl => by
  have hl : us.length = 1 := hl
  match us, hl with
  | [_], _ => rfl⟩
theorem s_law_kinds : FnScope e_law_kinds.N e_law_kinds.ps (defScope e_law_kinds.st) := ⟨rfl, rfl, rfl, by decide +kernel, rfl, by decide +kernel, by decide +kernel⟩
theorem ent_law_kinds : entB law0.t e_law_kinds := ⟨s_law_kinds, rfl, rfl, by kernel_rfl⟩
theorem bd_law_kinds : BindE e_law_kinds := ⟨fun kV doc pm an cdv ct us hl => by
  have hl : us.length = 1 := hl
  match us, hl with
  | [_], _ => rfl⟩
theorem s_law_pairs : FnScope e_law_pairs.N e_law_pairs.ps (defScope e_law_pairs.st) := ⟨rfl, rfl, rfl, by decide +kernel, rfl, by decide +kernel, by decide +kernel⟩
theorem ent_law_pairs : entB law0.t e_law_pairs := ⟨s_law_pairs, rfl, rfl, by kernel_rfl⟩
theorem bd_law_pairs : BindE e_law_pairs := ⟨fun kV doc pm an cdv ct us hl => by
  have hl : us.length = 2 := hl
  match us, hl with
  | [_, _], _ => rfl⟩
theorem s_law_row : FnScope e_law_row.N e_law_row.ps (defScope e_law_row.st) := ⟨rfl, rfl, rfl, by decide +kernel, rfl, by decide +kernel, by decide +kernel⟩
theorem ent_law_row : entB law0.t e_law_row := ⟨s_law_row, rfl, rfl, by kernel_rfl⟩
theorem bd_law_row : BindE e_law_row := ⟨fun kV doc pm an cdv ct us hl => by
  have hl : us.length = 3 := hl
  match us, hl with
  | [_, _, _], _ => rfl⟩
theorem s_law_by_hand_right : FnScope e_law_by_hand_right.N e_law_by_hand_right.ps (defScope e_law_by_hand_right.st) := ⟨rfl, rfl, rfl, by decide +kernel, rfl, by decide +kernel, by decide +kernel⟩
theorem ent_law_by_hand_right : entB law0.t e_law_by_hand_right := ⟨s_law_by_hand_right, rfl, rfl, by kernel_rfl⟩
theorem bd_law_by_hand_right : BindE e_law_by_hand_right := ⟨fun kV doc pm an cdv ct us hl => by
  have hl : us.length = 0 := hl
  match us, hl with
  | [], _ => rfl⟩
theorem s_law_case_right : FnScope e_law_case_right.N e_law_case_right.ps (defScope e_law_case_right.st) := ⟨rfl, rfl, rfl, by decide +kernel, rfl, by decide +kernel, by decide +kernel⟩
theorem ent_law_case_right : entB law0.t e_law_case_right := ⟨s_law_case_right, rfl, rfl, by kernel_rfl⟩
theorem bd_law_case_right : BindE e_law_case_right := ⟨fun kV doc pm an cdv ct us hl => by
  have hl : us.length = 1 := hl
  match us, hl with
  | [_], _ => rfl⟩
theorem s_law_right : FnScope e_law_right.N e_law_right.ps (defScope e_law_right.st) := ⟨rfl, rfl, rfl, by decide +kernel, rfl, by decide +kernel, by decide +kernel⟩
theorem ent_law_right : entB law0.t e_law_right := ⟨s_law_right, rfl, rfl, by kernel_rfl⟩
theorem bd_law_right : BindE e_law_right := ⟨fun kV doc pm an cdv ct us hl => by
  have hl : us.length = 1 := hl
  match us, hl with
  | [_], _ => rfl⟩
theorem s_law : FnScope e_law.N e_law.ps (defScope e_law.st) := ⟨rfl, rfl, rfl, by decide +kernel, rfl, by decide +kernel, by decide +kernel⟩
theorem ent_law : entB law0.t e_law := ⟨s_law, rfl, rfl, by kernel_rfl⟩
theorem bd_law : BindE e_law := ⟨fun kV doc pm an cdv ct us hl => by
  have hl : us.length = 1 := hl
  match us, hl with
  | [_], _ => rfl⟩
theorem kw_pairs_text_pairs : BindK e_pairs_text ["pairs"] [0] := fun kV doc pm an cdv ct ws us hl hp => by
  have hl : ws.length = 1 := hl
  match ws, hl with
  | [w0], _ =>
    cases hp
    rfl
theorem kw_pairs_from_text : BindK e_pairs_from ["text"] [0] := fun kV doc pm an cdv ct ws us hl hp => by
  have hl : ws.length = 1 := hl
  match ws, hl with
  | [w0], _ =>
    cases hp
    rfl
theorem kw_queue_text_queue : BindK e_queue_text ["queue"] [0] := fun kV doc pm an cdv ct ws us hl hp => by
  have hl : ws.length = 1 := hl
  match ws, hl with
  | [w0], _ =>
    cases hp
    rfl
theorem kw_queue_from_text : BindK e_queue_from ["text"] [0] := fun kV doc pm an cdv ct ws us hl hp => by
  have hl : ws.length = 1 := hl
  match ws, hl with
  | [w0], _ =>
    cases hp
    rfl
theorem kw_order_text_order : BindK e_order_text ["order"] [0] := fun kV doc pm an cdv ct ws us hl hp => by
  have hl : ws.length = 1 := hl
  match ws, hl with
  | [w0], _ =>
    cases hp
    rfl
theorem kw_order_from_text : BindK e_order_from ["text"] [0] := fun kV doc pm an cdv ct ws us hl hp => by
  have hl : ws.length = 1 := hl
  match ws, hl with
  | [w0], _ =>
    cases hp
    rfl
theorem bi_BadText : BindI x_BadText i_BadText := ⟨fun kV doc pm an cdv ct us hl => by
  match us, hl with
  | [_, _], _ => rfl, fun kV doc pm an cdv ct self u => rfl⟩
theorem si_BadText : FnScope ["self", i_BadText.p] ["self", i_BadText.p] (defScope i_BadText.st) := ⟨rfl, rfl, rfl, by decide +kernel, rfl, by decide +kernel, by decide +kernel⟩
theorem good0 : law0.Good where
  E := List.forall_mem_cons.2 ⟨ent_is_name, List.forall_mem_cons.2 ⟨ent_fits, List.forall_mem_cons.2 ⟨ent_pairs_text, List.forall_mem_cons.2 ⟨ent_queue_text, List.forall_mem_cons.2 ⟨ent_order_text, List.forall_mem_cons.2 ⟨ent_pairs_from, List.forall_mem_cons.2 ⟨ent_queue_from, List.forall_mem_cons.2 ⟨ent_order_from, List.forall_mem_cons.2 ⟨ent_text_of_pieces, List.forall_mem_cons.2 ⟨ent_pieces, List.forall_mem_cons.2 ⟨ent_is_written_pair, List.forall_mem_cons.2 ⟨ent_is_written_number, List.forall_mem_cons.2 ⟨ent_law_box, List.forall_mem_cons.2 ⟨ent_law_take, List.forall_mem_cons.2 ⟨ent_law_cells, List.forall_mem_cons.2 ⟨ent_law_of, List.forall_mem_cons.2 ⟨ent_law_pick, List.forall_mem_cons.2 ⟨ent_law_same, List.forall_mem_cons.2 ⟨ent_law_lists, List.forall_mem_cons.2 ⟨ent_law_kinds, List.forall_mem_cons.2 ⟨ent_law_pairs, List.forall_mem_cons.2 ⟨ent_law_row, List.forall_mem_cons.2 ⟨ent_law_by_hand_right, List.forall_mem_cons.2 ⟨ent_law_case_right, List.forall_mem_cons.2 ⟨ent_law_right, List.forall_mem_cons.2 ⟨ent_law, List.forall_mem_nil _⟩⟩⟩⟩⟩⟩⟩⟩⟩⟩⟩⟩⟩⟩⟩⟩⟩⟩⟩⟩⟩⟩⟩⟩⟩⟩
  B := List.forall_mem_cons.2 ⟨bd_is_name, List.forall_mem_cons.2 ⟨bd_fits, List.forall_mem_cons.2 ⟨bd_pairs_text, List.forall_mem_cons.2 ⟨bd_queue_text, List.forall_mem_cons.2 ⟨bd_order_text, List.forall_mem_cons.2 ⟨bd_pairs_from, List.forall_mem_cons.2 ⟨bd_queue_from, List.forall_mem_cons.2 ⟨bd_order_from, List.forall_mem_cons.2 ⟨bd_text_of_pieces, List.forall_mem_cons.2 ⟨bd_pieces, List.forall_mem_cons.2 ⟨bd_is_written_pair, List.forall_mem_cons.2 ⟨bd_is_written_number, List.forall_mem_cons.2 ⟨bd_law_box, List.forall_mem_cons.2 ⟨bd_law_take, List.forall_mem_cons.2 ⟨bd_law_cells, List.forall_mem_cons.2 ⟨bd_law_of, List.forall_mem_cons.2 ⟨bd_law_pick, List.forall_mem_cons.2 ⟨bd_law_same, List.forall_mem_cons.2 ⟨bd_law_lists, List.forall_mem_cons.2 ⟨bd_law_kinds, List.forall_mem_cons.2 ⟨bd_law_pairs, List.forall_mem_cons.2 ⟨bd_law_row, List.forall_mem_cons.2 ⟨bd_law_by_hand_right, List.forall_mem_cons.2 ⟨bd_law_case_right, List.forall_mem_cons.2 ⟨bd_law_right, List.forall_mem_cons.2 ⟨bd_law, List.forall_mem_nil _⟩⟩⟩⟩⟩⟩⟩⟩⟩⟩⟩⟩⟩⟩⟩⟩⟩⟩⟩⟩⟩⟩⟩⟩⟩⟩
  K := List.forall_mem_cons.2 ⟨kw_pairs_text_pairs, List.forall_mem_cons.2 ⟨kw_pairs_from_text, List.forall_mem_cons.2 ⟨kw_queue_text_queue, List.forall_mem_cons.2 ⟨kw_queue_from_text, List.forall_mem_cons.2 ⟨kw_order_text_order, List.forall_mem_cons.2 ⟨kw_order_from_text, List.forall_mem_nil _⟩⟩⟩⟩⟩⟩
  I := List.forall_mem_cons.2 ⟨fun i hi => (by cases hi; exact ⟨bi_BadText, si_BadText, by kernel_rfl, Or.inl rfl, by kernel_rfl, rfl⟩), List.forall_mem_nil _⟩
  cI := List.forall_mem_nil _
  cP := List.forall_mem_nil _
  cK := List.forall_mem_nil _
  nA := by decide +kernel
  nL := by decide +kernel
  nM := by decide +kernel
  dis := by decide +kernel
  sF := List.forall_mem_cons.2 ⟨(by simp [law0]), List.forall_mem_cons.2 ⟨(by simp [law0]), List.forall_mem_cons.2 ⟨(by simp [law0]), List.forall_mem_cons.2 ⟨(by simp [law0]), List.forall_mem_cons.2 ⟨(by simp [law0]), List.forall_mem_cons.2 ⟨(by simp [law0]), List.forall_mem_nil _⟩⟩⟩⟩⟩⟩
  sX := List.forall_mem_nil _
  fo := List.forall_mem_cons.2 ⟨rfl, List.forall_mem_nil _⟩
  blt := List.forall_mem_nil _
  cst := List.forall_mem_cons.2 ⟨Or.inr (Or.inl ⟨_, rfl⟩), List.forall_mem_cons.2 ⟨Or.inl ⟨_, rfl⟩, List.forall_mem_cons.2 ⟨Or.inr (Or.inl ⟨_, rfl⟩), List.forall_mem_cons.2 ⟨Or.inr (Or.inl ⟨_, rfl⟩), List.forall_mem_nil _⟩⟩⟩⟩
end PI.K01
/-! C0: the small forms that many laws share (of the program and of the laws' helpers). -/
namespace PI.C
open PySem PySem.Spec PyProof.Rows L2 PI
def b_is_name : List IS := [.ife (.or (.op .not [.op (.isi [.tstr]) [.var 0]]) (.op .not [.chain .le .le (.cst (.int 1)) (.op .len [.var 0]) (.cst (.int 8))])) [.ret (.cst (.bl false))] [], .ret (.op .all [.lc [1] (.one 1) (.seq (.var 0)) [] (.op .in_ [.var 1, .cst (.str "abcdefghijklmnopqrstuvwxyz")])])]
abbrev d_is_name : Df := ⟨1, 2, false, b_is_name⟩
def b_fits : List IS := [.set (.tup [2, 3]) (.var 0), .ret (.and (.op .ne [.var 2, .var 3]) (.op .notin [.tup [.var 3, .var 2], .var 1]))]
abbrev d_fits : Df := ⟨2, 4, false, b_fits⟩
def b_pairs_text : List IS := [.ret (.call "text_of_pieces" [.lc [1, 2] (.tup [1, 2]) (.seq (.var 0)) [] (.fs [.var 1, .cst (.str " "), .var 2]), .cst (.str "; ")])]
abbrev d_pairs_text : Df := ⟨1, 3, false, b_pairs_text⟩
def b_queue_text : List IS := [.ret (.call "text_of_pieces" [.var 0, .cst (.str " ")])]
abbrev d_queue_text : Df := ⟨1, 1, false, b_queue_text⟩
def b_order_text : List IS := [.ret (.call "text_of_pieces" [.lc [1] (.one 1) (.seq (.var 0)) [] (.op .str [.var 1]), .cst (.str " ")])]
abbrev d_order_text : Df := ⟨1, 2, false, b_order_text⟩
def b_pairs_from : List IS := [.setm 1 (.dnew true), .set (.one 2) (.tup []), .for_ (.tup [3, 4]) (.enu (.call "pieces" [.var 0, .cst (.str "; ")])) [.set (.one 5) (.op .tuple [.m1 .split (.var 4) (.cst (.str " "))]), .ife (.or (.op .not [.call "is_written_pair" [.var 5]]) (.or (.op .not [.call "fits" [.var 5, .var 1]]) (.op .le [.var 5, .var 2]))) [.raise "BadText" [.var 3]] [], .setix (.var 1) (.var 5) (.cst (.bl true)), .set (.one 2) (.var 5)], .ret (.op .tuple [.var 1])]
abbrev d_pairs_from : Df := ⟨1, 6, false, b_pairs_from⟩
def b_queue_from : List IS := [.set (.one 1) (.call "pieces" [.var 0, .cst (.str " ")]), .for_ (.tup [2, 3]) (.enu (.var 1)) [.ife (.op .not [.call "is_name" [.var 3]]) [.raise "BadText" [.var 2]] []], .ret (.op .tuple [.var 1])]
abbrev d_queue_from : Df := ⟨1, 4, false, b_queue_from⟩
def b_order_from : List IS := [.setm 1 (.dnew false), .for_ (.tup [2, 3]) (.enu (.call "pieces" [.var 0, .cst (.str " ")])) [.ife (.or (.op .not [.call "is_written_number" [.var 3]]) (.op .in_ [.var 3, .var 1])) [.raise "BadText" [.var 2]] [], .setix (.var 1) (.var 3) (.cst (.bl true))], .ret (.op .tuple [.lc [4] (.one 4) (.seq (.var 1)) [] (.op .int [.var 4])])]
abbrev d_order_from : Df := ⟨1, 5, false, b_order_from⟩
def b_text_of_pieces : List IS := [.set (.one 2) (.cst (.str "")), .for_ (.one 3) (.seq (.var 0)) [.set (.one 2) (.fs [.var 2, .var 1, .var 3])], .ret (.or (.sl true false (.var 2) (.op .len [.var 1]) (.cst .non)) (.cst (.str "-")))]
abbrev d_text_of_pieces : Df := ⟨2, 4, false, b_text_of_pieces⟩
def b_pieces : List IS := [.ife (.op .eq [.var 0, .cst (.str "-")]) [.ret (.lst [])] [], .ret (.m1 .split (.var 0) (.var 1))]
abbrev d_pieces : Df := ⟨2, 2, false, b_pieces⟩
def b_is_written_pair : List IS := [.ret (.and (.op .eq [.op .len [.var 0], .cst (.int 2)]) (.op .all [.lc [1] (.one 1) (.seq (.var 0)) [] (.call "is_name" [.var 1])]))]
abbrev d_is_written_pair : Df := ⟨1, 2, false, b_is_written_pair⟩
def b_is_written_number : List IS := [.ife (.or (.op .eq [.var 0, .cst (.str "")]) (.op .not [.op .all [.lc [1] (.one 1) (.seq (.var 0)) [] (.op .in_ [.var 1, .cst (.str "0123456789")])]])) [.ret (.cst (.bl false))] [], .ret (.or (.op .eq [.var 0, .cst (.str "0")]) (.op .not [.m1 .starts (.var 0) (.cst (.str "0"))]))]
abbrev d_is_written_number : Df := ⟨1, 2, false, b_is_written_number⟩
def b_law_box (c : Int) : List IS := [.set (.one 2) (.ite (.op .lt [.var 1, .op .len [.var 0]]) (.op .ix [.var 0, .var 1]) (.cst (.int 0))), .retm (.lst [.op .mul [.op .abs [.var 2], .op .int [.op .ge [.op .abs [.var 2], .op .pow [.cst (.int 10), .cst (.int 18)]]]], .op .add [.op .add [.op .mod [.op .int [.var 2], .cst (.int 2305843009213693951)], .op .mul [.cst (.int 39373), .var 1]], .cst (.int c)], .cst (.int 0)])]
abbrev d_law_box (c : Int) : Df := ⟨2, 3, true, b_law_box c⟩
def b_law_take : List IS := [.ife (.op .gt [.op .ix [.var 0, .cst (.int 0)], .cst (.int 0)]) [.set (.one 2) (.op .mod [.op .int [.op .ix [.var 0, .cst (.int 0)]], .var 1]), .setix (.var 0) (.cst (.int 0)) (.op .fdiv [.op .ix [.var 0, .cst (.int 0)], .var 1]), .ret (.var 2)] [], .setix (.var 0) (.cst (.int 2)) (.op .add [.op .ix [.var 0, .cst (.int 2)], .cst (.int 1)]), .set (.one 3) (.op .mod [.op .int [.op .mul [.op .add [.op .ix [.var 0, .cst (.int 1)], .op .mul [.cst (.int 48271), .op .ix [.var 0, .cst (.int 2)]]], .op .add [.cst (.int 39373), .op .ix [.var 0, .cst (.int 2)]]]], .cst (.int 2147483647)]), .set (.one 4) (.op .add [.op .mod [.op .int [.var 3], .cst (.int 40009)], .cst (.int 7)]), .set (.one 5) (.op .mod [.op .int [.op .mul [.op .add [.op .add [.var 3, .op .ix [.var 0, .cst (.int 2)]], .op .fdiv [.op .ix [.var 0, .cst (.int 1)], .cst (.int 1000003)]], .var 4]], .cst (.int 2147483629)]), .ret (.op .mod [.op .int [.op .fdiv [.op .mod [.op .int [.op .add [.op .mul [.var 5, .cst (.int 48271)], .var 3]], .cst (.int 2147483587)], .cst (.int 64)]], .var 1])]
abbrev d_law_take : Df := ⟨2, 6, false, b_law_take⟩
def b_law_cells : List IS := [.setm 2 (.or (.op .list [.sl false true (.var 0) (.cst .non) (.var 1)]) (.lst [.cst (.int 0)])), .for_ (.tup [3, 4]) (.enu (.sl true true (.var 0) (.var 1) (.cst (.int 63)))) [.set (.one 5) (.op .mod [.op .int [.var 3], .var 1]), .setix (.var 2) (.var 5) (.op .add [.op .ix [.var 2, .var 5], .op .mul [.var 4, .op .add [.var 3, .cst (.int 2)]]])], .ret (.var 2)]
abbrev d_law_cells : Df := ⟨2, 6, false, b_law_cells⟩
def b_law_of : List IS := [.ret (.op .ix [.var 1, .call "_law_take" [.var 0, .op .len [.var 1]]])]
abbrev d_law_of : Df := ⟨2, 2, false, b_law_of⟩
def b_law_pick : List IS := [.set2 3 4 (.newr (.op .list [.var 1])) (.newr (.lst [])), .for_ (.one 5) (.rng1 (.op .min2 [.op .int [.var 2], .op .len [.var 3]])) [.app (.var 4) (.pop1 (.var 3) (.call "_law_take" [.var 0, .op .len [.var 3]]))], .ret (.var 4)]
abbrev d_law_pick : Df := ⟨3, 6, false, b_law_pick⟩
def b_law_same : List IS := [.ife (.op (.isi [.tlist, .ttuple]) [.var 1]) [.ife (.op .ne [.op (.isi [.tlist]) [.var 0], .op (.isi [.tlist]) [.var 1]]) [.ret (.cst (.bl false))] [], .ife (.op .ne [.op (.isi [.ttuple]) [.var 0], .op (.isi [.ttuple]) [.var 1]]) [.ret (.cst (.bl false))] [], .ret (.and (.op .eq [.op .len [.var 0], .op .len [.var 1]]) (.op .all [.lc [2, 3] (.tup [2, 3]) (.zip (.var 0) (.var 1)) [] (.call "_law_same" [.var 2, .var 3])]))] [], .ife (.or (.op .isN [.var 1]) (.op (.isi [.tbool, .tstr]) [.var 1])) [.ret (.and (.op .eq [.var 0, .var 1]) (.and (.op .eq [.op (.isi [.tbool]) [.var 0], .op (.isi [.tbool]) [.var 1]]) (.op .eq [.op .isN [.var 0], .op .isN [.var 1]])))] [], .ret (.and (.op (.isi [.tint]) [.var 0]) (.and (.op .not [.op (.isi [.tbool]) [.var 0]]) (.op .eq [.var 0, .var 1])))]
abbrev d_law_same : Df := ⟨2, 4, false, b_law_same⟩
def b_law_lists : List IS := [.ret (.ite (.op (.isi [.tlist, .ttuple]) [.var 0]) (.lc [1] (.one 1) (.seq (.var 0)) [] (.call "_law_lists" [.var 1])) (.var 0))]
abbrev d_law_lists : Df := ⟨1, 2, false, b_law_lists⟩
def b_law_pairs : List IS := [.setm 2 (.lst []), .for_ (.one 3) (.rng1 (.op .len [.var 1])) [.for_ (.one 4) (.rng1 (.var 3)) [.set (.one 5) (.call "_law_take" [.var 0, .cst (.int 3)]), .ife (.op .gt [.var 5, .cst (.int 0)]) [.app (.var 2) (.ite (.op .eq [.var 5, .cst (.int 1)]) (.tup [.op .ix [.var 1, .var 3], .op .ix [.var 1, .var 4]]) (.tup [.op .ix [.var 1, .var 4], .op .ix [.var 1, .var 3]]))] []]], .ret (.op .tuple [.op .sorted [.var 2]])]
abbrev d_law_pairs : Df := ⟨2, 6, false, b_law_pairs⟩
def b_law_row : List IS := [.ret (.op .tuple [.lc [3] (.one 3) (.rng1 (.call "_law_take" [.var 0, .op .add [.var 2, .cst (.int 1)]])) [] (.call "_law_of" [.var 0, .var 1])])]
abbrev d_law_row : Df := ⟨3, 4, false, b_law_row⟩
def b_tuples : List IS := [.ife (.op (.isi [.tlist, .ttuple]) [.var 0]) [.ret (.op .tuple [.lc [1] (.one 1) (.seq (.var 0)) [] (.call "tuples" [.var 1])])] [], .ret (.var 0)]
abbrev d_tuples : Df := ⟨1, 2, false, b_tuples⟩
def b_is_numbers : List IS := [.ife (.op .not [.op (.isi [.ttuple]) [.var 0]]) [.ret (.cst (.bl false))] [], .ret (.op .all [.lc [1] (.one 1) (.seq (.var 0)) [] (.and (.op (.isi [.tint]) [.var 1]) (.op .not [.op (.isi [.tbool]) [.var 1]]))])]
abbrev d_is_numbers : Df := ⟨1, 2, false, b_is_numbers⟩
def b_lets_person : List IS := [.ret (.call "lets" [.var 0, .op .ix [.var 1, .var 2], .op .ix [.var 1, .var 3]])]
abbrev d_lets_person : Df := ⟨4, 4, false, b_lets_person⟩
def b_all_against : List IS := [.ret (.lc [3] (.one 3) (.seq (.call "turned_about" [.var 2])) [.op .not [.call "lets_person" [.var 0, .var 1, .op .ix [.var 3, .cst (.int 0)], .op .ix [.var 3, .cst (.int 1)]]]] (.var 3))]
abbrev d_all_against : Df := ⟨3, 4, false, b_all_against⟩
def b_can_come : List IS := [.ret (.op .isN [.call "against" [.var 0, .var 1, .var 2]])]
abbrev d_can_come : Df := ⟨3, 3, false, b_can_come⟩
def b_against : List IS := [.set (.one 3) (.call "all_against" [.var 0, .var 1, .var 2]), .ret (.ite (.var 3) (.op .ix [.var 3, .cst (.int 0)]) (.cst .non))]
abbrev d_against : Df := ⟨3, 4, false, b_against⟩
def b_is_against : List IS := [.ret (.and (.call "is_numbers" [.var 3]) (.op .in_ [.var 3, .call "all_against" [.var 0, .var 1, .var 2]]))]
abbrev d_is_against : Df := ⟨4, 4, false, b_is_against⟩
def b_exchanges_to : List IS := [.ret (.op .len [.call "turned_about" [.var 0]])]
abbrev d_exchanges_to : Df := ⟨1, 1, false, b_exchanges_to⟩
def b_law_tags : List IS := [.ret (.call "_law_pick" [.var 0, .lst [.cst (.str "a"), .cst (.str "b"), .cst (.str "cup"), .cst (.str "d"), .cst (.str "zz")], .op .add [.cst (.int 2), .call "_law_take" [.var 0, .op .sub [.var 1, .cst (.int 1)]]]])]
abbrev d_law_tags : Df := ⟨2, 2, false, b_law_tags⟩
def b_law_queue : List IS := [.ret (.op .tuple [.lc [3] (.one 3) (.rng1 (.call "_law_take" [.var 0, .op .add [.var 2, .cst (.int 1)]])) [] (.call "_law_of" [.var 0, .var 1])])]
abbrev d_law_queue : Df := ⟨3, 4, false, b_law_queue⟩
def b_law_next : List IS := [.setm 3 (.lst []), .for_ (.one 4) (.rng1 (.op .sub [.op .len [.var 2], .cst (.int 1)])) [.ife (.op .in_ [.tup [.op .ix [.var 1, .op .ix [.var 2, .var 4]], .op .ix [.var 1, .op .ix [.var 2, .op .add [.var 4, .cst (.int 1)]]]], .var 0]) [.app (.var 3) (.op .add [.op .add [.sl false true (.var 2) (.cst .non) (.var 4), .tup [.op .ix [.var 2, .op .add [.var 4, .cst (.int 1)]], .op .ix [.var 2, .var 4]]], .sl true false (.var 2) (.op .add [.var 4, .cst (.int 2)]) (.cst .non)])] []], .ret (.var 3)]
abbrev d_law_next : Df := ⟨3, 5, false, b_law_next⟩
end PI.C
/-! C1: what many laws share: loops, comprehensions, draws, equality. -/
namespace PI.C
open PySem PySem.Spec PyProof.Rows L2 PI
section
variable {G : Str → Option Gd}
theorem phi_fn {f : Str} {d : Df} (h : G f = some (.fn d)) {k : Nat} (hk : 1 ≤ k) (ws : List W) (μ : Mu) : phi G k f ws μ = callD d (phi G (k - 1)) ws μ := by
  obtain ⟨j, rfl⟩ : ∃ j, k = j + 1 := ⟨k - 1, by omega⟩
  simp only [phi, h, Nat.add_sub_cancel]
theorem phi_exc {f c : Str} {fo : Option (Str × Option Str)} (h : G f = some (.exc c fo)) {k : Nat} (hk : 1 ≤ k) (ws : List W) (μ : Mu) : phi G k f ws μ = excD c fo (phi G (k - 1)) ws μ := by
  obtain ⟨j, rfl⟩ : ∃ j, k = j + 1 := ⟨k - 1, by omega⟩
  simp only [phi, h, Nat.add_sub_cancel]
end
theorem tyEq (a b : Ty) : (a == b) = decide (a = b) := rfl
theorem exB_nx {Φ : Phi} {s : IS} {r : List IS} {ρ ρ' : Env} {μ μ' : Mu} (h : exS Φ s ρ μ = some (.nx ρ', μ')) : exB Φ (s :: r) ρ μ = exB Φ r ρ' μ' := by
  simp only [exB, h]
theorem exB_rt {Φ : Phi} {s : IS} {r : List IS} {ρ : Env} {μ μ' : Mu} {w : W} (h : exS Φ s ρ μ = some (.rt w, μ')) : exB Φ (s :: r) ρ μ = some (.rt w, μ') := by
  simp only [exB, h]
theorem exB_xc {Φ : Phi} {s : IS} {r : List IS} {ρ ρ' : Env} {μ μ' : Mu} {e : D} (h : exS Φ s ρ μ = some (.xc e ρ', μ')) : exB Φ (s :: r) ρ μ = some (.xc e ρ', μ') := by
  simp only [exB, h]
/-! ### loops -/
theorem lop_inv {f : D → Env → Mu → RS} (P : Env → Mu → Prop) : ∀ (xs : List D) (ρ : Env) (μ : Mu), (∀ x ∈ xs, ∀ ρ μ, P ρ μ → ∃ ρ' μ', f x ρ μ = some (.nx ρ', μ') ∧ P ρ' μ') → P ρ μ → ∃ ρ' μ', lop f xs ρ μ = some (.nx ρ', μ') ∧ P ρ' μ'
  | [], ρ, μ, _, h => ⟨ρ, μ, rfl, h⟩
  | x :: xs, ρ, μ, hf, h => by
    obtain ⟨ρ1, μ1, e1, h1⟩ := hf x List.mem_cons_self ρ μ h
    obtain ⟨ρ2, μ2, e2, h2⟩ := lop_inv P xs ρ1 μ1 (fun y hy => hf y (List.mem_cons_of_mem _ hy)) h1
    exact ⟨ρ2, μ2, by simp only [lop, e1, e2], h2⟩
/-- .. with the place: P i holds ahead of the i-th turn -/
theorem lop_ix {f : D → Env → Mu → RS} (P : Nat → Env → Mu → Prop) (n : Nat) : ∀ (xs : List D) (i : Nat) (ρ : Env) (μ : Mu), i + xs.length = n → (∀ j x ρ μ, i ≤ j → xs[j - i]? = some x → P j ρ μ → ∃ ρ' μ', f x ρ μ = some (.nx ρ', μ') ∧ P (j + 1) ρ' μ') → P i ρ μ → ∃ ρ' μ', lop f xs ρ μ = some (.nx ρ', μ') ∧ P n ρ' μ'
  | [], i, ρ, μ, hn, _, h => ⟨ρ, μ, rfl, by simp at hn; subst hn; exact h⟩
  | x :: xs, i, ρ, μ, hn, hf, h => by
    obtain ⟨ρ1, μ1, e1, h1⟩ := hf i x ρ μ (Nat.le_refl _) (by simp) h
    obtain ⟨ρ2, μ2, e2, h2⟩ := lop_ix P n xs (i + 1) ρ1 μ1 (by simp at hn; omega) (fun j y ρ μ hj hy => hf j y ρ μ (by omega) (by
      obtain ⟨m, rfl⟩ : ∃ m, j = i + 1 + m := ⟨j - (i + 1), by omega⟩
      rw [show i + 1 + m - i = m + 1 by omega]
      rw [show i + 1 + m - (i + 1) = m by omega] at hy
      simpa using hy)) h1
    exact ⟨ρ2, μ2, by simp only [lop, e1, e2], h2⟩
/-- over range(n) -/
theorem lop_rng {f : D → Env → Mu → RS} (P : Nat → Env → Mu → Prop) (n : Nat) (ρ : Env) (μ : Mu) (hf : ∀ j ρ μ, j < n → P j ρ μ → ∃ ρ' μ', f (.int (j : Nat)) ρ μ = some (.nx ρ', μ') ∧ P (j + 1) ρ' μ') (h : P 0 ρ μ) :
    ∃ ρ' μ', lop f ((List.range n).map fun j => D.int (0 + (j : Nat))) ρ μ = some (.nx ρ', μ') ∧ P n ρ' μ' :=
  lop_ix P n _ 0 ρ μ (by simp) (fun j x ρ μ _ hx hp => by
    rw [Nat.sub_zero, List.getElem?_map] at hx
    obtain ⟨m, hm, rfl⟩ := Option.map_eq_some_iff.mp hx
    have hj : j < n := by
      have := (List.getElem?_eq_some_iff.mp hm).1
      simpa using this
    have : m = j := by
      rw [List.getElem?_range hj] at hm
      exact (Option.some.inj hm).symm
    subst this
    rw [Int.zero_add]
    exact hf m ρ μ hj hp) h
/-! ### comprehensions -/
def lcF (Φ : Phi) (vs : List Nat) (t : Tg) (cs : List IE) (e : IE) (ρ : Env) (x : D) (m : Mu) : R (Option D) := match t.put x (wipeE ρ vs) with
  | none => none
  | some ρ1 => (evC Φ cs ρ1 m).bind fun b m1 => if b = true then (evE Φ e ρ1 m1).bind fun w m2 => match toD w m2 with
      | none => none
      | some (y, m3) => rok (some y) m3
    else rok none m1
/-- the store may change by S; the element is one of g, if any -/
theorem collect_st {f : D → Mu → R (Option D)} (P : Nat → Mu → List D → Prop) (L : Nat) (hP : ∀ i m acc, P i m acc → m.length = L) : ∀ (xs : List D) (i : Nat) (m : Mu) (acc : List D),
    (∀ j x m acc, i ≤ j → xs[j - i]? = some x → P j m acc → ∃ o m' t, f x (m ++ [.lst acc]) = some (.ok o (m' ++ [.lst acc] ++ t)) ∧ P (j + 1) m' (acc ++ o.toList)) → acc.length + xs.length ≤ lim → P i m acc → ∃ m' acc', collect f L xs (m ++ [.lst acc]) = some (m' ++ [.lst acc']) ∧ P (i + xs.length) m' acc'
  | [], i, m, acc, _, _, h => ⟨m, acc, rfl, h⟩
  | x :: xs, i, m, acc, hf, hl, h => by
    obtain ⟨o, m1, t, e1, h1⟩ := hf i x m acc (Nat.le_refl _) (by simp) h
    have hm1 := hP _ _ _ h1
    have hl1 : acc.length < lim := by
      simp only [List.length_cons] at hl
      omega
    have hrec := collect_st P L hP xs (i + 1) m1 (acc ++ o.toList) (fun j y m acc hj hy => hf j y m acc (by omega) (by
      obtain ⟨n, rfl⟩ : ∃ n, j = i + 1 + n := ⟨j - (i + 1), by omega⟩
      rw [show i + 1 + n - i = n + 1 by omega]
      rw [show i + 1 + n - (i + 1) = n by omega] at hy
      simpa using hy)) (by
        simp only [List.length_cons, List.length_append] at hl ⊢
        cases o <;> simp <;> omega) h1
    obtain ⟨m2, acc2, e2, h2⟩ := hrec
    refine ⟨m2, acc2, ?_, by rw [List.length_cons, show i + (xs.length + 1) = i + 1 + xs.length by omega]; exact h2⟩
    cases o with
    | none =>
      have ht : (m1 ++ [O.lst acc] ++ t).take (L + 1) = m1 ++ [.lst acc] := List.take_left' (by simp [hm1])
      simp only [collect, e1, ht]
      simpa using e2
    | some y =>
      have h2' : (m1 ++ [O.lst acc] ++ t)[L]? = some (.lst acc) := by simp [← hm1]
      have h4 : ((m1 ++ [O.lst acc] ++ t).take (L + 1)).set L (.lst (acc ++ [y])) = m1 ++ [.lst (acc ++ [y])] := by
        rw [List.take_left' (by simp [hm1])]
        simp [← hm1]
      simp only [collect, e1, h2', if_pos hl1, h4]
      simpa using e2
theorem ev_lc {Φ : Phi} {vs : List Nat} {t : Tg} {it : IT} {cs : List IE} {e : IE} {ρ : Env} {μ μ1 : Mu} {xs : List D} (P : Nat → Mu → List D → Prop) (hP : ∀ i m acc, P i m acc → m.length = μ1.length) (ht : evT Φ it ρ μ = some (.ok xs μ1))
    (hf : ∀ j x m acc, xs[j]? = some x → P j m acc → ∃ o m' tl, lcF Φ vs t cs e ρ x (m ++ [.lst acc]) = some (.ok o (m' ++ [.lst acc] ++ tl)) ∧ P (j + 1) m' (acc ++ o.toList)) (hl : xs.length ≤ lim) (h0 : P 0 μ1 []) :
    ∃ m' acc, evE Φ (.lc vs t it cs e) ρ μ = some (.ok (.d (.lst acc)) m') ∧ P xs.length m' acc := by
  obtain ⟨m', acc, e1, h1⟩ := collect_st (f := lcF Φ vs t cs e ρ) P μ1.length hP xs 0 μ1 [] (fun j x m acc _ hx h => hf j x m acc (by simpa using hx) h) (by simpa using hl) h0
  refine ⟨m', acc, ?_, by simpa using h1⟩
  rw [evE, ht]
  show (match collect (lcF Φ vs t cs e ρ) μ1.length xs (μ1 ++ [.lst []]) with
      | none => none
      | some μ2 => match μ2[μ1.length]? with
        | some (.lst ys) => (rok (W.d (.lst ys)) (μ2.take μ1.length) : R W)
        | _ => none) = _
  rw [e1]
  have hm := hP _ _ _ h1
  rw [← hm]
  simp
/-- a comprehension that changes nothing, element by element -/
theorem ev_lc_map {Φ : Phi} {vs : List Nat} {t : Tg} {it : IT} {cs : List IE} {e : IE} {ρ : Env} {μ μ1 : Mu} {xs : List D} (g : D → Option D) (ht : evT Φ it ρ μ = some (.ok xs μ1))
    (hf : ∀ x ∈ xs, ∀ acc, ∃ tl, lcF Φ vs t cs e ρ x (μ1 ++ [.lst acc]) = some (.ok (g x) (μ1 ++ [.lst acc] ++ tl))) (hl : xs.length ≤ lim) :
    evE Φ (.lc vs t it cs e) ρ μ = some (.ok (.d (.lst (xs.filterMap g))) μ1) := by
  obtain ⟨m', acc, e1, rfl, rfl⟩ := ev_lc (fun i m acc => m = μ1 ∧ acc = (xs.take i).filterMap g) (fun i m acc h => by rw [h.1]) ht (fun j x m acc hx h => by
    obtain ⟨rfl, rfl⟩ := h
    obtain ⟨tl, h1⟩ := hf x (List.mem_of_getElem? hx) ((xs.take j).filterMap g)
    refine ⟨g x, m, tl, h1, rfl, ?_⟩
    rw [List.take_succ, hx, List.filterMap_append]
    cases hg : g x <;> simp [hg]) hl ⟨rfl, by simp⟩
  rw [List.take_length] at e1
  exact e1
theorem filterMap_some {α β : Type} (g : α → β) (l : List α) : l.filterMap (fun x => some (g x)) = l.map g := by
  induction l with
  | nil => rfl
  | cons x l ih => simp
theorem rng_ok {Φ : Phi} {a : IE} {ρ : Env} {μ m : Mu} {n : Int} (h : evE Φ a ρ μ = some (.ok (.d (.int n)) m)) (h0 : 0 ≤ n) (h1 : n < 1000000) : evT Φ (.rng1 a) ρ μ = some (.ok ((List.range n.toNat).map fun j => D.int (0 + (j : Nat))) m) := by
  rw [evT, h]
  show (if -(2 ^ 62) ≤ n ∧ n < 2 ^ 62 then (rok ((List.range n.toNat).map fun i => D.int (0 + (i : Nat))) m : R (List D)) else none) = _
  rw [if_pos]
  constructor
  · exact Int.le_trans (by decide) h0
  · exact Int.lt_of_lt_of_le h1 (by decide)
def forF (Φ : Phi) (t : Tg) (b : List IS) (x : D) (r : Env) (m : Mu) : RS := match Tg.put t x r with
  | none => none
  | some r1 => exB Φ b r1 m
theorem forF_put {Φ : Phi} {t : Tg} {b : List IS} {x : D} {r r1 : Env} {m : Mu} (h : Tg.put t x r = some r1) : forF Φ t b x r m = exB Φ b r1 m := by
  rw [forF, h]
theorem exS_for {Φ : Phi} {t : Tg} {b : List IS} {it : IT} {ρ : Env} {μ μ1 : Mu} {xs : List D} (h : evT Φ it ρ μ = some (.ok xs μ1)) : exS Φ (.for_ t it b) ρ μ = lop (forF Φ t b) xs ρ μ1 := by
  simp only [exS, h, R.st]
  rfl
/-! ### draws -/
/-- a box of which n draws can still be made -/
def Bx (n : Nat) (o : O) : Prop := ∃ x y c : Int, o = .lst [.int x, .int y, .int c] ∧ 0 ≤ c ∧ c + n ≤ 1000000000000
theorem Bx.mono {m n : Nat} {o : O} (h : Bx n o) (hm : m ≤ n) : Bx m o := by
  obtain ⟨x, y, c, e, h1, h2⟩ := h
  exact ⟨x, y, c, e, h1, by omega⟩
section
variable {G : Str → Option Gd}
theorem take_ok (hT : G "_law_take" = some (.fn d_law_take)) {k : Nat} (hk : 1 ≤ k) {μ : Mu} {b n : Nat} {o : O} (m : Int) (hb : μ[b]? = some o) (ho : Bx (n + 1) o) (hm : 0 < m) (hm2 : m < 1073741824) :
    ∃ (v : Nat) (o' : O), (v : Int) < m ∧ Bx n o' ∧ phi G k "_law_take" [.r b, .d (.int m)] μ = some (.ok (.d (.int v)) (μ.set b o')) := by
  obtain ⟨x, y, c, rfl, hc, hc2⟩ := ho
  rw [phi_fn hT hk]
  generalize phi G (k - 1) = Φ
  have hl : b < μ.length := (List.getElem?_eq_some_iff.mp hb).1
  by_cases hx : 0 < x
  · refine ⟨(x % m).toNat, .lst [.int (x / m), .int y, .int c], by rw [Int.toNat_of_nonneg (Int.emod_nonneg _ (by omega))]; exact Int.emod_lt_of_pos _ hm, ⟨_, _, _, rfl, hc, by omega⟩, ?_⟩
    rw [Int.toNat_of_nonneg (Int.emod_nonneg _ (by omega))]
    have e : (μ.set b (.lst [.int (x / m), .int y, .int c])).take μ.length = μ.set b (.lst [.int (x / m), .int y, .int c]) := List.take_of_length_le (by simp)
    simp [callD, b_law_take, exB, exS, evE, evL, evT, R.bind, R.st, R.of, views, view, toD, toDs, hb, sem, dCmp, dIx, atI, ixN, truth, hx, hm, hm2, Tg.put, outD, e]
  · have e : (μ.set b (.lst [.int x, .int y, .int (c + 1)])).take μ.length = μ.set b (.lst [.int x, .int y, .int (c + 1)]) := List.take_of_length_le (by simp)
    have m1 : ∀ z, mulOk z (39373 + (c + 1)) = true := fun z => by
      unfold mulOk
      simp only [Bool.or_eq_true, decide_eq_true_eq]
      right
      omega
    have m2 : ∀ z, mulOk 48271 z = true := fun z => rfl
    have m3 : ∀ z, mulOk z 48271 = true := fun z => by
      unfold mulOk
      simp only [Bool.or_eq_true, decide_eq_true_eq]
      right
      omega
    have m4 : ∀ z w, mulOk z (w % 40009 + 7) = true := fun z w => by
      unfold mulOk
      simp only [Bool.or_eq_true, decide_eq_true_eq]
      right
      omega
    have hs : ∀ o, (μ.set b o)[b]? = some o := fun o => List.getElem?_set_self hl
    have key : ∃ z : Int, callD d_law_take Φ [.r b, .d (.int m)] μ = some (.ok (.d (.int (z % m))) (μ.set b (.lst [.int x, .int y, .int (c + 1)]))) := by
      simp [callD, b_law_take, exB, exS, evE, evL, evT, R.bind, R.st, R.of, views, view, toD, toDs, hb, hs, sem, dCmp, dIx, dAdd, dMul, m1, m2, m3, m4, atI, ixN, truth, hx, hm, Tg.put, outD, e]
      exact ⟨_, rfl⟩
    obtain ⟨z, hz⟩ := key
    refine ⟨(z % m).toNat, _, by rw [Int.toNat_of_nonneg (Int.emod_nonneg _ (by omega))]; exact Int.emod_lt_of_pos _ hm, ⟨x, y, c + 1, rfl, by omega, by omega⟩, ?_⟩
    rw [Int.toNat_of_nonneg (Int.emod_nonneg _ (by omega))]
    exact hz
theorem box_ok {C : Int} (hB : G "_law_box" = some (.fn (d_law_box C))) {k : Nat} (hk : 1 ≤ k) (μ : Mu) (cs : List Int) (i : Nat) (hi : i < cs.length) (hi2 : i < 1000) :
    ∃ o, Bx 100000000000 o ∧ phi G k "_law_box" [.d (.lst (cs.map .int)), .d (.int i)] μ = some (.ok (.r μ.length) (μ ++ [o])) := by
  rw [phi_fn hB hk]
  generalize phi G (k - 1) = Φ
  obtain ⟨v, hv⟩ : ∃ v, cs[i] = v := ⟨_, rfl⟩
  have hl : i < (cs.map D.int).length := by simpa using hi
  have h1 : (i : Int) < cs.length := by omega
  have h3 : (cs.map D.int)[i]? = some (D.int v) := by rw [List.getElem?_map, List.getElem?_eq_getElem hi, hv]; rfl
  have h2 : ixN cs.length (i : Int) = some i := by
    unfold ixN
    rw [if_pos (by omega), if_pos h1]
    simp
  have m1 : ∀ z (p : Prop) [Decidable p], mulOk z (if p then 1 else 0) = true := fun z p _ => by
    unfold mulOk
    split <;> simp
  have m2 : mulOk 39373 i = true := rfl
  have key : ∃ x y, callD (d_law_box C) Φ [.d (.lst (cs.map .int)), .d (.int i)] μ = some (.ok (.r μ.length) (μ ++ [.lst [.int x, .int y, .int 0]])) := by
    simp [callD, b_law_box, exB, exS, evE, evL, evT, R.bind, R.st, R.of, views, view, toD, toDs, sem, dCmp, dIx, dAdd, dMul, m1, m2, atI, h2, hv, h1, hi, truth, Tg.put, outD, lim]
  obtain ⟨x, y, h⟩ := key
  exact ⟨_, ⟨x, y, 0, rfl, by omega, by omega⟩, h⟩
theorem ixN_nat {n i : Nat} (h : i < n) : ixN n (i : Int) = some i := by
  unfold ixN
  rw [if_pos (by omega), if_pos (by omega)]
  simp
theorem of_ok (hT : G "_law_take" = some (.fn d_law_take)) (hO : G "_law_of" = some (.fn d_law_of)) {k : Nat} (hk : 2 ≤ k) {μ : Mu} {b n : Nat} {o : O} (gs : List D) (tp : Bool) (hb : μ[b]? = some o) (ho : Bx (n + 1) o) (hg : gs ≠ []) (hg2 : gs.length ≤ 100000) :
    ∃ g ∈ gs, ∃ o', Bx n o' ∧ phi G k "_law_of" [.r b, .d ((if tp = true then D.tup else D.lst) gs)] μ = some (.ok (.d g) (μ.set b o')) := by
  have hp : 0 < gs.length := List.length_pos_iff.mpr hg
  obtain ⟨v, o', h1, h2, h3⟩ := take_ok hT (k := k - 1) (by omega) gs.length hb ho (by omega) (by omega)
  have hv : v < gs.length := by omega
  have hgv : gs[v]? = some gs[v] := List.getElem?_eq_getElem hv
  refine ⟨gs[v], List.getElem_mem hv, o', h2, ?_⟩
  rw [phi_fn hO (by omega)]
  generalize phi G (k - 1) = Φ at h3 ⊢
  have e : (μ.set b o').take μ.length = μ.set b o' := List.take_of_length_le (by simp)
  cases tp <;> simp [callD, b_law_of, exB, exS, evE, evL, R.bind, R.st, R.of, views, view, sem, h3, dIx, atI, ixN_nat hv, hgv, hv, outD, toD, e]
end
end PI.C
/-! C2: equality, sorting, picking, cells. -/
namespace PI.C
open PySem PySem.Spec PyProof.Rows L2 PI
/-! ### values that are the same -/
mutual
def nice : D → Bool
  | .non => true
  | .bl _ => true
  | .int _ => true
  | .str s => PyData.strOk s
  | .tup xs => nices xs && decide (xs.length ≤ 100000)
  | .lst xs => nices xs && decide (xs.length ≤ 100000)
  | _ => false
def nices : List D → Bool
  | [] => true
  | x :: r => nice x && nices r
end
mutual
def dep : D → Nat
  | .tup xs => deps xs + 1
  | .lst xs => deps xs + 1
  | _ => 1
def deps : List D → Nat
  | [] => 0
  | x :: r => max (dep x) (deps r)
end
theorem nices_all : ∀ {xs : List D}, nices xs = true ↔ ∀ x ∈ xs, nice x = true
  | [] => by simp [nices]
  | x :: r => by simp [nices, nices_all (xs := r)]
theorem deps_le {n : Nat} : ∀ {xs : List D}, deps xs ≤ n ↔ ∀ x ∈ xs, dep x ≤ n
  | [] => by simp [deps]
  | x :: r => by
    simp only [deps, List.mem_cons, forall_eq_or_imp, ← deps_le (xs := r)]
    omega
theorem zip_self : ∀ xs : List D, xs.zipWith (fun x y => (D.tup [x, y] : D)) xs = xs.map fun x => .tup [x, x]
  | [] => rfl
  | x :: xs => by simp [zip_self xs]
theorem bools_true : ∀ n : Nat, dBools (List.replicate n (.bl true)) = some (List.replicate n true)
  | 0 => rfl
  | n + 1 => by simp [List.replicate_succ, dBools, bools_true n]
theorem eqv_ok (b : Bool) : dEq (.bl b) (.bl b) = some true := by cases b <;> decide
theorem eqv_non : dEq .non .non = some true := by decide
theorem eqv_int (i : Int) : dEq (.int i) (.int i) = some true := by simp [dEq, D.py, SeqAt.shaped, PyData.eqv, PyData.canLay0, PyData.depth]
theorem eqv_str (i : Str) (h : PyData.strOk i = true) : dEq (.str i) (.str i) = some true := by simp [h, dEq, D.py, SeqAt.shaped, PyData.eqv, PyData.canLay0, PyData.depth]
theorem dEq_int (a b : Int) : dEq (.int a) (.int b) = some (decide (a = b)) := by
  simp [dEq, D.py, SeqAt.shaped, PyData.eqv, PyData.canLay0, PyData.depth]
  rfl
theorem map_const {n : Nat} {xs : List D} (h : xs.length = n) : (xs.map fun _ => D.bl true) = List.replicate n (.bl true) := List.eq_replicate_iff.mpr ⟨by simpa using h, fun b hb => by obtain ⟨_, _, rfl⟩ := List.mem_map.mp hb; rfl⟩
section
variable {G : Str → Option Gd}
theorem same_list (Φ : Phi) (μ : Mu) (xs : List D) (h : ∀ x ∈ xs, ∀ μ, Φ "_law_same" [.d x, .d x] μ = some (.ok (.d (.bl true)) μ)) (hl : xs.length ≤ 100000) (ρ : Env) (a b : Option W) (hr : ρ = [some (.d (.lst xs)), some (.d (.lst xs)), a, b] ∨ ρ = [some (.d (.tup xs)), some (.d (.tup xs)), a, b]) :
    evE Φ (.op .all [.lc [2, 3] (.tup [2, 3]) (.zip (.var 0) (.var 1)) [] (.call "_law_same" [.var 2, .var 3])]) ρ μ = some (.ok (.d (.bl true)) μ) := by
  have ht : evT Φ (.zip (.var 0) (.var 1)) ρ μ = some (.ok (xs.map fun x => D.tup [x, x]) μ) := by
    rcases hr with rfl | rfl <;> simp [evT, evE, R.bind, toD, zip_self]
  have hlc : evE Φ (.lc [2, 3] (.tup [2, 3]) (.zip (.var 0) (.var 1)) [] (.call "_law_same" [.var 2, .var 3])) ρ μ = some (.ok (.d (.lst (List.replicate xs.length (.bl true)))) μ) := by
    rw [ev_lc_map (fun _ => some (.bl true)) ht (fun x hx acc => ?_) (by simp [lim]; omega)]
    · rw [filterMap_some, map_const (n := xs.length) (by simp)]
    · obtain ⟨y, hy, rfl⟩ := List.mem_map.mp hx
      refine ⟨[], ?_⟩
      rcases hr with rfl | rfl <;> simp [lcF, Tg.put, putL, wipeE, evC, evE, evL, R.bind, h y hy, toD]
  rw [evE]
  simp only [evL, hlc, R.bind]
  simp [views, view, sem, bools_true]
mutual
theorem same_ok (hS : G "_law_same" = some (.fn d_law_same)) : ∀ (d : D) (k : Nat) (μ : Mu), nice d = true → dep d ≤ k → phi G k "_law_same" [.d d, .d d] μ = some (.ok (.d (.bl true)) μ)
  | d, 0, μ, h, hk => by cases d <;> simp [dep] at hk
  | d, k + 1, μ, h, hk => by
    rw [phi_fn hS (by omega)]
    show outD false μ.length (exB (phi G k) b_law_same [some (.d d), some (.d d), none, none] μ) = _
    cases d with
    | non => simp (decide := true) [b_law_same, exB, exS, evE, evL, R.bind, R.st, R.of, views, view, sem, dTys, dTy, tyEq, truth, outD, toD, eqv_ok, eqv_non]
    | bl b => simp (decide := true) [b_law_same, exB, exS, evE, evL, R.bind, R.st, R.of, views, view, sem, dTys, dTy, tyEq, truth, outD, toD, eqv_ok]
    | int b => simp (decide := true) [b_law_same, exB, exS, evE, evL, R.bind, R.st, R.of, views, view, sem, dTys, dTy, tyEq, truth, outD, toD, eqv_ok, eqv_int]
    | str b =>
      simp only [nice] at h
      simp (decide := true) [b_law_same, exB, exS, evE, evL, R.bind, R.st, R.of, views, view, sem, dTys, dTy, tyEq, truth, outD, toD, eqv_ok, eqv_str b h]
    | tup xs =>
      simp only [nice, Bool.and_eq_true, decide_eq_true_eq] at h
      have hs := same_list (phi G k) μ xs (fun x hx μ => sames_ok hS xs k μ h.1 (by simp only [dep] at hk; omega) x hx) h.2 [some (.d (.tup xs)), some (.d (.tup xs)), none, none] none none (.inr rfl)
      simp (decide := true) [b_law_same, exB, exS, ↓hs, evE, evL, R.bind, R.st, R.of, views, view, sem, dTys, dTy, tyEq, truth, outD, toD, eqv_ok, eqv_int]
    | lst xs =>
      simp only [nice, Bool.and_eq_true, decide_eq_true_eq] at h
      have hs := same_list (phi G k) μ xs (fun x hx μ => sames_ok hS xs k μ h.1 (by simp only [dep] at hk; omega) x hx) h.2 [some (.d (.lst xs)), some (.d (.lst xs)), none, none] none none (.inl rfl)
      simp (decide := true) [b_law_same, exB, exS, ↓hs, evE, evL, R.bind, R.st, R.of, views, view, sem, dTys, dTy, tyEq, truth, outD, toD, eqv_ok, eqv_int]
    | _ => simp [nice] at h
theorem sames_ok (hS : G "_law_same" = some (.fn d_law_same)) : ∀ (ds : List D) (k : Nat) (μ : Mu), nices ds = true → deps ds ≤ k → ∀ x ∈ ds, phi G k "_law_same" [.d x, .d x] μ = some (.ok (.d (.bl true)) μ)
  | [], k, μ, h, hk, x, hx => by cases hx
  | d :: ds, k, μ, h, hk, x, hx => by
    simp only [nices, Bool.and_eq_true] at h
    simp only [deps] at hk
    rcases List.mem_cons.mp hx with e | hx
    · rw [e]
      exact same_ok hS d k μ h.1 (by omega)
    · exact sames_ok hS ds k μ h.2 (by omega) x hx
end
end
/-! ### sorting -/
section
variable {α : Type} (pe : α → PyData)
def gLe (a b : α) : Bool := !PySem.W.dataLt (pe b) (pe a)
def gIns (x : α) : List α → List α
  | [] => [x]
  | y :: r => if gLe pe x y = true then x :: y :: r else y :: gIns x r
def gSort : List α → List α
  | [] => []
  | x :: r => gIns pe x (gSort r)
variable (enc : α → D)
theorem sIns_map (x : α) : ∀ l : List α, sIns (enc x, pe x) (l.map fun a => (enc a, pe a)) = (gIns pe x l).map fun a => (enc a, pe a)
  | [] => rfl
  | y :: r => by
    simp only [List.map_cons, sIns, gIns]
    by_cases h : gLe pe x y = true
    · rw [if_pos h, if_pos (show sLe (enc x, pe x) (enc y, pe y) = true from h)]
      rfl
    · rw [if_neg h, if_neg (show ¬ sLe (enc x, pe x) (enc y, pe y) = true from h), sIns_map x r]
      rfl
theorem iSort_map : ∀ l : List α, iSort (l.map fun a => (enc a, pe a)) = (gSort pe l).map fun a => (enc a, pe a)
  | [] => rfl
  | x :: r => by
    simp only [List.map_cons, iSort, gSort]
    rw [iSort_map r, sIns_map]
theorem gIns_perm (x : α) : ∀ l, (gIns pe x l).Perm (x :: l)
  | [] => List.Perm.refl _
  | y :: r => by
    unfold gIns
    split
    · exact List.Perm.refl _
    · exact ((gIns_perm x r).cons y).trans (List.Perm.swap x y r)
theorem gSort_perm : ∀ l, (gSort pe l).Perm l
  | [] => List.Perm.refl _
  | x :: r => (gIns_perm pe x _).trans ((gSort_perm r).cons x)
theorem gLe_total : PySem.W.TotalLe (gLe pe) := PySem.W.sortLe_total (PyProof.Rows.listOrd PyProof.Rows.itemOrd) false fun a => PySem.W.keyToks (pe a)
theorem gIns_sorted (x : α) : ∀ l, l.Pairwise (fun a b => gLe pe a b = true) → (gIns pe x l).Pairwise (fun a b => gLe pe a b = true)
  | [], _ => List.pairwise_singleton _ _
  | y :: r, h => by
    obtain ⟨h1, h2⟩ := List.pairwise_cons.mp h
    unfold gIns
    split
    · rename_i hxy
      exact List.pairwise_cons.mpr ⟨fun z hz => by
        rcases List.mem_cons.mp hz with rfl | hz
        · exact hxy
        · exact (gLe_total pe).trans _ _ _ hxy (h1 z hz), h⟩
    · rename_i hxy
      refine List.pairwise_cons.mpr ⟨fun z hz => ?_, gIns_sorted x r h2⟩
      rcases List.mem_cons.mp ((gIns_perm pe x r).mem_iff.mp hz) with rfl | hz
      · rcases (gLe_total pe).total z y with t | t
        · exact absurd t hxy
        · exact t
      · exact h1 z hz
theorem gSort_sorted : ∀ l, (gSort pe l).Pairwise (fun a b => gLe pe a b = true)
  | [] => List.Pairwise.nil
  | x :: r => gIns_sorted pe x _ (gSort_sorted r)
variable {pe enc}
theorem pys_map (hp : ∀ a, (enc a).py = some (pe a)) : ∀ l : List α, pys (l.map enc) = some (l.map pe)
  | [] => rfl
  | x :: r => by simp [pys, hp, pys_map hp r]
theorem zip_encs : ∀ l : List α, (l.map enc).zip (l.map pe) = l.map fun a => (enc a, pe a)
  | [] => rfl
  | x :: r => by simp [zip_encs r]
theorem dSort_map (hp : ∀ a, (enc a).py = some (pe a)) {l : List α} (ok : sortOk (l.map pe) = true) (hl : l.length ≤ 100000) : dSort (l.map enc) = some (.lst ((gSort pe l).map enc)) := by
  unfold dSort
  rw [pys_map hp]
  simp only [ok, Bool.true_and, List.length_map, zip_encs, iSort_map]
  rw [if_pos (decide_eq_true (show l.length ≤ lim from hl)), List.map_map]
  rfl
end
theorem ok_str (l : List Str) : sortOk (l.map PyData.str) = true := by
  simp [sortOk, PySem.W.alike, noTup, PyData.depth]
theorem ok_int (l : List Int) : sortOk (l.map PyData.int) = true := by
  simp [sortOk, PySem.W.alike, noTup, PyData.depth]
theorem ok_pair (l : List (Str × Str)) : sortOk (l.map fun p => PyData.tuple [.str p.1, .str p.2]) = true := by
  simp [sortOk, PySem.W.alike, PySem.W.alikeAll, neTup, PyData.depth, PyData.depthAll]
theorem sort_str (l : List Str) (hl : l.length ≤ 100000) : dSort (l.map .str) = some (.lst ((gSort PyData.str l).map .str)) := dSort_map (fun _ => rfl) (ok_str l) hl
abbrev pD (p : Str × Str) : D := .tup [.str p.1, .str p.2]
abbrev pP (p : Str × Str) : PyData := .tuple [.str p.1, .str p.2]
theorem sort_pair (l : List (Str × Str)) (hl : l.length ≤ 100000) : dSort (l.map pD) = some (.lst ((gSort pP l).map pD)) := dSort_map (fun _ => rfl) (ok_pair l) hl
/-! ### picking -/
theorem perm_erase {α : Type} : ∀ (l : List α) (v : Nat) (h : v < l.length), (l[v] :: l.eraseIdx v).Perm l
  | x :: l, 0, _ => List.Perm.refl _
  | x :: l, v + 1, h => by
    have ih := perm_erase l v (by simpa using h)
    exact (List.Perm.swap x _ _).trans (ih.cons x)
theorem set_self {α : Type} {μ : List α} {b : Nat} {o : α} (h : μ[b]? = some o) : μ.set b o = μ := by
  obtain ⟨h1, h2⟩ := List.getElem?_eq_some_iff.mp h
  rw [← h2]
  exact List.set_getElem_self h1
section
variable {G : Str → Option Gd}
theorem pick_ok (hT : G "_law_take" = some (.fn d_law_take)) (hP : G "_law_pick" = some (.fn d_law_pick)) {k : Nat} (hk : 2 ≤ k) {μ : Mu} {b n : Nat} {o : O} (gs : List D) (c : Nat) (hb : μ[b]? = some o) (ho : Bx (n + c) o) (hg2 : gs.length ≤ 1000) :
    ∃ (fs rs : List D) (o' : O), (fs ++ rs).Perm gs ∧ fs.length = min c gs.length ∧ Bx n o' ∧ phi G k "_law_pick" [.r b, .d (.lst gs), .d (.int c)] μ = some (.ok (.d (.lst fs)) (μ.set b o')) := by
  have hbl : b < μ.length := (List.getElem?_eq_some_iff.mp hb).1
  have step : ∀ j ρ m, j < min c gs.length → (∃ (fs rs : List D) (o1 : O) (a : Option W), ρ = [some (.r b), some (.d (.lst gs)), some (.d (.int c)), some (.r μ.length), some (.r (μ.length + 1)), a] ∧ m = μ.set b o1 ++ [.lst rs, .lst fs] ∧ (fs ++ rs).Perm gs ∧ fs.length = j ∧ Bx (n + (c - j)) o1) →
      ∃ ρ' m', (match Tg.put (.one 5) (.int (j : Nat)) ρ with
        | none => none
        | some r1 => exB (phi G (k - 1)) [.app (.var 4) (.pop1 (.var 3) (.call "_law_take" [.var 0, .op .len [.var 3]]))] r1 m) = some (.nx ρ', m') ∧
      ∃ (fs rs : List D) (o1 : O) (a : Option W), ρ' = [some (.r b), some (.d (.lst gs)), some (.d (.int c)), some (.r μ.length), some (.r (μ.length + 1)), a] ∧ m' = μ.set b o1 ++ [.lst rs, .lst fs] ∧ (fs ++ rs).Perm gs ∧ fs.length = j + 1 ∧ Bx (n + (c - (j + 1))) o1 := by
    rintro j ρ m hj ⟨fs, rs, o1, a, rfl, rfl, hp, hf, h1⟩
    have hlen := hp.length_eq
    rw [List.length_append] at hlen
    have hr : 0 < rs.length := by omega
    have hb1 : (μ.set b o1 ++ [O.lst rs, O.lst fs])[b]? = some o1 := by
      rw [List.getElem?_append_left (by simpa using hbl), List.getElem?_set_self hbl]
    obtain ⟨v, o2, t1, t2, t3⟩ := take_ok hT (k := k - 1) (by omega) (n := n + (c - (j + 1))) (rs.length : Nat) hb1 (by rw [show n + (c - (j + 1)) + 1 = n + (c - j) by omega]; exact h1) (by omega) (by omega)
    have hs : (μ.set b o1 ++ [O.lst rs, O.lst fs]).set b o2 = μ.set b o2 ++ [O.lst rs, O.lst fs] := by
      rw [List.set_append_left _ _ (by simpa using hbl), List.set_set]
    rw [hs] at t3
    generalize phi G (k - 1) = Φ at t3 ⊢
    have hv : v < rs.length := by omega
    have g1 : ∀ o', (μ.set b o' ++ [O.lst rs, O.lst fs])[μ.length]? = some (.lst rs) := fun o' => by
      rw [List.getElem?_append_right (by simp)]
      simp
    have g2 : ∀ (o' : O) (xs : List D), (μ.set b o' ++ [O.lst xs, O.lst fs])[μ.length + 1]? = some (.lst fs) := fun o' xs => by
      rw [List.getElem?_append_right (by simp)]
      simp
    have gv : rs[v]? = some rs[v] := List.getElem?_eq_getElem hv
    have s1 : ∀ (o' : O) (xs : List D), (μ.set b o' ++ [O.lst rs, O.lst fs]).set μ.length (.lst xs) = μ.set b o' ++ [O.lst xs, O.lst fs] := fun o' xs => by
      rw [List.set_append_right _ _ (by simp)]
      simp
    have s2 : ∀ (o' : O) (xs ys : List D), (μ.set b o' ++ [O.lst xs, O.lst fs]).set (μ.length + 1) (.lst ys) = μ.set b o' ++ [O.lst xs, O.lst ys] := fun o' xs ys => by
      rw [List.set_append_right _ _ (by simp)]
      simp
    have b1 : -(2 ^ 63) ≤ (v : Int) ∧ (v : Int) < 2 ^ 63 := ⟨by omega, by omega⟩
    refine ⟨[some (.r b), some (.d (.lst gs)), some (.d (.int c)), some (.r μ.length), some (.r (μ.length + 1)), some (.d (.int j))], μ.set b o2 ++ [O.lst (rs.eraseIdx v), O.lst (fs ++ [rs[v]])], ?_, fs ++ [rs[v]], rs.eraseIdx v, o2, some (.d (.int j)), rfl, rfl, ?_, by simp [hf], t2⟩
    · simp only [Tg.put, exB, exS, evE, evL, R.bind, R.st, rok, views, view, sem, List.getElem?_cons_succ, List.getElem?_cons_zero, List.set_cons_succ, List.set_cons_zero, g1, g2, t3, b1, and_self, if_true, ixN_nat hv, gv, s1, toD, s2]
      rw [if_pos (by simp only [lim]; omega)]
    · have q : (rs[v] :: rs.eraseIdx v).Perm rs := by
        exact perm_erase rs v hv
      rw [List.append_assoc]
      exact (List.Perm.append_left fs q).trans hp
  obtain ⟨ρ', m', e1, fs, rs, o1, a, rfl, rfl, hp, hf, h1⟩ := lop_rng (f := fun x r m => match Tg.put (.one 5) x r with
      | none => none
      | some r1 => exB (phi G (k - 1)) [.app (.var 4) (.pop1 (.var 3) (.call "_law_take" [.var 0, .op .len [.var 3]]))] r1 m) (fun j ρ m => ∃ (fs rs : List D) (o1 : O) (a : Option W), ρ = [some (.r b), some (.d (.lst gs)), some (.d (.int c)), some (.r μ.length), some (.r (μ.length + 1)), a] ∧ m = μ.set b o1 ++ [.lst rs, .lst fs] ∧ (fs ++ rs).Perm gs ∧ fs.length = j ∧ Bx (n + (c - j)) o1) (min c gs.length) [some (.r b), some (.d (.lst gs)), some (.d (.int c)), some (.r μ.length), some (.r (μ.length + 1)), none] (μ ++ [.lst gs, .lst []]) step
    ⟨[], gs, o, none, rfl, by rw [set_self hb], List.Perm.refl _, rfl, by rw [Nat.sub_zero]; exact ho⟩
  refine ⟨fs, rs, o1, hp, hf, h1.mono (by omega), ?_⟩
  rw [phi_fn hP (by omega)]
  have ht : evT (phi G (k - 1)) (.rng1 (.op .min2 [.op .int [.var 2], .op .len [.var 3]])) [some (.r b), some (.d (.lst gs)), some (.d (.int c)), some (.r μ.length), some (.r (μ.length + 1)), none] (μ ++ [.lst gs, .lst []]) = some (.ok ((List.range (min c gs.length)).map fun j => D.int (0 + (j : Nat))) (μ ++ [.lst gs, .lst []])) := by
    have := rng_ok (Φ := phi G (k - 1)) (a := .op .min2 [.op .int [.var 2], .op .len [.var 3]]) (ρ := [some (.r b), some (.d (.lst gs)), some (.d (.int c)), some (.r μ.length), some (.r (μ.length + 1)), none]) (μ := μ ++ [.lst gs, .lst []]) (m := μ ++ [.lst gs, .lst []]) (n := ((min c gs.length : Nat) : Int)) (by
      generalize phi G (k - 1) = Φ
      have g1 : (μ ++ [O.lst gs, O.lst []])[μ.length]? = some (.lst gs) := by simp
      simp only [evE, evL, R.bind, rok, views, view, sem, List.getElem?_cons_succ, List.getElem?_cons_zero, g1]
      congr 5
      split <;> omega) (by omega) (by omega)
    rw [Int.toNat_natCast] at this
    exact this
  generalize phi G (k - 1) = Φ at e1 ht ⊢
  show outD false μ.length (exB Φ [.set2 3 4 (.newr (.op .list [.var 1])) (.newr (.lst [])), .for_ (.one 5) (.rng1 (.op .min2 [.op .int [.var 2], .op .len [.var 3]])) [.app (.var 4) (.pop1 (.var 3) (.call "_law_take" [.var 0, .op .len [.var 3]]))], .ret (.var 4)] [some (.r b), some (.d (.lst gs)), some (.d (.int c)), none, none, none] μ) = _
  have q1 : exS Φ (.set2 3 4 (.newr (.op .list [.var 1])) (.newr (.lst []))) [some (.r b), some (.d (.lst gs)), some (.d (.int c)), none, none, none] μ = some (.nx [some (.r b), some (.d (.lst gs)), some (.d (.int c)), some (.r μ.length), some (.r (μ.length + 1)), none], μ ++ [.lst gs, .lst []]) := by
    simp [exS, evE, evL, R.bind, R.st, views, view, sem, toO, toDs, lim]
  rw [exB_nx q1]
  have q2 : exS Φ (.for_ (.one 5) (.rng1 (.op .min2 [.op .int [.var 2], .op .len [.var 3]])) [.app (.var 4) (.pop1 (.var 3) (.call "_law_take" [.var 0, .op .len [.var 3]]))]) [some (.r b), some (.d (.lst gs)), some (.d (.int c)), some (.r μ.length), some (.r (μ.length + 1)), none] (μ ++ [.lst gs, .lst []]) = some (.nx [some (.r b), some (.d (.lst gs)), some (.d (.int c)), some (.r μ.length), some (.r (μ.length + 1)), a], μ.set b o1 ++ [.lst rs, .lst fs]) := by
    simp only [exS, ht, R.st]
    exact e1
  rw [exB_nx q2]
  have g2 : (μ.set b o1 ++ [O.lst rs, O.lst fs])[μ.length + 1]? = some (.lst fs) := by
    rw [List.getElem?_append_right (by simp)]
    simp
  simp [exB, exS, evE, R.st, outD, toD, g2, List.set_append_right]
end
end PI.C
/-! C3: the cells; the law's last steps. -/
namespace PI.C
open PySem PySem.Spec PyProof.Rows L2 PI
def cellB : List IS := match b_law_cells with
  | [_, .for_ _ _ b, _] => b
  | _ => []
def rhoC (s : List D) (b : Nat) (a c d : Option W) : Env := [some (.d (.scr s)), some (.d (.int 3)), some (.r b), a, c, d]
theorem cell_turn (Φ : Phi) (s : List D) (μ : Mu) (cs : List Int) (a c d : Option W) (i : Nat) (v : Int) (hcs : cs.length = 3) (hi : i < 1000) :
    ∃ (cs' : List Int) (a c d : Option W), exB Φ cellB (rhoC s μ.length (some (.d (.int i))) (some (.d (.int v))) d) (μ ++ [.lst (cs.map .int)]) = some (.nx (rhoC s μ.length a c d), μ ++ [.lst (cs'.map .int)]) ∧ cs'.length = 3 := by
  have hm : ((i : Int) % 3) = ((i % 3 : Nat) : Int) := by omega
  have hlt : i % 3 < 3 := Nat.mod_lt _ (by omega)
  have hg : (cs.map D.int)[i % 3]? = some (.int cs[i % 3]) := by
    rw [List.getElem?_map, List.getElem?_eq_getElem (by omega)]
    rfl
  have hx : ixN (cs.map D.int).length ((i % 3 : Nat) : Int) = some (i % 3) := by
    unfold ixN
    have l3 : (cs.map D.int).length = 3 := by simp [hcs]
    rw [l3, if_pos (by omega), if_pos (by omega), Int.toNat_natCast]
  have m1 : mulOk v ((i : Int) + 2) = true := by
    unfold mulOk
    simp only [Bool.or_eq_true, decide_eq_true_eq]
    right
    omega
  have hk : (μ ++ [O.lst (cs.map D.int)])[μ.length]? = some (.lst (cs.map D.int)) := by simp
  obtain ⟨z, hz⟩ : ∃ z, cs[i % 3]'(by omega) = z := ⟨_, rfl⟩
  rw [hz] at hg
  refine ⟨cs.set (i % 3) (z + v * ((i : Int) + 2)), some (.d (.int i)), some (.d (.int v)), some (.d (.int ((i % 3 : Nat) : Int))), ?_, by simp [hcs]⟩
  have hset : (μ ++ [O.lst (cs.map D.int)]).set μ.length (.lst ((cs.map D.int).set (i % 3) (.int (z + v * ((i : Int) + 2))))) = μ ++ [.lst ((cs.set (i % 3) (z + v * ((i : Int) + 2))).map D.int)] := by
    rw [List.map_set]
    simp
  rw [← hset]
  generalize μ ++ [O.lst (cs.map D.int)] = M at hk ⊢
  generalize cs.map D.int = C at hg hx hk ⊢
  simp only [cellB, b_law_cells, rhoC, exB, exS, evE, evL, R.bind, R.st, R.of, rok, views, view, sem, hm, dIx, atI, dAdd, dMul, m1, hx, hg, hk, toD, List.getElem?_cons_succ, List.getElem?_cons_zero, Option.bind_some, List.set_cons_succ, List.set_cons_zero, if_true, Int.reduceLT, reduceIte]

theorem mem_enum {ys : List D} {x : D} (h : x ∈ (List.range ys.length).zipWith (fun i x => D.tup [.int (i : Nat), x]) ys) : ∃ i v, i < ys.length ∧ v ∈ ys ∧ x = .tup [.int (i : Nat), v] := by
  obtain ⟨j, hj, rfl⟩ := List.mem_iff_getElem.mp h
  have hj2 : j < ys.length := by simpa using hj
  exact ⟨j, ys[j], hj2, List.getElem_mem hj2, by simp⟩
theorem cells_ok {G : Str → Option Gd} (hC : G "_law_cells" = some (.fn d_law_cells)) {k : Nat} (hk : 1 ≤ k) (μ : Mu) (ns : List Int) (hn : ns.length ≤ 63) : ∃ cs : List Int, cs ≠ [] ∧ cs.length ≤ 3 ∧ phi G k "_law_cells" [.d (.scr (ns.map .int)), .d (.int 3)] μ = some (.ok (.d (.lst (cs.map .int))) μ) := by
  rw [phi_fn hC hk]
  generalize phi G (k - 1) = Φ
  have hA : evE Φ (.sl false true (.var 0) (.cst .non) (.var 1)) [some (.d (.scr (ns.map .int))), some (.d (.int 3)), none, none, none, none] μ = some (.ok (.d (.lst ((ns.take 3).map .int))) μ) := by
    have e : HT.sIx ns.length ns.length (some 3) = min 3 ns.length := HT.sIx_nat _ _ 3
    simp [evE, R.bind, R.of, toI, view, dCut, HT.sIx_none, e, List.map_take]
  obtain ⟨init, i1, i2, i3, hI⟩ : ∃ init : List Int, init ≠ [] ∧ init.length ≤ 3 ∧ (3 ≤ ns.length → init.length = 3) ∧ exS Φ (.setm 2 (.or (.op .list [.sl false true (.var 0) (.cst .non) (.var 1)]) (.lst [.cst (.int 0)]))) [some (.d (.scr (ns.map .int))), some (.d (.int 3)), none, none, none, none] μ = some (.nx (rhoC (ns.map .int) μ.length none none none), μ ++ [.lst (init.map .int)]) := by
    cases ns with
    | nil =>
      refine ⟨[0], by simp, by simp, by simp, ?_⟩
      simp only [exS, evE, evL, ↓hA, R.bind, R.st, views, view, sem, truth]
      simp [truth, toDs, toD, lim, rhoC]
    | cons n ns =>
      refine ⟨(n :: ns).take 3, by simp, by simp; omega, fun h => by simp at h ⊢; omega, ?_⟩
      simp only [exS, evE, evL, ↓hA, R.bind, R.st, views, view, sem, truth]
      simp [truth, rhoC]
  have hB : ∃ ys : List D, ys.length ≤ 63 ∧ (∀ y ∈ ys, ∃ v, y = .int v) ∧ (ns.length < 3 → ys = []) ∧ ∀ m, evT Φ (.enu (.sl true true (.var 0) (.var 1) (.cst (.int 63)))) (rhoC (ns.map .int) μ.length none none none) m = some (.ok ((List.range ys.length).zipWith (fun i x => D.tup [.int (i : Nat), x]) ys) m) := by
    refine ⟨((ns.map D.int).drop (HT.sIx (ns.map D.int).length 0 (some 3))).take (HT.sIx (ns.map D.int).length (ns.map D.int).length (some 63) - HT.sIx (ns.map D.int).length 0 (some 3)), ?_, fun y hy => ?_, fun h => ?_, fun m => ?_⟩
    · simp only [List.length_take, List.length_drop, List.length_map]
      omega
    · have := List.mem_of_mem_drop (List.mem_of_mem_take hy)
      obtain ⟨v, _, rfl⟩ := List.mem_map.mp this
      exact ⟨v, rfl⟩
    · have e : HT.sIx (ns.map D.int).length 0 (some 3) = min 3 (ns.map D.int).length := HT.sIx_nat _ _ 3
      rw [e, List.drop_eq_nil_of_le (by simp; omega)]
      simp
    · simp only [evT, evE, R.bind, rhoC, List.getElem?_cons_succ, List.getElem?_cons_zero, toI, rok, view, dCut, R.of, Option.bind_some, Option.map_some, toD, if_true]
  obtain ⟨ys, y1, y2, y3, hB⟩ := hB
  have step : ∀ x ∈ (List.range ys.length).zipWith (fun i x => D.tup [.int (i : Nat), x]) ys, ∀ ρ m, (∃ (cs : List Int) (a c d : Option W), cs.length = 3 ∧ ρ = rhoC (ns.map .int) μ.length a c d ∧ m = μ ++ [.lst (cs.map .int)]) → ∃ ρ' m', (match Tg.put (.tup [3, 4]) x ρ with
      | none => none
      | some r1 => exB Φ cellB r1 m) = some (.nx ρ', m') ∧ ∃ (cs : List Int) (a c d : Option W), cs.length = 3 ∧ ρ' = rhoC (ns.map .int) μ.length a c d ∧ m' = μ ++ [.lst (cs.map .int)] := by
    intro x hx ρ m hp
    obtain ⟨cs, a, c, d, hl, rfl, rfl⟩ := hp
    obtain ⟨i, v, hi, hv, rfl⟩ := mem_enum hx
    obtain ⟨v, rfl⟩ := y2 v hv
    obtain ⟨cs', a', c', d', e, hl'⟩ := cell_turn Φ (ns.map .int) μ cs a c d i v hl (by omega)
    exact ⟨_, _, e, cs', a', c', d', hl', rfl, rfl⟩
  have hL : ∃ (cs : List Int) (a c d : Option W), cs ≠ [] ∧ cs.length ≤ 3 ∧ exS Φ (.for_ (.tup [3, 4]) (.enu (.sl true true (.var 0) (.var 1) (.cst (.int 63)))) cellB) (rhoC (ns.map .int) μ.length none none none) (μ ++ [.lst (init.map .int)]) = some (.nx (rhoC (ns.map .int) μ.length a c d), μ ++ [.lst (cs.map .int)]) := by
    by_cases h3 : ns.length < 3
    · have := y3 h3
      subst this
      refine ⟨init, none, none, none, i1, i2, ?_⟩
      simp only [exS, hB, R.st]
      rfl
    · obtain ⟨ρ', m', e, cs, a, c, d, hl, rfl, rfl⟩ := lop_inv _ _ _ _ step ⟨init, none, none, none, i3 (by omega), rfl, rfl⟩
      refine ⟨cs, a, c, d, (fun z => by rw [z] at hl; cases hl), by omega, ?_⟩
      simp only [exS, hB, R.st]
      exact e
  obtain ⟨cs, a, c, d, c1, c2, hL⟩ := hL
  refine ⟨cs, c1, c2, ?_⟩
  show outD false μ.length (exB Φ [.setm 2 (.or (.op .list [.sl false true (.var 0) (.cst .non) (.var 1)]) (.lst [.cst (.int 0)])), .for_ (.tup [3, 4]) (.enu (.sl true true (.var 0) (.var 1) (.cst (.int 63)))) cellB, .ret (.var 2)] [some (.d (.scr (ns.map .int))), some (.d (.int 3)), none, none, none, none] μ) = _
  rw [exB_nx hI, exB_nx hL]
  simp [exB, exS, evE, R.st, rhoC, outD, toD]

/-! ### the law -/
section
variable {G : Str → Option Gd}
def lawE : IE := .lc [2] (.one 2) (.rng1 (.op .len [.var 1])) [] (.call "_law_right" [.call "_law_box" [.var 1, .var 2]])
theorem all_true (Φ : Phi) (e : IE) (ρ : Env) (μ m : Mu) (n : Nat) (h : evE Φ e ρ μ = some (.ok (.d (.lst (List.replicate n (.bl true)))) m)) : evE Φ (.op .all [e]) ρ μ = some (.ok (.d (.bl true)) m) := by
  rw [evE]
  simp only [evL, h, R.bind]
  simp [views, view, sem, bools_true]
/-- all turns of a law are right -/
theorem turns_ok {C : Int} (hB : G "_law_box" = some (.fn (d_law_box C))) {k N : Nat} (hk : 1 ≤ k) (hN : N ≤ 100000000000) (hR : ∀ (μ : Mu) (b : Nat) (o : O), μ[b]? = some o → Bx N o → ∃ o', phi G k "_law_right" [.r b] μ = some (.ok (.d (.bl true)) (μ.set b o'))) (s : W) (cs : List Int) (hc : cs.length ≤ 3) :
    evE (phi G k) (.op .all [lawE]) [some s, some (.d (.lst (cs.map .int))), none] [] = some (.ok (.d (.bl true)) []) := by
  refine all_true _ _ _ _ _ cs.length ?_
  have ht : evT (phi G k) (.rng1 (.op .len [.var 1])) [some s, some (.d (.lst (cs.map .int))), none] [] = some (.ok ((List.range cs.length).map fun j => D.int (0 + (j : Nat))) []) := by
    have := rng_ok (Φ := phi G k) (a := .op .len [.var 1]) (ρ := [some s, some (.d (.lst (cs.map .int))), none]) (μ := []) (m := []) (n := cs.length) (by
      generalize phi G k = Φ
      simp [evE, evL, R.bind, views, view, sem]) (by omega) (by omega)
    rw [this, Int.toNat_natCast]
  rw [lawE, ev_lc_map (fun _ => some (.bl true)) ht (fun x hx acc => ?_) (by simp [lim]; omega)]
  · rw [filterMap_some, map_const (n := cs.length) (by simp)]
  · obtain ⟨j, hj, rfl⟩ := List.mem_map.mp hx
    have hj : j < cs.length := by simpa using hj
    obtain ⟨o, ho, hb⟩ := box_ok hB hk [.lst acc] cs j hj (by omega)
    obtain ⟨o', hr⟩ := hR ([.lst acc] ++ [o]) 1 o (by simp) (ho.mono hN)
    refine ⟨[o'], ?_⟩
    simp only [List.length_cons, List.length_nil] at hb
    have hr2 : phi G k "_law_right" [.r 1] [.lst acc, o] = some (.ok (.d (.bl true)) [.lst acc, o']) := hr
    generalize phi G k = Φ at hb hr2 ⊢
    simp [lcF, Tg.put, wipeE, evC, evE, evL, R.bind, hb, hr2, toD]
def b_lawA : List IS := [.set (.one 1) (.call "_law_cells" [.var 0, .cst (.int 3)]), .ret (.and (.call "_law_by_hand_right" []) (.op .all [lawE]))]
/-- a law of the form: by hand, and all turns -/
theorem lawA_ok {C : Int} (hL : G "law" = some (.fn ⟨1, 3, false, b_lawA⟩)) (hC : G "_law_cells" = some (.fn d_law_cells)) (hB : G "_law_box" = some (.fn (d_law_box C))) {k N : Nat} (hk : 2 ≤ k) (hN : N ≤ 100000000000)
    (hH : phi G (k - 1) "_law_by_hand_right" [] [] = some (.ok (.d (.bl true)) []))
    (hR : ∀ (μ : Mu) (b : Nat) (o : O), μ[b]? = some o → Bx N o → ∃ o', phi G (k - 1) "_law_right" [.r b] μ = some (.ok (.d (.bl true)) (μ.set b o'))) (ns : List Int) (hn : ns.length ≤ 63) :
    phi G k "law" [.d (.scr (ns.map .int))] [] = some (.ok (.d (.bl true)) []) := by
  rw [phi_fn hL (by omega)]
  obtain ⟨cs, c1, c2, c3⟩ := cells_ok hC (k := k - 1) (by omega) [] ns hn
  have ht := turns_ok hB (k := k - 1) (by omega) hN hR (.d (.scr (ns.map .int))) cs c2
  generalize phi G (k - 1) = Φ at c3 ht hH ⊢
  show outD false 0 (exB Φ [.set (.one 1) (.call "_law_cells" [.var 0, .cst (.int 3)]), .ret (.and (.call "_law_by_hand_right" []) (.op .all [lawE]))] [some (.d (.scr (ns.map .int))), none, none] []) = _
  have q1 : exS Φ (.set (.one 1) (.call "_law_cells" [.var 0, .cst (.int 3)])) [some (.d (.scr (ns.map .int))), none, none] [] = some (.nx [some (.d (.scr (ns.map .int))), some (.d (.lst (cs.map .int))), none], []) := by
    simp [exS, evE, evL, R.bind, R.st, c3]
  rw [exB_nx q1]
  generalize IE.op Op.all [lawE] = E at ht ⊢
  simp [exB, exS, evE, evL, R.bind, R.st, hH, ht, view, truth, outD, toD]
end
end PI.C
/-! C4: names, pieces, pairs read back. -/
namespace PI.C
open PySem PySem.Spec PyProof.Rows L2 PI
def LET : Str := "abcdefghijklmnopqrstuvwxyz"
theorem dIn_sign (c : Nat) (z : Str) : dIn (.str ⟨#[c]⟩) (.str z) = some (decide (c ∈ z.cps.toList)) := by
  simp only [dIn]
  rw [StrLaws.found_one]
theorem let_list : LET.cps.toList = [97, 98, 99, 100, 101, 102, 103, 104, 105, 106, 107, 108, 109, 110, 111, 112, 113, 114, 115, 116, 117, 118, 119, 120, 121, 122] := by decide +kernel
theorem mem_let (c : Nat) : decide (c ∈ LET.cps.toList) = decide (97 ≤ c ∧ c ≤ 122) := by
  rw [let_list]
  congr 1
  simp only [List.mem_cons, List.not_mem_nil, or_false, eq_iff_iff]
  omega
theorem dBools_map {α : Type} (f : α → Bool) : ∀ l : List α, dBools (l.map fun x => D.bl (f x)) = some (l.map f)
  | [] => rfl
  | x :: r => by simp [dBools, dBools_map f r]
theorem all_map {α : Type} {Φ : Phi} {e : IE} {ρ : Env} {μ m : Mu} (f : α → Bool) (l : List α) (h : evE Φ e ρ μ = some (.ok (.d (.lst (l.map fun x => D.bl (f x)))) m)) : evE Φ (.op .all [e]) ρ μ = some (.ok (.d (.bl (l.all f))) m) := by
  rw [evE]
  simp only [evL, h, R.bind]
  have : (List.map f l).all id = l.all f := by rw [List.all_map]; rfl
  simp [views, view, sem, dBools_map, this]
def nmB (s : Str) : Bool := decide (1 ≤ s.length ∧ s.length ≤ 8) && s.cps.toList.all fun c => decide (97 ≤ c ∧ c ≤ 122)
theorem nm_ok {s : Str} (h : nmB s = true) : 1 ≤ s.length ∧ s.length ≤ 8 ∧ ∀ c ∈ s.cps.toList, 97 ≤ c ∧ c ≤ 122 := by
  unfold nmB at h
  simp only [Bool.and_eq_true, decide_eq_true_eq, List.all_eq_true] at h
  exact ⟨h.1.1, h.1.2, h.2⟩
theorem nm_strOk {s : Str} (h : nmB s = true) : PyData.strOk s = true := by
  obtain ⟨_, _, h3⟩ := nm_ok h
  unfold PyData.strOk
  rw [Array.all_eq_true']
  intro c hc
  have := h3 c (by simpa using hc)
  simp
  omega
section
variable {G : Str → Option Gd}
theorem is_name_ok (hN : G "is_name" = some (.fn d_is_name)) {k : Nat} (hk : 1 ≤ k) (μ : Mu) (s : Str) (hs : s.length ≤ lim) : phi G k "is_name" [.d (.str s)] μ = some (.ok (.d (.bl (nmB s))) μ) := by
  rw [phi_fn hN hk]
  generalize phi G (k - 1) = Φ
  show outD false μ.length (exB Φ b_is_name [some (.d (.str s)), none] μ) = _
  have hl : ∀ ρ : Env, ρ = [some (.d (.str s)), none] → evE Φ (.lc [1] (.one 1) (.seq (.var 0)) [] (.op .in_ [.var 1, .cst (.str "abcdefghijklmnopqrstuvwxyz")])) ρ μ = some (.ok (.d (.lst (s.cps.toList.map fun c => .bl (decide (97 ≤ c ∧ c ≤ 122))))) μ) := by
    intro ρ hρ
    subst hρ
    have ht : evT Φ (.seq (.var 0)) [some (.d (.str s)), none] μ = some (.ok (s.cps.toList.map fun c => D.str ⟨#[c]⟩) μ) := by
      simp [evT, evE, R.bind, seqW, dSeq, hs]
    rw [ev_lc_map (fun x => match x with | .str z => (dIn (.str z) (.str LET)).map .bl | _ => none) ht (fun x hx acc => ?_) (by simpa [Str.length, lim] using hs)]
    · rw [List.filterMap_map]
      congr 5
      rw [← filterMap_some]
      congr 1
      funext c
      show (dIn (.str ⟨#[c]⟩) (.str LET)).map D.bl = _
      rw [dIn_sign, mem_let]
      rfl
    · obtain ⟨c, hc, rfl⟩ := List.mem_map.mp hx
      refine ⟨[], ?_⟩
      have e := dIn_sign c LET
      simp only [LET] at e ⊢
      simp [lcF, Tg.put, wipeE, evC, evE, evL, R.bind, views, view, sem, toD, e]
  have ha := all_map (Φ := Φ) (ρ := [some (.d (.str s)), none]) (fun c => decide (97 ≤ c ∧ c ≤ 122)) s.cps.toList (hl _ rfl)
  by_cases h1 : 1 ≤ s.length
  · by_cases h2 : s.length ≤ 8
    · have e : nmB s = s.cps.toList.all fun c => decide (97 ≤ c ∧ c ≤ 122) := by simp [nmB, h1, h2]
      rw [e]
      have g1 : (1 : Int) ≤ s.length := by omega
      have g2 : (s.length : Int) ≤ 8 := by omega
      simp (decide := true) [b_is_name, exB, exS, ↓ha, evE, evL, R.bind, R.st, R.of, views, view, sem, dCmp, dTys, dTy, tyEq, truth, hs, g1, g2, outD, toD]
    · have e : nmB s = false := by simp [nmB, h2]
      rw [e]
      have g1 : (1 : Int) ≤ s.length := by omega
      have g2 : ¬ (s.length : Int) ≤ 8 := by omega
      simp (decide := true) [b_is_name, exB, exS, evE, evL, R.bind, R.st, R.of, views, view, sem, dCmp, dTys, dTy, tyEq, truth, hs, g1, g2, outD, toD]
  · have e : nmB s = false := by simp [nmB, h1]
    rw [e]
    have g1 : ¬ (1 : Int) ≤ s.length := by omega
    simp (decide := true) [b_is_name, exB, exS, evE, evL, R.bind, R.st, R.of, views, view, sem, dCmp, dTys, dTy, tyEq, truth, hs, g1, outD, toD]
theorem dEq_str (a b : Str) (ha : PyData.strOk a = true) (hb : PyData.strOk b = true) : dEq (.str a) (.str b) = some (a == b) := by
  simp [dEq, D.py, SeqAt.shaped, PyData.eqv, PyData.canLay0, PyData.depth, ha, hb]
theorem find_pair (ks : List (Str × Str)) (p : Str × Str) : kFind true (ks.map pD) (pD p) = some (ks.findIdx? fun q => decide (q = p)) := by
  have e : ∀ q : Str × Str, keyT (pD q) = some [.inr q.1, .inr q.2] := fun q => rfl
  simp only [kFind, e, Option.map_some]
  congr 1
  rw [List.findIdx?_map]
  congr 1
  funext q
  show decide (keyT (pD q) = some [.inr p.1, .inr p.2]) = decide (q = p)
  rw [e]
  congr 1
  obtain ⟨a, b⟩ := q
  obtain ⟨c, d⟩ := p
  simp
theorem fits_ok (hF : G "fits" = some (.fn d_fits)) {k : Nat} (hk : 1 ≤ k) {μ : Mu} {r : Nat} {ks : List (Str × Str)} {vs : List D} (hr : μ[r]? = some (.dic true (ks.map pD) vs)) (p : Str × Str) (h1 : PyData.strOk p.1 = true) (h2 : PyData.strOk p.2 = true) :
    phi G k "fits" [.d (pD p), .r r] μ = some (.ok (.d (.bl (!(p.1 == p.2) && !(ks.any fun q => decide (q = (p.2, p.1)))))) μ) := by
  rw [phi_fn hF hk]
  generalize phi G (k - 1) = Φ
  show outD false μ.length (exB Φ b_fits [some (.d (pD p)), some (.r r), none, none] μ) = _
  have e1 := dEq_str p.1 p.2 h1 h2
  have e2 : dIn (.tup [.str p.2, .str p.1]) (.dic true (ks.map pD) vs) = some (ks.any fun q => decide (q = (p.2, p.1))) := by
    have := find_pair ks (p.2, p.1)
    simp only [dIn]
    rw [this]
    simp [List.findIdx?_isSome]
  cases he : p.1 == p.2 <;> rw [he] at e1 <;> simp [b_fits, exB, exS, evE, evL, R.bind, R.st, R.of, views, view, sem, toD, toDs, Tg.put, putL, e1, e2, hr, truth, outD, lim]
theorem written_pair_ok (hN : G "is_name" = some (.fn d_is_name)) (hW : G "is_written_pair" = some (.fn d_is_written_pair)) {k : Nat} (hk : 2 ≤ k) (μ : Mu) (p : Str × Str) (h1 : p.1.length ≤ lim) (h2 : p.2.length ≤ lim) :
    phi G k "is_written_pair" [.d (pD p)] μ = some (.ok (.d (.bl (nmB p.1 && nmB p.2))) μ) := by
  rw [phi_fn hW (by omega)]
  have n1 : ∀ m, phi G (k - 1) "is_name" [.d (.str p.1)] m = _ := fun m => is_name_ok hN (by omega) m p.1 h1
  have n2 : ∀ m, phi G (k - 1) "is_name" [.d (.str p.2)] m = _ := fun m => is_name_ok hN (by omega) m p.2 h2
  generalize phi G (k - 1) = Φ at n1 n2 ⊢
  show outD false μ.length (exB Φ b_is_written_pair [some (.d (pD p)), none] μ) = _
  have hl : evE Φ (.lc [1] (.one 1) (.seq (.var 0)) [] (.call "is_name" [.var 1])) [some (.d (pD p)), none] μ = some (.ok (.d (.lst ([p.1, p.2].map fun s => .bl (nmB s)))) μ) := by
    have ht : evT Φ (.seq (.var 0)) [some (.d (pD p)), none] μ = some (.ok [D.str p.1, D.str p.2] μ) := by
      simp [evT, evE, R.bind, seqW, dSeq]
    rw [ev_lc_map (fun x => match x with | .str z => some (.bl (nmB z)) | _ => none) ht (fun x hx acc => ?_) (by simp [lim])]
    · rfl
    · refine ⟨[], ?_⟩
      simp only [List.mem_cons, List.not_mem_nil, or_false] at hx
      rcases hx with rfl | rfl <;> simp [lcF, Tg.put, wipeE, evC, evE, evL, R.bind, n1, n2, toD]
  have ha := all_map (Φ := Φ) (ρ := [some (.d (pD p)), none]) nmB [p.1, p.2] hl
  have e : [p.1, p.2].all nmB = (nmB p.1 && nmB p.2) := by simp
  rw [e] at ha
  simp [b_is_written_pair, exB, exS, ↓ha, evE, evL, R.bind, R.st, R.of, views, view, sem, dEq_int, truth, outD, toD]
theorem pieces_ok (hP : G "pieces" = some (.fn d_pieces)) {k : Nat} (hk : 1 ≤ k) (μ : Mu) (t b : Str) (ht : PyData.strOk t = true) (ht2 : t.length ≤ lim) (hb : b.length ≠ 0) :
    phi G k "pieces" [.d (.str t), .d (.str b)] μ = some (.ok (.d (.lst (if t == "-" then [] else (Txt.split t b).map .str))) μ) := by
  rw [phi_fn hP hk]
  generalize phi G (k - 1) = Φ
  show outD false μ.length (exB Φ b_pieces [some (.d (.str t)), some (.d (.str b))] μ) = _
  have e1 := dEq_str t "-" ht (by decide +kernel)
  have ht3 : t.length ≤ 100000 := ht2
  cases he : t == ("-" : Str) <;> rw [he] at e1 <;> simp [b_pieces, exB, exS, evE, evL, R.bind, R.st, R.of, views, view, sem, toD, toDs, e1, truth, outD, lim, hb, ht3]
end
end PI.C
/-! C5: texts of pairs, and back. -/
namespace PI.C
open PySem PySem.Spec PyProof.Rows L2 PI
/-- all signs are of ASCII -/
def tame (s : Str) : Prop := ∀ c ∈ s.cps.toList, c < 128
theorem tame_ok {s : Str} (h : tame s) : PyData.strOk s = true := by
  unfold PyData.strOk
  rw [Array.all_eq_true']
  intro c hc
  have := h c (by simpa using hc)
  simp
  omega
theorem nm_tame {s : Str} (h : nmB s = true) : tame s := fun c hc => by
  have := (nm_ok h).2.2 c hc
  omega
theorem tl_app (x y : Str) : (x ++ y).cps.toList = x.cps.toList ++ y.cps.toList := TL.tl_append x y
theorem str_ext {x y : Str} (h : x.cps.toList = y.cps.toList) : x = y := PySem.W.str_of_cps h
theorem len_list (x : Str) : x.length = x.cps.toList.length := TL.len_tl x
theorem tame_app {x y : Str} (h1 : tame x) (h2 : tame y) : tame (x ++ y) := fun c hc => by
  rw [tl_app] at hc
  rcases List.mem_append.mp hc with hc | hc
  · exact h1 c hc
  · exact h2 c hc
theorem mem_joinL {S : List Nat} {c : Nat} : ∀ {ps : List (List Nat)}, c ∈ TL.joinL S ps → c ∈ S ∨ ∃ p ∈ ps, c ∈ p
  | [], h => by simp [TL.joinL] at h
  | [p], h => .inr ⟨p, by simp, h⟩
  | p :: q :: r, h => by
    rcases List.mem_append.mp h with h | h
    · exact .inr ⟨p, by simp, h⟩
    · rcases List.mem_append.mp h with h | h
      · exact .inl h
      · rcases mem_joinL h with h | ⟨z, hz, h⟩
        · exact .inl h
        · exact .inr ⟨z, List.mem_cons_of_mem _ hz, h⟩
theorem join_list (y : Str) (ps : List Str) : (Txt.join y ps).cps.toList = TL.joinL y.cps.toList (ps.map fun p => p.cps.toList) := by
  rw [TL.join_eq]
  exact TL.tl_join y ps
theorem tame_join {y : Str} {ps : List Str} (h1 : tame y) (h2 : ∀ p ∈ ps, tame p) : tame (Txt.join y ps) := fun c hc => by
  rw [join_list] at hc
  rcases mem_joinL hc with hc | ⟨z, hz, hc⟩
  · exact h1 c hc
  · obtain ⟨p, hp, rfl⟩ := List.mem_map.mp hz
    exact h2 p hp c hc
theorem join_len {y : Str} {ps : List Str} {n : Nat} (h : ∀ p ∈ ps, p.length ≤ n) : (ps.map (·.length)).sum + ps.length * y.length ≤ ps.length * (n + y.length) := by
  induction ps with
  | nil => simp
  | cons p ps ih =>
    have h1 := h p (by simp)
    have h2 := ih fun q hq => h q (by simp [hq])
    simp only [List.map_cons, List.sum_cons, List.length_cons, Nat.add_mul, Nat.one_mul] at h2 ⊢
    omega
theorem join_le {y : Str} {ps : List Str} {n : Nat} (h : ∀ p ∈ ps, p.length ≤ n) : (Txt.join y ps).length ≤ ps.length * (n + y.length) := by
  rw [TL.join_eq]
  exact Nat.le_trans (StrLaws.join_length_le y ps) (join_len h)
def SP : Str := " "
def SC : Str := "; "
theorem sp_list : SP.cps.toList = [32] := by decide +kernel
theorem sc_list : SC.cps.toList = [59, 32] := by decide +kernel
theorem sp_tame : tame SP := fun c hc => by rw [sp_list] at hc; simp at hc; omega
theorem sc_tame : tame SC := fun c hc => by rw [sc_list] at hc; simp at hc; omega
theorem nm_free {s : Str} (h : nmB s = true) {c : Nat} (hc : c < 97) : c ∉ s.cps.toList := fun hm => by
  have := (nm_ok h).2.2 c hm
  omega
/-- a pair's text -/
def txP (p : Str × Str) : Str := p.1 ++ SP ++ p.2
theorem txP_list (p : Str × Str) : (txP p).cps.toList = p.1.cps.toList ++ [32] ++ p.2.cps.toList := by
  unfold txP
  rw [tl_app, tl_app, sp_list]
theorem txP_len {p : Str × Str} (h1 : nmB p.1 = true) (h2 : nmB p.2 = true) : 3 ≤ (txP p).length ∧ (txP p).length ≤ 17 := by
  have a := nm_ok h1
  have b := nm_ok h2
  rw [len_list, txP_list]
  rw [len_list] at a b
  simp only [List.length_append, List.length_cons, List.length_nil]
  omega
theorem txP_tame {p : Str × Str} (h1 : nmB p.1 = true) (h2 : nmB p.2 = true) : tame (txP p) := tame_app (tame_app (nm_tame h1) sp_tame) (nm_tame h2)
theorem join2 (y a b : Str) : Txt.join y [a, b] = a ++ y ++ b := by
  rw [TL.join_eq]
  rfl
theorem split_pair {p : Str × Str} (h1 : nmB p.1 = true) (h2 : nmB p.2 = true) : Txt.split (txP p) SP = [p.1, p.2] := by
  unfold txP
  rw [← join2]
  refine TL.split_join (s := 32) (S := []) sp_list (by decide +kernel) (by simp) fun q hq => ?_
  simp only [List.mem_cons, List.not_mem_nil, or_false] at hq
  rcases hq with rfl | rfl
  · exact nm_free h1 (by omega)
  · exact nm_free h2 (by omega)
/-- PAIRS: names, unlike, ascending, never both ways -/
structure VB (bits : List (Str × Str)) : Prop where
  nm : ∀ p ∈ bits, nmB p.1 = true ∧ nmB p.2 = true ∧ p.1 ≠ p.2
  up : bits.Pairwise fun p q => PySem.W.dataLt (pP p) (pP q) = true
  nr : ∀ p ∈ bits, ∀ q ∈ bits, q ≠ (p.2, p.1)
  len : bits.length ≤ 1000
theorem lex_irrefl' : ∀ a : List (Int ⊕ List Nat), PyProof.Rows.lexLt PyProof.Rows.itemOrd a a = false
  | [] => rfl
  | x :: r => by rw [PyProof.Rows.lex_self]; exact lex_irrefl' r
theorem lt_irrefl (x : PyData) : PySem.W.dataLt x x = false := lex_irrefl' _
def ptx (bits : List (Str × Str)) : Str := if bits = [] then "-" else Txt.join SC (bits.map txP)
theorem split_pairs {bits : List (Str × Str)} (h : VB bits) (hne : bits ≠ []) : Txt.split (Txt.join SC (bits.map txP)) SC = bits.map txP := by
  refine TL.split_join (s := 59) (S := [32]) sc_list (by decide +kernel) (by simpa using hne) fun q hq => ?_
  obtain ⟨p, hp, rfl⟩ := List.mem_map.mp hq
  obtain ⟨h1, h2, _⟩ := h.nm p hp
  show 59 ∉ (txP p).cps.toList
  rw [txP_list]
  intro hm
  rcases List.mem_append.mp hm with hm | hm
  · rcases List.mem_append.mp hm with hm | hm
    · exact nm_free h1 (by omega) hm
    · simp at hm
  · exact nm_free h2 (by omega) hm
theorem pj_len {bits : List (Str × Str)} (h : VB bits) : (Txt.join SC (bits.map txP)).length ≤ lim := by
  have h1 := join_le (y := SC) (ps := bits.map txP) (n := 17) (fun q hq => by
    obtain ⟨p, hp, rfl⟩ := List.mem_map.mp hq
    obtain ⟨h1, h2, _⟩ := h.nm p hp
    exact (txP_len h1 h2).2)
  have h2 : SC.length = 2 := by decide +kernel
  have h3 := h.len
  rw [List.length_map, h2] at h1
  simp only [lim]
  omega
theorem pj_tame {bits : List (Str × Str)} (h : VB bits) : tame (Txt.join SC (bits.map txP)) := tame_join sc_tame fun q hq => by
  obtain ⟨p, hp, rfl⟩ := List.mem_map.mp hq
  obtain ⟨h1, h2, _⟩ := h.nm p hp
  exact txP_tame h1 h2
theorem dash_split (b : Str) (hb : 1 < b.length) : Txt.split ("-" : Str) b = [("-" : Str)] := by
  unfold Txt.split
  have : (("-" : Str).length) = 1 := by decide +kernel
  rw [if_pos (by simp [this, hb])]
theorem pj_dash {bits : List (Str × Str)} (h : VB bits) (hne : bits ≠ []) : (Txt.join SC (bits.map txP) == ("-" : Str)) = false := by
  rw [beq_eq_false_iff_ne]
  intro e
  have h1 := split_pairs h hne
  rw [e, dash_split SC (by decide +kernel)] at h1
  obtain ⟨p, hp⟩ := List.exists_mem_of_ne_nil bits hne
  have h2 : txP p ∈ bits.map txP := List.mem_map.mpr ⟨p, hp, rfl⟩
  rw [← h1] at h2
  have h3 : txP p = "-" := by simpa using h2
  obtain ⟨a, b, _⟩ := h.nm p hp
  have h4 := (txP_len a b).1
  rw [h3] at h4
  exact absurd h4 (by decide +kernel)
/-! ### back -/
def pfBody : List IS := match b_pairs_from with
  | [_, _, .for_ _ _ b, _] => b
  | _ => []
theorem pf_eq : b_pairs_from = [.setm 1 (.dnew true), .set (.one 2) (.tup []), .for_ (.tup [3, 4]) (.enu (.call "pieces" [.var 0, .cst (.str "; ")])) pfBody, .ret (.op .tuple [.var 1])] := rfl
theorem le_false (p : Str × Str) (last : D) (h : last = .tup [] ∨ ∃ q, last = pD q ∧ PySem.W.dataLt (pP q) (pP p) = true) : sem .le [pD p, last] = some (.bl false) := by
  rcases h with rfl | ⟨q, rfl, hq⟩
  · have : PySem.W.dataLt (.tuple []) (pP p) = true := rfl
    simp [sem, dCmp, dLess, D.py, pys, PySem.W.alike, PySem.W.alikeAll, pyNN, PyData.depth, PyData.depthAll, this]
  · simp [sem, dCmp, dLess, D.py, pys, PySem.W.alike, PySem.W.alikeAll, pyNN, PyData.depth, PyData.depthAll, hq]
section
variable {G : Str → Option Gd}
def rhoP (t : D) (r : Nat) (last : D) (a b c : Option W) : Env := [some (.d t), some (.r r), some (.d last), a, b, c]
theorem pf_turn (hN : G "is_name" = some (.fn d_is_name)) (hW : G "is_written_pair" = some (.fn d_is_written_pair)) (hF : G "fits" = some (.fn d_fits)) {k : Nat} (hk : 2 ≤ k) (t : D) (μ : Mu) (pre : List (Str × Str)) (p : Str × Str) (last : D) (vs : List D) (i : Nat) (c : Option W)
    (h1 : nmB p.1 = true) (h2 : nmB p.2 = true) (h3 : p.1 ≠ p.2) (h4 : ∀ q ∈ pre, q ≠ (p.2, p.1)) (h5 : p ∉ pre) (h6 : pre.length < lim) (hl : last = .tup [] ∨ ∃ q, last = pD q ∧ PySem.W.dataLt (pP q) (pP p) = true) :
    exB (phi G k) pfBody (rhoP t μ.length last (some (.d (.int i))) (some (.d (.str (txP p)))) c) (μ ++ [.dic true (pre.map pD) vs]) = some (.nx (rhoP t μ.length (pD p) (some (.d (.int i))) (some (.d (.str (txP p)))) (some (.d (pD p)))), μ ++ [.dic true ((pre ++ [p]).map pD) (vs ++ [.bl true])]) := by
  have hg : (μ ++ [O.dic true (pre.map pD) vs])[μ.length]? = some (.dic true (pre.map pD) vs) := by simp
  have w := written_pair_ok hN hW hk (μ ++ [O.dic true (pre.map pD) vs]) p (by have := (nm_ok h1).2.1; simp [lim]; omega) (by have := (nm_ok h2).2.1; simp [lim]; omega)
  have f := fits_ok hF (k := k) (by omega) hg p (nm_strOk h1) (nm_strOk h2)
  have e1 : (p.1 == p.2) = false := beq_eq_false_iff_ne.mpr h3
  have e2 : (pre.any fun q => decide (q = (p.2, p.1))) = false := by
    rw [List.any_eq_false]
    intro q hq
    simp [h4 q hq]
  rw [h1, h2] at w
  rw [e1, e2] at f
  have hs := split_pair h1 h2
  have hle := le_false p last hl
  have hlen := (txP_len h1 h2).2
  have hk2 : kFind true (pre.map pD) (pD p) = some none := by
    rw [find_pair]
    congr 1
    rw [List.findIdx?_eq_none_iff]
    intro q hq
    simp only [decide_eq_false_iff_not]
    exact fun z => h5 (z ▸ hq)
  have hst : (μ ++ [O.dic true (pre.map pD) vs]).set μ.length (.dic true (pre.map pD ++ [pD p]) (vs ++ [.bl true])) = μ ++ [.dic true ((pre ++ [p]).map pD) (vs ++ [.bl true])] := by
    simp
  rw [← hst]
  have hsp : sem .split [.str (txP p), .str " "] = some (.lst [.str p.1, .str p.2]) := by
    show (if SP.length ≠ 0 ∧ (txP p).length ≤ lim then some (D.lst ((Txt.split (txP p) SP).map .str)) else none) = _
    rw [hs, if_pos ⟨by decide +kernel, by simp only [lim]; omega⟩]
    rfl
  have htu : sem .tuple [.lst [.str p.1, .str p.2]] = some (pD p) := rfl
  have hpl : (pre.map pD).length < lim := by simpa using h6
  have n1 : sem .not [.bl true] = some (.bl false) := rfl
  have n2 : sem .not [.bl false] = some (.bl true) := rfl
  simp only [Bool.not_false, Bool.and_self] at w f
  generalize phi G k = Φ at w f ⊢
  generalize txP p = T at hsp ⊢
  generalize hM : μ ++ [O.dic true (pre.map pD) vs] = M at hg w f ⊢
  generalize pD p = P at w f hle hk2 htu ⊢
  simp only [pfBody, b_pairs_from, rhoP, exB, exS, evE, evL, R.bind, R.st, rok, views, view, hsp, htu, w, f, hle, truth, toD, hg, hk2, if_pos hpl, List.getElem?_cons_succ, List.getElem?_cons_zero, List.set_cons_succ, List.set_cons_zero, Bool.not_true, Bool.not_false, Bool.and_true, Bool.true_and, Bool.and_self, Option.bind_some, n1, n2]
end
end PI.C
/-! C6: pairs_from, pairs_text, lists. -/
namespace PI.C
open PySem PySem.Spec PyProof.Rows L2 PI
theorem enum_get {xs : List D} {j : Nat} {x : D} (h : ((List.range xs.length).zipWith (fun i x => D.tup [.int (i : Nat), x]) xs)[j]? = some x) : ∃ y, xs[j]? = some y ∧ x = .tup [.int (j : Nat), y] := by
  rw [List.getElem?_zipWith] at h
  cases h2 : xs[j]? with
  | none => rw [h2] at h; simp at h
  | some y =>
    have hj := (List.getElem?_eq_some_iff.mp h2).1
    rw [h2, List.getElem?_range hj] at h
    exact ⟨y, rfl, (Option.some.inj h).symm⟩
theorem take_succ_get {α : Type} {l : List α} {i : Nat} {x : α} (h : l[i]? = some x) : l.take (i + 1) = l.take i ++ [x] := by
  rw [List.take_succ, h]
  rfl
theorem mem_take_ix {α : Type} {l : List α} {i : Nat} {x : α} (h : x ∈ l.take i) : ∃ j, j < i ∧ l[j]? = some x := by
  obtain ⟨j, hj, rfl⟩ := List.mem_iff_getElem.mp h
  have hj2 : j < i ∧ j < l.length := by
    rw [List.length_take] at hj
    omega
  exact ⟨j, hj2.1, by rw [List.getElem_take]; exact List.getElem?_eq_getElem hj2.2⟩
theorem pw_get {α : Type} {R : α → α → Prop} {l : List α} (h : l.Pairwise R) {i j : Nat} {x y : α} (hi : l[i]? = some x) (hj : l[j]? = some y) (hij : i < j) : R x y := by
  obtain ⟨h1, rfl⟩ := List.getElem?_eq_some_iff.mp hi
  obtain ⟨h2, rfl⟩ := List.getElem?_eq_some_iff.mp hj
  exact (List.pairwise_iff_getElem.mp h) i j h1 h2 hij
section
variable {G : Str → Option Gd}
theorem pairs_from_ok (hN : G "is_name" = some (.fn d_is_name)) (hW : G "is_written_pair" = some (.fn d_is_written_pair)) (hF : G "fits" = some (.fn d_fits)) (hPi : G "pieces" = some (.fn d_pieces)) (hPf : G "pairs_from" = some (.fn d_pairs_from)) {k : Nat} (hk : 3 ≤ k) (μ : Mu) {bits : List (Str × Str)} (hb : VB bits) :
    phi G k "pairs_from" [.d (.str (ptx bits))] μ = some (.ok (.d (.tup (bits.map pD))) μ) := by
  rw [phi_fn hPf (by omega)]
  -- the pieces
  have hps : ∀ m, phi G (k - 1) "pieces" [.d (.str (ptx bits)), .d (.str "; ")] m = some (.ok (.d (.lst ((bits.map txP).map .str))) m) := by
    intro m
    by_cases hne : bits = []
    · subst hne
      have := pieces_ok hPi (k := k - 1) (by omega) m "-" SC (by decide +kernel) (by decide +kernel) (by decide +kernel)
      exact this
    · have := pieces_ok hPi (k := k - 1) (by omega) m (Txt.join SC (bits.map txP)) SC (tame_ok (pj_tame hb)) (pj_len hb) (by decide +kernel)
      rw [pj_dash hb hne, split_pairs hb hne] at this
      simp only [ptx, if_neg hne]
      exact this
  generalize hT : ptx bits = t at hps ⊢
  have hn : ((bits.map txP).map D.str).length = bits.length := by simp
  have step : ∀ j x ρ m, 0 ≤ j → ((List.range ((bits.map txP).map D.str).length).zipWith (fun i x => D.tup [.int (i : Nat), x]) ((bits.map txP).map D.str))[j - 0]? = some x →
      (∃ last a b c, ρ = rhoP (.str t) μ.length last a b c ∧ m = μ ++ [.dic true ((bits.take j).map pD) (List.replicate j (.bl true))] ∧ ((last = .tup [] ∧ j = 0) ∨ ∃ q i, j = i + 1 ∧ bits[i]? = some q ∧ last = pD q)) →
      ∃ ρ' m', (match Tg.put (.tup [3, 4]) x ρ with
        | none => none
        | some r1 => exB (phi G (k - 1)) pfBody r1 m) = some (.nx ρ', m') ∧
      (∃ last a b c, ρ' = rhoP (.str t) μ.length last a b c ∧ m' = μ ++ [.dic true ((bits.take (j + 1)).map pD) (List.replicate (j + 1) (.bl true))] ∧ ((last = .tup [] ∧ j + 1 = 0) ∨ ∃ q i, j + 1 = i + 1 ∧ bits[i]? = some q ∧ last = pD q)) := by
    rintro j x ρ m _ hx ⟨last, a, b, c, rfl, rfl, hl⟩
    rw [Nat.sub_zero] at hx
    obtain ⟨y, hy, rfl⟩ := enum_get hx
    rw [List.getElem?_map, List.getElem?_map] at hy
    obtain ⟨s, hs, rfl⟩ := Option.map_eq_some_iff.mp hy
    obtain ⟨p, hp, rfl⟩ := Option.map_eq_some_iff.mp hs
    have hpm := List.mem_of_getElem? hp
    obtain ⟨n1, n2, n3⟩ := hb.nm p hpm
    have hj := (List.getElem?_eq_some_iff.mp hp).1
    have hlen := hb.len
    have h4 : ∀ q ∈ bits.take j, q ≠ (p.2, p.1) := fun q hq => hb.nr p hpm q (List.mem_of_mem_take hq)
    have h5 : p ∉ bits.take j := fun hm => by
      obtain ⟨i, hi, hip⟩ := mem_take_ix hm
      have := pw_get hb.up hip hp hi
      rw [lt_irrefl] at this
      cases this
    have h7 : last = .tup [] ∨ ∃ q, last = pD q ∧ PySem.W.dataLt (pP q) (pP p) = true := by
      rcases hl with ⟨rfl, _⟩ | ⟨q, i, rfl, hq, rfl⟩
      · exact .inl rfl
      · exact .inr ⟨q, rfl, pw_get hb.up hq hp (by omega)⟩
    have tn := pf_turn hN hW hF (k := k - 1) (by omega) (.str t) μ (bits.take j) p last (List.replicate j (.bl true)) j c n1 n2 n3 h4 h5 (by simp [lim]; omega) h7
    refine ⟨_, _, tn, pD p, _, _, _, rfl, ?_, .inr ⟨p, j, rfl, hp, rfl⟩⟩
    rw [take_succ_get hp, List.replicate_succ']
  obtain ⟨ρ', m', e1, last, a, b, c, rfl, rfl, _⟩ := lop_ix (f := fun x r m => match Tg.put (.tup [3, 4]) x r with
      | none => none
      | some r1 => exB (phi G (k - 1)) pfBody r1 m) (fun j ρ m => ∃ last a b c, ρ = rhoP (.str t) μ.length last a b c ∧ m = μ ++ [.dic true ((bits.take j).map pD) (List.replicate j (.bl true))] ∧ ((last = .tup [] ∧ j = 0) ∨ ∃ q i, j = i + 1 ∧ bits[i]? = some q ∧ last = pD q))
    bits.length ((List.range ((bits.map txP).map D.str).length).zipWith (fun i x => D.tup [.int (i : Nat), x]) ((bits.map txP).map D.str)) 0 (rhoP (.str t) μ.length (.tup []) none none none) (μ ++ [.dic true [] []]) (by simp) step ⟨.tup [], none, none, none, rfl, by simp, .inl ⟨rfl, rfl⟩⟩
  rw [List.take_length] at e1
  generalize phi G (k - 1) = Φ at hps e1 ⊢
  show outD false μ.length (exB Φ b_pairs_from [some (.d (.str t)), none, none, none, none, none] μ) = _
  rw [pf_eq]
  have q1 : exS Φ (.setm 1 (.dnew true)) [some (.d (.str t)), none, none, none, none, none] μ = some (.nx [some (.d (.str t)), some (.r μ.length), none, none, none, none], μ ++ [.dic true [] []]) := by
    simp [exS, evE, R.st]
  have q2 : exS Φ (.set (.one 2) (.tup [])) [some (.d (.str t)), some (.r μ.length), none, none, none, none] (μ ++ [.dic true [] []]) = some (.nx (rhoP (.str t) μ.length (.tup []) none none none), μ ++ [.dic true [] []]) := by
    simp [exS, evE, evL, R.st, R.bind, toDs, lim, rhoP]
  have q3 : exS Φ (.for_ (.tup [3, 4]) (.enu (.call "pieces" [.var 0, .cst (.str "; ")])) pfBody) (rhoP (.str t) μ.length (.tup []) none none none) (μ ++ [.dic true [] []]) = some (.nx (rhoP (.str t) μ.length last a b c), μ ++ [.dic true (bits.map pD) (List.replicate bits.length (.bl true))]) := by
    have ht : evT Φ (.enu (.call "pieces" [.var 0, .cst (.str "; ")])) (rhoP (.str t) μ.length (.tup []) none none none) (μ ++ [.dic true [] []]) = some (.ok ((List.range ((bits.map txP).map D.str).length).zipWith (fun i x => D.tup [.int (i : Nat), x]) ((bits.map txP).map D.str)) (μ ++ [.dic true [] []])) := by
      simp only [evT, evE, evL, R.bind, rok, rhoP, List.getElem?_cons_succ, List.getElem?_cons_zero, hps, toD]
    simp only [exS, ht, R.st]
    exact e1
  rw [exB_nx q1, exB_nx q2, exB_nx q3]
  simp [exB, exS, evE, evL, R.st, R.bind, rhoP, views, view, sem, outD, toD]
/-! ### as texts -/
abbrev lD (p : Str × Str) : D := .lst [.str p.1, .str p.2]
def seqP (tp : Bool) (bits : List (Str × Str)) : D := if tp = true then .tup (bits.map pD) else .lst (bits.map lD)
theorem empty_app (x : Str) : Str.empty ++ x = x := str_ext (by rw [tl_app]; rfl)
theorem dStrs_map {α : Type} (f : α → Str) : ∀ l : List α, dStrs (l.map fun x => D.str (f x)) = some (l.map f)
  | [] => rfl
  | x :: r => by simp [dStrs, dStrs_map f r]
theorem fs_pair {Φ : Phi} {ρ : Env} {μ : Mu} {i j : Nat} {p : Str × Str} (hi : ρ[i]? = some (some (.d (.str p.1)))) (hj : ρ[j]? = some (some (.d (.str p.2)))) (h1 : p.1.length ≤ 1000) (h2 : p.2.length ≤ 1000) :
    evE Φ (.fs [.var i, .cst (.str " "), .var j]) ρ μ = some (.ok (.d (.str (txP p))) μ) := by
  have l1 : SP.length = 1 := by decide +kernel
  have a1 : p.1.length ≤ lim := by simp [lim]; omega
  have a2 : p.2.length ≤ lim := by simp [lim]; omega
  have a3 : (Str.empty ++ p.1).length ≤ lim := by rw [empty_app]; exact a1
  have a4 : (Str.empty ++ p.1 ++ SP).length ≤ lim := by rw [empty_app, Str.length_append, l1]; simp [lim]; omega
  have a5 : (Str.empty ++ p.1 ++ SP ++ p.2).length ≤ lim := by rw [empty_app, Str.length_append, Str.length_append, l1]; simp [lim]; omega
  have a6 : (" " : Str).length ≤ lim := by decide +kernel
  have e : Str.empty ++ p.1 ++ SP ++ p.2 = txP p := by rw [empty_app]; rfl
  rw [← e]
  simp only [SP] at a4 a5 ⊢
  simp only [evE, evF, R.bind, hi, hj, rok, fmtD, if_pos a1, if_pos a2, if_pos a3, if_pos a4, if_pos a5, if_pos a6]
/-! ### pieces with signs between them -/
def glue (y : Str) : List Str → Str → Str
  | [], acc => acc
  | p :: r, acc => glue y r (acc ++ y ++ p)
theorem glue_list (y : Str) : ∀ (ps : List Str) (acc : Str), (glue y ps acc).cps.toList = acc.cps.toList ++ (ps.map fun p => y.cps.toList ++ p.cps.toList).flatten
  | [], acc => by simp [glue]
  | p :: r, acc => by simp [glue, glue_list y r, tl_app]
theorem flat_join (S : List Nat) : ∀ (ps : List (List Nat)), ps ≠ [] → (ps.map fun p => S ++ p).flatten = S ++ TL.joinL S ps
  | [], h => absurd rfl h
  | [p], _ => by simp [TL.joinL]
  | p :: q :: r, _ => by
    have := flat_join S (q :: r) (by simp)
    rw [List.map_cons, List.flatten_cons, this]
    simp [TL.joinL]
theorem cut_glue (y : Str) (ps : List Str) : cutS (glue y ps "") (some (y.length : Nat)) none = Txt.join y ps := by
  have e0 : ("" : Str).cps.toList = [] := by decide +kernel
  apply str_ext
  have hl : (cutS (glue y ps "") (some (y.length : Nat)) none).cps.toList = (glue y ps "").cps.toList.drop y.length := by
    unfold cutS
    simp only [HT.sIx_none]
    rw [show HT.sIx (glue y ps "").length 0 (some (y.length : Nat)) = min y.length (glue y ps "").length from HT.sIx_nat _ _ _]
    rw [List.take_of_length_le (by rw [List.length_drop, ← len_list]; omega)]
    by_cases h : y.length ≤ (glue y ps "").length
    · rw [Nat.min_eq_left h]
    · rw [Nat.min_eq_right (by omega), List.drop_eq_nil_of_le (by rw [← len_list]; omega), List.drop_eq_nil_of_le (by rw [← len_list]; omega)]
  rw [hl, glue_list, e0, List.nil_append, join_list]
  cases ps with
  | nil => simp [TL.joinL]
  | cons p r =>
    have := flat_join y.cps.toList ((p :: r).map fun p => p.cps.toList) (by simp)
    rw [List.map_map] at this
    rw [show ((p :: r).map fun p => y.cps.toList ++ p.cps.toList) = ((p :: r).map ((fun p => y.cps.toList ++ p) ∘ fun p : Str => p.cps.toList)) from rfl, this, len_list, List.drop_left]
theorem glue_len (y : Str) (n : Nat) : ∀ (ps : List Str) (acc : Str), (∀ p ∈ ps, p.length ≤ n) → (glue y ps acc).length ≤ acc.length + ps.length * (n + y.length)
  | [], acc, _ => by simp [glue]
  | p :: r, acc, h => by
    have h1 := glue_len y n r (acc ++ y ++ p) fun q hq => h q (by simp [hq])
    have h2 := h p (by simp)
    rw [Str.length_append, Str.length_append] at h1
    simp only [glue, List.length_cons, Nat.add_mul, Nat.one_mul] at h1 ⊢
    omega
def tpB : List IS := match b_text_of_pieces with
  | [_, .for_ _ _ b, _] => b
  | _ => []
theorem tp_eq : b_text_of_pieces = [.set (.one 2) (.cst (.str "")), .for_ (.one 3) (.seq (.var 0)) tpB, .ret (.or (.sl true false (.var 2) (.op .len [.var 1]) (.cst .non)) (.cst (.str "-")))] := rfl
theorem tp_turn (Φ : Phi) (d : D) (y t p : Str) (w : Option W) (μ : Mu) (h : (t ++ y ++ p).length ≤ lim) :
    exB Φ tpB [some (.d d), some (.d (.str y)), some (.d (.str t)), some (.d (.str p))] μ = some (.nx [some (.d d), some (.d (.str y)), some (.d (.str (t ++ y ++ p))), some (.d (.str p))], μ) := by
  have hs := h
  rw [Str.length_append, Str.length_append] at hs
  have a1 : t.length ≤ lim := by omega
  have a2 : y.length ≤ lim := by omega
  have a3 : p.length ≤ lim := by omega
  have a4 : (Str.empty ++ t).length ≤ lim := by rw [empty_app]; exact a1
  have a5 : (Str.empty ++ t ++ y).length ≤ lim := by rw [empty_app, Str.length_append]; omega
  have a6 : (Str.empty ++ t ++ y ++ p).length ≤ lim := by rw [empty_app]; exact h
  have e : evE Φ (.fs [.var 2, .var 1, .var 3]) [some (.d d), some (.d (.str y)), some (.d (.str t)), some (.d (.str p))] μ = some (.ok (.d (.str (t ++ y ++ p))) μ) := by
    rw [show t ++ y ++ p = Str.empty ++ t ++ y ++ p by rw [empty_app]]
    simp only [evE, evF, R.bind, rok, fmtD, if_pos a1, if_pos a2, if_pos a3, if_pos a4, if_pos a5, if_pos a6, List.getElem?_cons_succ, List.getElem?_cons_zero]
  show exB Φ [.set (.one 2) (.fs [.var 2, .var 1, .var 3])] _ μ = _
  simp only [exB, exS, e, R.st, List.set_cons_succ, List.set_cons_zero]
theorem tp_loop (Φ : Phi) (d : D) (y : Str) (n : Nat) (μ : Mu) : ∀ (ps : List Str) (t : Str) (w : Option W), (∀ p ∈ ps, p.length ≤ n) → t.length + ps.length * (n + y.length) ≤ lim →
    ∃ w', lop (forF Φ (.one 3) tpB) (ps.map .str) [some (.d d), some (.d (.str y)), some (.d (.str t)), w] μ = some (.nx [some (.d d), some (.d (.str y)), some (.d (.str (glue y ps t))), w'], μ)
  | [], t, w, _, _ => ⟨w, rfl⟩
  | p :: r, t, w, hp, hl => by
    have h1 := hp p (by simp)
    simp only [List.length_cons, Nat.add_mul, Nat.one_mul] at hl
    have h2 : (t ++ y ++ p).length ≤ lim := by rw [Str.length_append, Str.length_append]; omega
    obtain ⟨w', e⟩ := tp_loop Φ d y n μ r (t ++ y ++ p) (some (.d (.str p))) (fun q hq => hp q (by simp [hq])) (by rw [Str.length_append, Str.length_append]; omega)
    refine ⟨w', ?_⟩
    have tn := tp_turn Φ d y t p w μ h2
    have e1 : forF Φ (.one 3) tpB (.str p) [some (.d d), some (.d (.str y)), some (.d (.str t)), w] μ = some (.nx [some (.d d), some (.d (.str y)), some (.d (.str (t ++ y ++ p))), some (.d (.str p))], μ) := tn
    show (match forF Φ (.one 3) tpB (.str p) [some (.d d), some (.d (.str y)), some (.d (.str t)), w] μ with
      | none => none
      | some (.nx ρ1, μ1) => lop (forF Φ (.one 3) tpB) (r.map .str) ρ1 μ1
      | some (.ct ρ1, μ1) => lop (forF Φ (.one 3) tpB) (r.map .str) ρ1 μ1
      | some (.bk ρ1, μ1) => some (.nx ρ1, μ1)
      | some (.rt w, μ1) => some (.rt w, μ1)
      | some (.xc e ρ1, μ1) => some (.xc e ρ1, μ1)) = _
    rw [e1]
    exact e
theorem text_of_pieces_ok (hT : G "text_of_pieces" = some (.fn d_text_of_pieces)) {k : Nat} (hk : 1 ≤ k) (μ : Mu) (d : D) (ps : List Str) (y : Str) (n : Nat) (hd : dSeq d = some (ps.map .str)) (hp : ∀ p ∈ ps, p.length ≤ n) (hl : ps.length * (n + y.length) ≤ lim) (hy : y.length ≤ lim) :
    phi G k "text_of_pieces" [.d d, .d (.str y)] μ = some (.ok (.d (.str (if (Txt.join y ps).length = 0 then "-" else Txt.join y ps))) μ) := by
  rw [phi_fn hT hk]
  generalize phi G (k - 1) = Φ
  show outD false μ.length (exB Φ b_text_of_pieces [some (.d d), some (.d (.str y)), none, none] μ) = _
  rw [tp_eq]
  obtain ⟨w', e⟩ := tp_loop Φ d y n μ ps "" none hp (by rw [show ("" : Str).length = 0 from by decide +kernel]; omega)
  have q1 : exS Φ (.set (.one 2) (.cst (.str ""))) [some (.d d), some (.d (.str y)), none, none] μ = some (.nx [some (.d d), some (.d (.str y)), some (.d (.str "")), none], μ) := by
    simp [exS, evE, R.st]
  have q2 : exS Φ (.for_ (.one 3) (.seq (.var 0)) tpB) [some (.d d), some (.d (.str y)), some (.d (.str "")), none] μ = some (.nx [some (.d d), some (.d (.str y)), some (.d (.str (glue y ps ""))), w'], μ) := by
    have ht : evT Φ (.seq (.var 0)) [some (.d d), some (.d (.str y)), some (.d (.str "")), none] μ = some (.ok (ps.map .str) μ) := by
      simp [evT, evE, R.bind, seqW, hd]
    exact (exS_for ht).trans e
  rw [exB_nx q1, exB_nx q2]
  have gl := glue_len y n ps "" hp
  have gl2 : (glue y ps "").length ≤ lim := by
    rw [show ("" : Str).length = 0 from by decide +kernel] at gl
    omega
  have jl : (Txt.join y ps).length ≤ lim := Nat.le_trans (join_le hp) hl
  have hc : dCut (.str (glue y ps "")) (some (y.length : Nat)) none = some (.str (Txt.join y ps)) := by
    simp only [dCut, if_pos gl2, cut_glue]
  generalize glue y ps "" = g at gl2 hc
  have e1 : evE Φ (.sl true false (.var 2) (.op .len [.var 1]) (.cst .non)) [some (.d d), some (.d (.str y)), some (.d (.str g)), w'] μ = some (.ok (.d (.str (Txt.join y ps))) μ) := by
    simp [evE, evL, R.bind, R.of, rok, views, view, sem, if_pos hy, toI, hc]
  generalize IE.sl true false (.var 2) (.op .len [.var 1]) (.cst .non) = E at e1
  by_cases hz : (Txt.join y ps).length = 0
  · have htr : truth (.str (Txt.join y ps)) = some false := by simp only [truth, if_pos jl, hz]; rfl
    simp [exB, exS, evE, e1, R.bind, R.st, rok, view, htr, hz, outD, toD]
  · have htr : truth (.str (Txt.join y ps)) = some true := by simp only [truth, if_pos jl]; simpa using hz
    simp [exB, exS, evE, e1, R.bind, R.st, rok, view, htr, hz, outD, toD]
theorem pairs_text_ok (hP : G "pairs_text" = some (.fn d_pairs_text)) (hT : G "text_of_pieces" = some (.fn d_text_of_pieces)) {k : Nat} (hk : 2 ≤ k) (μ : Mu) (tp : Bool) {bits : List (Str × Str)} (hb : VB bits) :
    phi G k "pairs_text" [.d (seqP tp bits)] μ = some (.ok (.d (.str (ptx bits))) μ) := by
  rw [phi_fn hP (by omega)]
  have hTP := fun m d ps n => text_of_pieces_ok hT (k := k - 1) (by omega) m d ps SC n
  generalize phi G (k - 1) = Φ at hTP ⊢
  show outD false μ.length (exB Φ b_pairs_text [some (.d (seqP tp bits)), none, none] μ) = _
  have hlc : evE Φ (.lc [1, 2] (.tup [1, 2]) (.seq (.var 0)) [] (.fs [.var 1, .cst (.str " "), .var 2])) [some (.d (seqP tp bits)), none, none] μ = some (.ok (.d (.lst (bits.map fun p => .str (txP p)))) μ) := by
    have sm : ∀ p ∈ bits, p.1.length ≤ 1000 ∧ p.2.length ≤ 1000 := fun p hp => by
      have a := nm_ok (hb.nm p hp).1
      have b := nm_ok (hb.nm p hp).2.1
      omega
    have hl : bits.length ≤ lim := by have := hb.len; simp [lim]; omega
    cases tp with
    | true =>
      have ht : evT Φ (.seq (.var 0)) [some (.d (seqP true bits)), none, none] μ = some (.ok (bits.map pD) μ) := by
        simp [evT, evE, R.bind, seqW, dSeq, seqP]
      rw [ev_lc_map (fun x => match x with | .tup [.str a, .str b] => some (.str (txP (a, b))) | _ => none) ht (fun x hx acc => ?_) (by simpa using hl)]
      · rw [List.filterMap_map, ← filterMap_some]
        rfl
      · obtain ⟨p, hp, rfl⟩ := List.mem_map.mp hx
        obtain ⟨s1, s2⟩ := sm p hp
        refine ⟨[], ?_⟩
        have hf := fs_pair (Φ := Φ) (ρ := [some (.d (seqP true bits)), some (.d (.str p.1)), some (.d (.str p.2))]) (μ := μ ++ [.lst acc]) (i := 1) (j := 2) (p := p) rfl rfl s1 s2
        simp only [lcF, Tg.put, putL, wipeE, evC, R.bind, rok, List.set_cons_succ, List.set_cons_zero, hf, if_true, toD, List.append_nil]
    | false =>
      have ht : evT Φ (.seq (.var 0)) [some (.d (seqP false bits)), none, none] μ = some (.ok (bits.map lD) μ) := by
        simp [evT, evE, R.bind, seqW, dSeq, seqP]
      rw [ev_lc_map (fun x => match x with | .lst [.str a, .str b] => some (.str (txP (a, b))) | _ => none) ht (fun x hx acc => ?_) (by simpa using hl)]
      · rw [List.filterMap_map, ← filterMap_some]
        rfl
      · obtain ⟨p, hp, rfl⟩ := List.mem_map.mp hx
        obtain ⟨s1, s2⟩ := sm p hp
        refine ⟨[], ?_⟩
        have hf := fs_pair (Φ := Φ) (ρ := [some (.d (seqP false bits)), some (.d (.str p.1)), some (.d (.str p.2))]) (μ := μ ++ [.lst acc]) (i := 1) (j := 2) (p := p) rfl rfl s1 s2
        simp only [lcF, Tg.put, putL, wipeE, evC, R.bind, rok, List.set_cons_succ, List.set_cons_zero, hf, if_true, toD, List.append_nil]
  have hcall : ∀ m, Φ "text_of_pieces" [.d (.lst (bits.map fun p => .str (txP p))), .d (.str "; ")] m = some (.ok (.d (.str (ptx bits))) m) := by
    intro m
    have h1 : ∀ q ∈ bits.map txP, q.length ≤ 17 := fun q hq => by
      obtain ⟨p, hp, rfl⟩ := List.mem_map.mp hq
      obtain ⟨h1, h2, _⟩ := hb.nm p hp
      exact (txP_len h1 h2).2
    have h2 : SC.length = 2 := by decide +kernel
    have h3 := hb.len
    have := hTP m (.lst (bits.map fun p => .str (txP p))) (bits.map txP) 17 (by simp [dSeq]) h1 (by rw [List.length_map, h2]; simp only [lim]; omega) (by rw [h2]; simp [lim])
    have e : (if (Txt.join SC (bits.map txP)).length = 0 then ("-" : Str) else Txt.join SC (bits.map txP)) = ptx bits := by
      unfold ptx
      cases bits with
      | nil => decide +kernel
      | cons p r =>
        have hz : (Txt.join SC ((p :: r).map txP)).length ≠ 0 := by
          intro z
          have h1 := split_pairs hb (by simp)
          have e0 : Txt.join SC ((p :: r).map txP) = Str.empty := by
            rw [len_list] at z
            exact str_ext (by rw [List.eq_nil_of_length_eq_zero z]; rfl)
          rw [e0, show Txt.split Str.empty SC = [Str.empty] from by decide +kernel] at h1
          have h2 : txP p ∈ (p :: r).map txP := by simp
          rw [← h1] at h2
          have h3 : txP p = Str.empty := by simpa using h2
          obtain ⟨a, b, _⟩ := hb.nm p (by simp)
          have h4 := (txP_len a b).1
          rw [h3] at h4
          exact absurd h4 (by decide +kernel)
        rw [if_neg hz, if_neg (by simp)]
    rw [e] at this
    exact this
  unfold b_pairs_text
  generalize IE.lc [1, 2] (.tup [1, 2]) (.seq (.var 0)) [] (.fs [.var 1, .cst (.str " "), .var 2]) = E at hlc ⊢
  generalize D.lst (bits.map fun p => .str (txP p)) = L at hlc hcall
  simp [exB, exS, evE, evL, hlc, hcall, R.bind, R.st, rok, outD, toD]
end
end PI.C
/-! C7: lists in the place of tuples; QUEUES and ORDERS as texts, and back. -/
namespace PI.C
open PySem PySem.Spec PyProof.Rows L2 PI
section
variable {G : Str → Option Gd}
theorem lists_str (hL : G "_law_lists" = some (.fn d_law_lists)) {k : Nat} (hk : 1 ≤ k) (μ : Mu) (s : Str) : phi G k "_law_lists" [.d (.str s)] μ = some (.ok (.d (.str s)) μ) := by
  rw [phi_fn hL hk]
  generalize phi G (k - 1) = Φ
  show outD false μ.length (exB Φ b_law_lists [some (.d (.str s)), none] μ) = _
  simp (decide := true) [b_law_lists, exB, exS, evE, evL, R.bind, R.st, R.of, views, view, sem, dTys, dTy, tyEq, truth, outD, toD]
theorem lists_tup (hL : G "_law_lists" = some (.fn d_law_lists)) {k : Nat} (hk : 1 ≤ k) (μ : Mu) (xs : List D) (g : D → D) (h : ∀ x ∈ xs, ∀ m, phi G (k - 1) "_law_lists" [.d x] m = some (.ok (.d (g x)) m)) (hl : xs.length ≤ lim) : phi G k "_law_lists" [.d (.tup xs)] μ = some (.ok (.d (.lst (xs.map g))) μ) := by
  rw [phi_fn hL hk]
  generalize phi G (k - 1) = Φ at h ⊢
  show outD false μ.length (exB Φ b_law_lists [some (.d (.tup xs)), none] μ) = _
  have hlc : evE Φ (.lc [1] (.one 1) (.seq (.var 0)) [] (.call "_law_lists" [.var 1])) [some (.d (.tup xs)), none] μ = some (.ok (.d (.lst (xs.map g))) μ) := by
    have ht : evT Φ (.seq (.var 0)) [some (.d (.tup xs)), none] μ = some (.ok xs μ) := by
      simp [evT, evE, R.bind, seqW, dSeq]
    rw [ev_lc_map (fun x => some (g x)) ht (fun x hx acc => ⟨[], ?_⟩) hl, filterMap_some]
    simp [lcF, Tg.put, wipeE, evC, evE, evL, R.bind, h x hx, toD]
  unfold b_law_lists
  generalize IE.lc [1] (.one 1) (.seq (.var 0)) [] (.call "_law_lists" [.var 1]) = E at hlc ⊢
  simp (decide := true) [exB, exS, ↓hlc, evE, evL, R.bind, R.st, R.of, views, view, sem, dTys, dTy, tyEq, truth, outD, toD]
theorem lists_pairs (hL : G "_law_lists" = some (.fn d_law_lists)) {k : Nat} (hk : 3 ≤ k) (μ : Mu) (bits : List (Str × Str)) (hl : bits.length ≤ lim) : phi G k "_law_lists" [.d (.tup (bits.map pD))] μ = some (.ok (.d (.lst (bits.map lD))) μ) := by
  have := lists_tup hL (k := k) (by omega) μ (bits.map pD) (fun x => match x with | .tup [.str a, .str b] => .lst [.str a, .str b] | x => x) (fun x hx m => by
    obtain ⟨p, hp, rfl⟩ := List.mem_map.mp hx
    have := lists_tup hL (k := k - 1) (by omega) m [.str p.1, .str p.2] id (fun y hy m => by
      simp only [List.mem_cons, List.not_mem_nil, or_false] at hy
      rcases hy with rfl | rfl <;> exact lists_str hL (by omega) m _) (by simp [lim])
    exact this) (by simpa using hl)
  rw [List.map_map] at this
  exact this
end
/-! ### QUEUES -/
def qtx (row : List Str) : Str := if row = [] then "-" else Txt.join SP row
structure VQ (row : List Str) : Prop where
  nm : ∀ p ∈ row, nmB p = true
  len : row.length ≤ 1000
/-- joined words without blanks -/
structure VW (ws : List Str) : Prop where
  tm : ∀ p ∈ ws, tame p
  sp : ∀ p ∈ ws, 32 ∉ p.cps.toList
  ne : ∀ p ∈ ws, 1 ≤ p.length ∧ p.length ≤ 20
  nd : ∀ p ∈ ws, p ≠ "-"
  len : ws.length ≤ 1000
theorem VQ.w {row : List Str} (h : VQ row) : VW row where
  tm := fun p hp => nm_tame (h.nm p hp)
  sp := fun p hp => nm_free (h.nm p hp) (by omega)
  ne := fun p hp => by have := nm_ok (h.nm p hp); omega
  nd := fun p hp e => by have := h.nm p hp; rw [e] at this; exact absurd this (by decide +kernel)
  len := h.len
theorem split_words {ws : List Str} (h : VW ws) (hne : ws ≠ []) : Txt.split (Txt.join SP ws) SP = ws :=
  TL.split_join (s := 32) (S := []) sp_list (by decide +kernel) hne fun q hq => h.sp q hq
theorem wj_len {ws : List Str} (h : VW ws) : (Txt.join SP ws).length ≤ lim := by
  have h1 := join_le (y := SP) (ps := ws) (n := 20) (fun q hq => (h.ne q hq).2)
  have h2 : SP.length = 1 := by decide +kernel
  have h3 := h.len
  rw [h2] at h1
  simp only [lim]
  omega
theorem wj_tame {ws : List Str} (h : VW ws) : tame (Txt.join SP ws) := tame_join sp_tame h.tm
theorem wj_dash {ws : List Str} (h : VW ws) (hne : ws ≠ []) : (Txt.join SP ws == ("-" : Str)) = false := by
  rw [beq_eq_false_iff_ne]
  intro e
  have h1 := split_words h hne
  rw [e, show Txt.split ("-" : Str) SP = [("-" : Str)] from by decide +kernel] at h1
  exact h.nd "-" (by rw [← h1]; simp) rfl
theorem wj_ne {ws : List Str} (h : VW ws) (hne : ws ≠ []) : (Txt.join SP ws).length ≠ 0 := by
  intro z
  have h1 := split_words h hne
  have e0 : Txt.join SP ws = Str.empty := by
    rw [len_list] at z
    exact str_ext (by rw [List.eq_nil_of_length_eq_zero z]; rfl)
  rw [e0, show Txt.split Str.empty SP = [Str.empty] from by decide +kernel] at h1
  have := (h.ne Str.empty (by rw [← h1]; simp)).1
  exact absurd this (by decide +kernel)
theorem sem_join {ws : List Str} (h : VW ws) (d : D) (hd : dSeqL d = some (ws.map .str)) : sem .join [.str " ", d] = some (.str (Txt.join SP ws)) := by
  have h1 := join_len (y := SP) (ps := ws) (n := 20) (fun q hq => (h.ne q hq).2)
  have h2 : SP.length = 1 := by decide +kernel
  have h3 := h.len
  show (dSeqL d).bind (fun xs => (dStrs xs).bind fun ys => if (ys.map (·.length)).sum + ys.length * SP.length ≤ lim then some (D.str (Txt.join SP ys)) else none) = _
  have e : dStrs (ws.map D.str) = some ws := by
    have := dStrs_map (fun s : Str => s) ws
    rw [List.map_id'] at this
    exact this
  rw [hd, Option.bind_some, e, Option.bind_some, if_pos]
  refine Nat.le_trans h1 ?_
  rw [h2]
  simp only [lim]
  omega
theorem wj_truth {ws : List Str} (h : VW ws) : truth (.str (Txt.join SP ws)) = some (!ws.isEmpty) := by
  simp only [truth, if_pos (wj_len h)]
  cases ws with
  | nil => rfl
  | cons p r => simpa using wj_ne h (by simp)
section
variable {G : Str → Option Gd}
theorem or_dash {Φ : Phi} {E : IE} {ρ : Env} {μ : Mu} {ws : List Str} (h : VW ws) (hE : evE Φ E ρ μ = some (.ok (.d (.str (Txt.join SP ws))) μ)) : evE Φ (.or E (.cst (.str "-"))) ρ μ = some (.ok (.d (.str (qtx ws))) μ) := by
  have htr := wj_truth h
  by_cases hne : ws = []
  · subst hne
    simp only [evE, hE, R.bind, rok, view, htr, qtx, if_true, Option.bind_some, List.isEmpty_nil, Bool.not_true]
  · have hie : ws.isEmpty = false := by cases ws <;> first | exact absurd rfl hne | rfl
    simp only [evE, hE, R.bind, rok, view, htr, qtx, if_neg hne, Option.bind_some, hie, Bool.not_false]
theorem ret_ok {Φ : Phi} {E : IE} {ρ : Env} {μ m : Mu} {d : D} {n : Nat} (hE : evE Φ E ρ μ = some (.ok (.d d) m)) : outD false n (exB Φ [.ret E] ρ μ) = some (.ok (.d d) (m.take n)) := by
  simp [exB, exS, hE, R.st, outD, toD]
theorem words_text (hT : G "text_of_pieces" = some (.fn d_text_of_pieces)) {k : Nat} (hk : 1 ≤ k) (μ : Mu) (d : D) {ws : List Str} (h : VW ws) (hd : dSeq d = some (ws.map .str)) : phi G k "text_of_pieces" [.d d, .d (.str " ")] μ = some (.ok (.d (.str (qtx ws))) μ) := by
  have h2 : SP.length = 1 := by decide +kernel
  have h3 := h.len
  have e : (if (Txt.join SP ws).length = 0 then ("-" : Str) else Txt.join SP ws) = qtx ws := by
    unfold qtx
    cases ws with
    | nil => decide +kernel
    | cons p r => rw [if_neg (wj_ne h (by simp)), if_neg (by simp)]
  have := text_of_pieces_ok hT hk μ d ws SP 20 hd (fun q hq => (h.ne q hq).2) (by rw [h2]; simp only [lim]; omega) (by rw [h2]; simp [lim])
  rw [e] at this
  exact this
theorem queue_text_ok (hP : G "queue_text" = some (.fn d_queue_text)) (hT : G "text_of_pieces" = some (.fn d_text_of_pieces)) {k : Nat} (hk : 2 ≤ k) (μ : Mu) {row : List Str} (h : VQ row) : phi G k "queue_text" [.d (.tup (row.map .str))] μ = some (.ok (.d (.str (qtx row))) μ) := by
  rw [phi_fn hP (by omega)]
  have hW := words_text hT (k := k - 1) (by omega) μ (.tup (row.map .str)) h.w rfl
  generalize phi G (k - 1) = Φ at hW ⊢
  have hE : evE Φ (.call "text_of_pieces" [.var 0, .cst (.str " ")]) [some (.d (.tup (row.map .str)))] μ = some (.ok (.d (.str (qtx row))) μ) := by
    simp only [evE, evL, R.bind, rok, List.getElem?_cons_zero, hW]
  have := ret_ok (n := μ.length) hE
  rw [List.take_length] at this
  exact this
theorem pieces_words (hPi : G "pieces" = some (.fn d_pieces)) {k : Nat} (hk : 1 ≤ k) (m : Mu) {ws : List Str} (h : VW ws) : phi G k "pieces" [.d (.str (qtx ws)), .d (.str " ")] m = some (.ok (.d (.lst (ws.map .str))) m) := by
  by_cases hne : ws = []
  · subst hne
    exact pieces_ok hPi hk m "-" SP (by decide +kernel) (by decide +kernel) (by decide +kernel)
  · have := pieces_ok hPi hk m (Txt.join SP ws) SP (tame_ok (wj_tame h)) (wj_len h) (by decide +kernel)
    rw [wj_dash h hne, split_words h hne] at this
    simp only [qtx, if_neg hne]
    exact this
theorem queue_from_ok (hN : G "is_name" = some (.fn d_is_name)) (hPi : G "pieces" = some (.fn d_pieces)) (hQ : G "queue_from" = some (.fn d_queue_from)) {k : Nat} (hk : 2 ≤ k) (μ : Mu) {row : List Str} (h : VQ row) :
    phi G k "queue_from" [.d (.str (qtx row))] μ = some (.ok (.d (.tup (row.map .str))) μ) := by
  rw [phi_fn hQ (by omega)]
  have hp := fun m => pieces_words hPi (k := k - 1) (by omega) m h.w
  have hn : ∀ s ∈ row, ∀ m, phi G (k - 1) "is_name" [.d (.str s)] m = some (.ok (.d (.bl true)) m) := fun s hs m => by
    have := is_name_ok hN (k := k - 1) (by omega) m s (by have := nm_ok (h.nm s hs); simp [lim]; omega)
    rw [h.nm s hs] at this
    exact this
  generalize phi G (k - 1) = Φ at hp hn ⊢
  generalize qtx row = t at hp ⊢
  have step : ∀ x ∈ (List.range (row.map D.str).length).zipWith (fun i x => D.tup [.int (i : Nat), x]) (row.map D.str), ∀ ρ m, (∃ a b, ρ = [some (.d (.str t)), some (.d (.lst (row.map .str))), a, b] ∧ m = μ) → ∃ ρ' m', (match Tg.put (.tup [2, 3]) x ρ with
      | none => none
      | some r1 => exB Φ [.ife (.op .not [.call "is_name" [.var 3]]) [.raise "BadText" [.var 2]] []] r1 m) = some (.nx ρ', m') ∧ (∃ a b, ρ' = [some (.d (.str t)), some (.d (.lst (row.map .str))), a, b] ∧ m' = μ) := by
    rintro x hx ρ m ⟨a, b, rfl, rfl⟩
    obtain ⟨j, hj⟩ := List.mem_iff_getElem?.mp hx
    obtain ⟨y, hy, rfl⟩ := enum_get hj
    rw [List.getElem?_map] at hy
    obtain ⟨s, hs, rfl⟩ := Option.map_eq_some_iff.mp hy
    have h1 := hn s (List.mem_of_getElem? hs) m
    refine ⟨_, _, ?_, some (.d (.int j)), some (.d (.str s)), rfl, rfl⟩
    simp [Tg.put, putL, exB, exS, evE, evL, R.bind, R.st, views, view, sem, truth, h1]
  obtain ⟨ρ', m', e1, a, b, rfl, rfl⟩ := lop_inv _ _ _ μ step ⟨none, none, rfl, rfl⟩
  show outD false m'.length (exB Φ b_queue_from [some (.d (.str t)), none, none, none] m') = _
  have q1 : exS Φ (.set (.one 1) (.call "pieces" [.var 0, .cst (.str " ")])) [some (.d (.str t)), none, none, none] m' = some (.nx [some (.d (.str t)), some (.d (.lst (row.map .str))), none, none], m') := by
    simp [exS, evE, evL, R.bind, R.st, hp]
  have q2 : exS Φ (.for_ (.tup [2, 3]) (.enu (.var 1)) [.ife (.op .not [.call "is_name" [.var 3]]) [.raise "BadText" [.var 2]] []]) [some (.d (.str t)), some (.d (.lst (row.map .str))), none, none] m' = some (.nx [some (.d (.str t)), some (.d (.lst (row.map .str))), a, b], m') := by
    have ht : evT Φ (.enu (.var 1)) [some (.d (.str t)), some (.d (.lst (row.map .str))), none, none] m' = some (.ok ((List.range (row.map D.str).length).zipWith (fun i x => D.tup [.int (i : Nat), x]) (row.map D.str)) m') := by
      simp [evT, evE, R.bind, toD]
    simp only [exS, ht, R.st]
    exact e1
  show outD false m'.length (exB Φ [.set (.one 1) (.call "pieces" [.var 0, .cst (.str " ")]), .for_ (.tup [2, 3]) (.enu (.var 1)) [.ife (.op .not [.call "is_name" [.var 3]]) [.raise "BadText" [.var 2]] []], .ret (.op .tuple [.var 1])] [some (.d (.str t)), none, none, none] m') = _
  rw [exB_nx q1, exB_nx q2]
  simp [exB, exS, evE, evL, R.st, R.bind, views, view, sem, outD, toD]
end
end PI.C
/-! C8: ORDERS of at most ten persons as texts, and back. -/
namespace PI.C
open PySem PySem.Spec PyProof.Rows L2 PI
theorem fm_congr {α β : Type} {f g : α → Option β} : ∀ l : List α, (∀ x ∈ l, f x = g x) → l.filterMap f = l.filterMap g
  | [], _ => rfl
  | x :: r, h => by rw [List.filterMap_cons, List.filterMap_cons, h x (by simp), fm_congr r fun y hy => h y (by simp [hy])]
def dg (n : Nat) : Str := toString (n : Int)
theorem dg_list : ∀ n < 10, (dg n).cps.toList = [48 + n] := by decide +kernel
theorem dg_eq {n : Nat} (h : n < 10) : dg n = ⟨#[48 + n]⟩ := str_ext (dg_list n h)
theorem dg_int : ∀ n < 10, PySem.intText? (dg n) = some (n : Int) := by decide +kernel
theorem dg_len {n : Nat} (h : n < 10) : (dg n).length = 1 := by rw [len_list, dg_list n h]; rfl
theorem dg_tame {n : Nat} (h : n < 10) : tame (dg n) := fun c hc => by
  rw [dg_list n h] at hc
  simp at hc
  omega
theorem dg_inj {m n : Nat} (hm : m < 10) (hn : n < 10) (h : dg m = dg n) : m = n := by
  have := congrArg (fun s : Str => s.cps.toList) h
  simp only [dg_list m hm, dg_list n hn, List.cons.injEq, and_true] at this
  omega
/-- the ORDERS of this text -/
structure VO (os : List Nat) : Prop where
  lt : ∀ n ∈ os, n < 10
  nd : os.Nodup
  len : os.length ≤ 10
theorem VO.w {os : List Nat} (h : VO os) : VW (os.map dg) where
  tm := fun p hp => by
    obtain ⟨n, hn, rfl⟩ := List.mem_map.mp hp
    exact dg_tame (h.lt n hn)
  sp := fun p hp => by
    obtain ⟨n, hn, rfl⟩ := List.mem_map.mp hp
    rw [dg_list n (h.lt n hn)]
    simp
    omega
  ne := fun p hp => by
    obtain ⟨n, hn, rfl⟩ := List.mem_map.mp hp
    rw [dg_len (h.lt n hn)]
    omega
  nd := fun p hp e => by
    obtain ⟨n, hn, rfl⟩ := List.mem_map.mp hp
    have e2 := dg_list n (h.lt n hn)
    rw [e, show ("-" : Str).cps.toList = [45] from by decide +kernel] at e2
    simp at e2
    omega
  len := by have := h.len; simp; omega
def oD (n : Nat) : D := .int (n : Nat)
def otx (os : List Nat) : Str := qtx (os.map dg)
def DIG : Str := "0123456789"
theorem dig_list : DIG.cps.toList = [48, 49, 50, 51, 52, 53, 54, 55, 56, 57] := by decide +kernel
section
variable {G : Str → Option Gd}
theorem map_dg (Φ : Phi) (x : Nat) (ρ : Env) (i : Nat) (m : Mu) (hi : ρ[i]? = some (some (.d (oD x)))) (h : x < 10) : evE Φ (.op .str [.var i]) ρ m = some (.ok (.d (.str (dg x))) m) := by
  have e : sem .str [oD x] = some (.str (dg x)) := by
    show (if (x : Int).natAbs < 2 ^ 64 then some (D.str (dg x)) else none) = _
    rw [if_pos (by have : (2 : Nat) ^ 64 = 18446744073709551616 := by decide
                   omega)]
  simp only [evE, evL, R.bind, rok, hi, views, view, e]
theorem order_lc (Φ : Phi) {ρ : Env} {i j : Nat} {μ : Mu} {os : List Nat} (h : VO os) {d : D} (hi : ρ[i]? = some (some (.d d))) (hd : dSeq d = some (os.map oD)) (hj : j < ρ.length) :
    evE Φ (.lc [j] (.one j) (.seq (.var i)) [] (.op .str [.var j])) ρ μ = some (.ok (.d (.lst ((os.map dg).map .str))) μ) := by
  have ht : evT Φ (.seq (.var i)) ρ μ = some (.ok (os.map oD) μ) := by
    simp [evT, evE, R.bind, seqW, hd, hi]
  rw [ev_lc_map (fun x => match x with | .int n => some (.str (dg n.toNat)) | _ => none) ht (fun x hx acc => ?_) (by have := h.len; simp [lim]; omega)]
  · rw [List.filterMap_map, List.map_map, ← filterMap_some]
    rfl
  · obtain ⟨n, hn, rfl⟩ := List.mem_map.mp hx
    refine ⟨[], ?_⟩
    have hf := map_dg Φ n (((wipeE ρ [j])).set j (some (.d (oD n)))) j (μ ++ [.lst acc]) (by simp [wipeE, hj]) (h.lt n hn)
    unfold oD at hf ⊢
    simp only [lcF, Tg.put, evC, R.bind, rok, hf, if_true, toD, List.append_nil, Int.toNat_natCast]
theorem order_text_ok (hP : G "order_text" = some (.fn d_order_text)) (hT : G "text_of_pieces" = some (.fn d_text_of_pieces)) {k : Nat} (hk : 2 ≤ k) (μ : Mu) {os : List Nat} (h : VO os) : phi G k "order_text" [.d (.tup (os.map oD))] μ = some (.ok (.d (.str (otx os))) μ) := by
  rw [phi_fn hP (by omega)]
  have hW := words_text hT (k := k - 1) (by omega) μ (.lst ((os.map dg).map .str)) h.w rfl
  generalize phi G (k - 1) = Φ at hW ⊢
  have hlc := order_lc Φ (ρ := [some (.d (.tup (os.map oD))), none]) (i := 0) (j := 1) (μ := μ) h (d := .tup (os.map oD)) rfl rfl (by simp)
  have hE : evE Φ (.call "text_of_pieces" [.lc [1] (.one 1) (.seq (.var 0)) [] (.op .str [.var 1]), .cst (.str " ")]) [some (.d (.tup (os.map oD))), none] μ = some (.ok (.d (.str (otx os))) μ) := by
    generalize IE.lc [1] (.one 1) (.seq (.var 0)) [] (.op .str [.var 1]) = E at hlc ⊢
    simp only [evE, evL, R.bind, rok, hlc, hW]
    rfl
  have := ret_ok (n := μ.length) hE
  rw [List.take_length] at this
  exact this
theorem written_number_ok (hN : G "is_written_number" = some (.fn d_is_written_number)) {k : Nat} (hk : 1 ≤ k) (μ : Mu) {n : Nat} (h : n < 10) : phi G k "is_written_number" [.d (.str (dg n))] μ = some (.ok (.d (.bl true)) μ) := by
  rw [phi_fn hN hk]
  generalize phi G (k - 1) = Φ
  show outD false μ.length (exB Φ b_is_written_number [some (.d (.str (dg n))), none] μ) = _
  have hs : (dg n).length ≤ lim := by rw [dg_len h]; simp [lim]
  have hl : ∀ ρ : Env, ρ = [some (.d (.str (dg n))), none] → evE Φ (.lc [1] (.one 1) (.seq (.var 0)) [] (.op .in_ [.var 1, .cst (.str "0123456789")])) ρ μ = some (.ok (.d (.lst ((dg n).cps.toList.map fun c => .bl (decide (48 ≤ c ∧ c ≤ 57))))) μ) := by
    intro ρ hρ
    subst hρ
    have ht : evT Φ (.seq (.var 0)) [some (.d (.str (dg n))), none] μ = some (.ok ((dg n).cps.toList.map fun c => D.str ⟨#[c]⟩) μ) := by
      simp [evT, evE, R.bind, seqW, dSeq, hs]
    rw [ev_lc_map (fun x => match x with | .str z => (dIn (.str z) (.str DIG)).map .bl | _ => none) ht (fun x hx acc => ?_) (by simpa [Str.length, lim] using hs)]
    · rw [List.filterMap_map]
      congr 5
      rw [← filterMap_some]
      congr 1
      funext c
      show (dIn (.str ⟨#[c]⟩) (.str DIG)).map D.bl = _
      rw [dIn_sign, dig_list]
      have : decide (c ∈ [48, 49, 50, 51, 52, 53, 54, 55, 56, 57]) = decide (48 ≤ c ∧ c ≤ 57) := by
        congr 1
        simp only [List.mem_cons, List.not_mem_nil, or_false, eq_iff_iff]
        omega
      rw [this]
      rfl
    · obtain ⟨c, hc, rfl⟩ := List.mem_map.mp hx
      refine ⟨[], ?_⟩
      have e := dIn_sign c DIG
      simp only [DIG] at e ⊢
      simp [lcF, Tg.put, wipeE, evC, evE, evL, R.bind, views, view, sem, toD, e]
  have ha := all_map (Φ := Φ) (ρ := [some (.d (.str (dg n))), none]) (fun c => decide (48 ≤ c ∧ c ≤ 57)) (dg n).cps.toList (hl _ rfl)
  have e1 : (dg n).cps.toList.all (fun c => decide (48 ≤ c ∧ c ≤ 57)) = true := by
    rw [dg_list n h]
    simp
    omega
  rw [e1] at ha
  have e2 : sem .eq [.str (dg n), .str ""] = some (.bl false) := by
    show (dEq (.str (dg n)) (.str "")).map D.bl = _
    rw [dEq_str _ _ (tame_ok (dg_tame h)) (by decide +kernel)]
    have : (dg n == ("" : Str)) = false := by
      rw [beq_eq_false_iff_ne]
      intro e
      have := dg_len h
      rw [e] at this
      exact absurd this (by decide +kernel)
    rw [this]
    rfl
  have e3 : (dg n == ("0" : Str) || !(Txt.startswith (dg n) ("0" : Str))) = true := by
    have : ∀ n < 10, (dg n == ("0" : Str) || !(Txt.startswith (dg n) ("0" : Str))) = true := by decide +kernel
    exact this n h
  have e4 : sem .eq [.str (dg n), .str "0"] = some (.bl (dg n == ("0" : Str))) := by
    show (dEq (.str (dg n)) (.str "0")).map D.bl = _
    rw [dEq_str _ _ (tame_ok (dg_tame h)) (by decide +kernel)]
    rfl
  have e5 : sem .starts [.str (dg n), .str "0"] = some (.bl (Txt.startswith (dg n) ("0" : Str))) := rfl
  have n1 : sem .not [.bl true] = some (.bl false) := rfl
  have n2 : sem .not [.bl false] = some (.bl true) := rfl
  generalize hz : dg n = z at *
  unfold b_is_written_number
  generalize IE.op .all [.lc [1] (.one 1) (.seq (.var 0)) [] (.op .in_ [.var 1, .cst (.str "0123456789")])] = E at ha ⊢
  cases hb : z == ("0" : Str) with
  | true =>
    rw [hb] at e4
    simp only [exB, exS, evE, evL, ha, R.bind, R.st, rok, views, view, e2, e4, e5, n1, n2, truth, outD, toD, List.getElem?_cons_zero, Option.bind_some, List.take_length, Bool.false_eq_true, if_false]
  | false =>
    rw [hb] at e4 e3
    have e6 : Txt.startswith z ("0" : Str) = false := by simpa using e3
    rw [e6] at e5
    simp only [exB, exS, evE, evL, ha, R.bind, R.st, rok, views, view, e2, e4, e5, n1, n2, truth, outD, toD, List.getElem?_cons_zero, Option.bind_some, List.take_length, Bool.false_eq_true, if_false]
theorem find_str (ks : List Str) (p : Str) : kFind false (ks.map .str) (.str p) = some (ks.findIdx? fun q => decide (q = p)) := by
  have e : ∀ q : Str, keyD (.str q) = some (.inr q) := fun q => rfl
  simp only [kFind, e, Option.map_some]
  congr 1
  rw [List.findIdx?_map]
  congr 1
  funext q
  show decide (keyD (.str q) = some (.inr p)) = decide (q = p)
  rw [e]
  simp
def ofBody : List IS := match b_order_from with
  | [_, .for_ _ _ b, _] => b
  | _ => []
theorem of_eq : b_order_from = [.setm 1 (.dnew false), .for_ (.tup [2, 3]) (.enu (.call "pieces" [.var 0, .cst (.str " ")])) ofBody, .ret (.op .tuple [.lc [4] (.one 4) (.seq (.var 1)) [] (.op .int [.var 4])])] := rfl
def rhoO (t : D) (r : Nat) (a b : Option W) : Env := [some (.d t), some (.r r), a, b, none]
theorem of_turn {Φ : Phi} (t : D) (μ : Mu) (pre : List Str) (p : Str) (vs : List D) (i : Nat) (hN : ∀ m, Φ "is_written_number" [.d (.str p)] m = some (.ok (.d (.bl true)) m)) (h5 : p ∉ pre) (h6 : pre.length < lim) :
    exB Φ ofBody (rhoO t μ.length (some (.d (.int i))) (some (.d (.str p)))) (μ ++ [.dic false (pre.map .str) vs]) = some (.nx (rhoO t μ.length (some (.d (.int i))) (some (.d (.str p)))), μ ++ [.dic false ((pre ++ [p]).map .str) (vs ++ [.bl true])]) := by
  have hg : (μ ++ [O.dic false (pre.map .str) vs])[μ.length]? = some (.dic false (pre.map .str) vs) := by simp
  have hk2 : kFind false (pre.map .str) (.str p) = some none := by
    rw [find_str]
    congr 1
    rw [List.findIdx?_eq_none_iff]
    intro q hq
    simp only [decide_eq_false_iff_not]
    exact fun z => h5 (z ▸ hq)
  have hin : sem .in_ [.str p, .dic false (pre.map .str) vs] = some (.bl false) := by
    show (dIn (.str p) (.dic false (pre.map .str) vs)).map D.bl = _
    simp only [dIn, hk2]
    rfl
  have hst : (μ ++ [O.dic false (pre.map .str) vs]).set μ.length (.dic false (pre.map .str ++ [.str p]) (vs ++ [.bl true])) = μ ++ [.dic false ((pre ++ [p]).map .str) (vs ++ [.bl true])] := by
    simp
  rw [← hst]
  have hpl : (pre.map D.str).length < lim := by simpa using h6
  have n1 : sem .not [.bl true] = some (.bl false) := rfl
  have hv : view (μ ++ [O.dic false (pre.map .str) vs]) (.r μ.length) = some (.dic false (pre.map .str) vs) := by
    simp [view]
  have w := hN (μ ++ [O.dic false (pre.map .str) vs])
  generalize hM : μ ++ [O.dic false (pre.map .str) vs] = M at hg w hv ⊢
  have hv2 : view M (.d (.str p)) = some (.str p) := rfl
  have hv3 : view M (.d (.bl true)) = some (.bl true) := rfl
  have hv4 : view M (.d (.bl false)) = some (.bl false) := rfl
  simp only [ofBody, b_order_from, rhoO, exB, exS, evE, evL, R.bind, R.st, rok, views, hv, hv2, hv3, hv4, hin, w, truth, toD, hg, hk2, if_pos hpl, List.getElem?_cons_succ, List.getElem?_cons_zero, List.set_cons_succ, List.set_cons_zero, Option.bind_some, n1]
theorem order_from_ok (hN : G "is_written_number" = some (.fn d_is_written_number)) (hPi : G "pieces" = some (.fn d_pieces)) (hO : G "order_from" = some (.fn d_order_from)) {k : Nat} (hk : 2 ≤ k) (μ : Mu) {os : List Nat} (h : VO os) :
    phi G k "order_from" [.d (.str (otx os))] μ = some (.ok (.d (.tup (os.map oD))) μ) := by
  rw [phi_fn hO (by omega)]
  have hp := fun m => pieces_words hPi (k := k - 1) (by omega) m h.w
  have hn : ∀ n ∈ os, ∀ m, phi G (k - 1) "is_written_number" [.d (.str (dg n))] m = some (.ok (.d (.bl true)) m) := fun n hn m => written_number_ok hN (by omega) m (h.lt n hn)
  generalize phi G (k - 1) = Φ at hp hn ⊢
  rw [show qtx (os.map dg) = otx os from rfl] at hp
  generalize otx os = t at hp ⊢
  have step : ∀ j x ρ m, 0 ≤ j → ((List.range ((os.map dg).map D.str).length).zipWith (fun i x => D.tup [.int (i : Nat), x]) ((os.map dg).map D.str))[j - 0]? = some x → (∃ a b, ρ = rhoO (.str t) μ.length a b ∧ m = μ ++ [.dic false (((os.take j).map dg).map .str) (List.replicate j (.bl true))]) → ∃ ρ' m', (match Tg.put (.tup [2, 3]) x ρ with
      | none => none
      | some r1 => exB Φ ofBody r1 m) = some (.nx ρ', m') ∧ (∃ a b, ρ' = rhoO (.str t) μ.length a b ∧ m' = μ ++ [.dic false (((os.take (j + 1)).map dg).map .str) (List.replicate (j + 1) (.bl true))]) := by
    rintro j x ρ m _ hx ⟨a, b, rfl, rfl⟩
    rw [Nat.sub_zero] at hx
    obtain ⟨y, hy, rfl⟩ := enum_get hx
    rw [List.getElem?_map, List.getElem?_map] at hy
    obtain ⟨s, hs, rfl⟩ := Option.map_eq_some_iff.mp hy
    obtain ⟨n, hn0, rfl⟩ := Option.map_eq_some_iff.mp hs
    have hnm := List.mem_of_getElem? hn0
    have hjl := (List.getElem?_eq_some_iff.mp hn0).1
    have hlen := h.len
    have h5 : dg n ∉ (os.take j).map dg := fun hm => by
      obtain ⟨q, hq, e⟩ := List.mem_map.mp hm
      have := dg_inj (h.lt q (List.mem_of_mem_take hq)) (h.lt n hnm) e
      subst this
      obtain ⟨i, hi, hip⟩ := mem_take_ix hq
      exact absurd rfl (pw_get h.nd hip hn0 hi)
    have tn := of_turn (Φ := Φ) (.str t) μ ((os.take j).map dg) (dg n) (List.replicate j (.bl true)) j (hn n hnm) h5 (by simp [lim]; omega)
    refine ⟨_, _, tn, _, _, rfl, ?_⟩
    rw [take_succ_get hn0, List.replicate_succ']
    simp only [List.map_append, List.map_cons, List.map_nil]
  obtain ⟨ρ', m', e1, a, b, rfl, rfl⟩ := lop_ix (f := fun x r m => match Tg.put (.tup [2, 3]) x r with
      | none => none
      | some r1 => exB Φ ofBody r1 m) (fun j ρ m => ∃ a b, ρ = rhoO (.str t) μ.length a b ∧ m = μ ++ [.dic false (((os.take j).map dg).map .str) (List.replicate j (.bl true))])
    os.length ((List.range ((os.map dg).map D.str).length).zipWith (fun i x => D.tup [.int (i : Nat), x]) ((os.map dg).map D.str)) 0 (rhoO (.str t) μ.length none none) (μ ++ [.dic false [] []]) (by simp) step ⟨none, none, rfl, by simp⟩
  rw [List.take_length] at e1
  show outD false μ.length (exB Φ b_order_from [some (.d (.str t)), none, none, none, none] μ) = _
  rw [of_eq]
  have q1 : exS Φ (.setm 1 (.dnew false)) [some (.d (.str t)), none, none, none, none] μ = some (.nx (rhoO (.str t) μ.length none none), μ ++ [.dic false [] []]) := by
    simp [exS, evE, R.st, rhoO]
  have q2 : exS Φ (.for_ (.tup [2, 3]) (.enu (.call "pieces" [.var 0, .cst (.str " ")])) ofBody) (rhoO (.str t) μ.length none none) (μ ++ [.dic false [] []]) = some (.nx (rhoO (.str t) μ.length a b), μ ++ [.dic false ((os.map dg).map .str) (List.replicate os.length (.bl true))]) := by
    have ht : evT Φ (.enu (.call "pieces" [.var 0, .cst (.str " ")])) (rhoO (.str t) μ.length none none) (μ ++ [.dic false [] []]) = some (.ok ((List.range ((os.map dg).map D.str).length).zipWith (fun i x => D.tup [.int (i : Nat), x]) ((os.map dg).map D.str)) (μ ++ [.dic false [] []])) := by
      simp only [evT, evE, evL, R.bind, rok, rhoO, List.getElem?_cons_succ, List.getElem?_cons_zero, hp, toD]
    simp only [exS, ht, R.st]
    exact e1
  have q3 : evE Φ (.lc [4] (.one 4) (.seq (.var 1)) [] (.op .int [.var 4])) (rhoO (.str t) μ.length a b) (μ ++ [.dic false ((os.map dg).map .str) (List.replicate os.length (.bl true))]) = some (.ok (.d (.lst (os.map oD))) (μ ++ [.fz (.dic false ((os.map dg).map .str) (List.replicate os.length (.bl true)))])) := by
    have ht : evT Φ (.seq (.var 1)) (rhoO (.str t) μ.length a b) (μ ++ [.dic false ((os.map dg).map .str) (List.replicate os.length (.bl true))]) = some (.ok ((os.map dg).map .str) (μ ++ [.fz (.dic false ((os.map dg).map .str) (List.replicate os.length (.bl true)))])) := by
      simp [evT, evE, R.bind, seqW, rhoO]
    rw [ev_lc_map (fun x => match x with | .str z => (PySem.intText? z).map .int | _ => none) ht (fun x hx acc => ?_) (by have := h.len; simp [lim]; omega)]
    · rw [List.filterMap_map, List.filterMap_map]
      congr 5
      rw [← filterMap_some]
      refine fm_congr _ fun n hn => ?_
      show (PySem.intText? (dg n)).map D.int = some (oD n)
      rw [dg_int n (h.lt n hn)]
      rfl
    · obtain ⟨s, hs, rfl⟩ := List.mem_map.mp hx
      obtain ⟨n, hn, rfl⟩ := List.mem_map.mp hs
      refine ⟨[], ?_⟩
      have e : sem .int [.str (dg n)] = some (.int n) := by
        show (if (dg n).length ≤ 640 then (PySem.intText? (dg n)).map D.int else none) = _
        rw [dg_len (h.lt n hn), if_pos (by omega), dg_int n (h.lt n hn)]
        rfl
      simp only [lcF, Tg.put, wipeE, rhoO, evC, evE, evL, R.bind, rok, views, view, List.set_cons_succ, List.set_cons_zero, List.getElem?_cons_succ, List.getElem?_cons_zero, Option.bind_some, e, if_true, toD, List.append_nil, dg_int n (h.lt n hn), Option.map_some]
  rw [exB_nx q1, exB_nx q2]
  generalize IE.lc [4] (.one 4) (.seq (.var 1)) [] (.op .int [.var 4]) = E at q3 ⊢
  simp [-List.map_map, exB, exS, evE, evL, q3, R.st, R.bind, views, view, sem, outD, toD]
end
end PI.C
/-! C9: drawn PAIRS and QUEUES. -/
namespace PI.C
open PySem PySem.Spec PyProof.Rows L2 PI
theorem toks_pair (p : Str × Str) : PySem.W.keyToks (pP p) = [.inl 1, .inr p.1.cps.toList, .inl 1, .inr p.2.cps.toList, .inl 0] := by
  simp [PySem.W.keyToks, PySem.W.keyToksAll]
theorem lt_total_pair {p q : Str × Str} (h1 : PySem.W.dataLt (pP p) (pP q) = false) (h2 : PySem.W.dataLt (pP q) (pP p) = false) : p = q := by
  have := (PyProof.Rows.listOrd PyProof.Rows.itemOrd).total (PySem.W.keyToks (pP p)) (PySem.W.keyToks (pP q)) h1 h2
  rw [toks_pair, toks_pair] at this
  obtain ⟨a, b⟩ := p
  obtain ⟨c, d⟩ := q
  simp only [List.cons.injEq, Sum.inr.injEq, and_true, true_and] at this
  rw [str_ext this.1, str_ext this.2]
theorem nd_ix {α : Type} {l : List α} (h : l.Nodup) {i j : Nat} {x : α} (hi : l[i]? = some x) (hj : l[j]? = some x) : i = j := by
  rcases Nat.lt_trichotomy i j with a | a | a
  · exact absurd rfl (pw_get h hi hj a)
  · exact a
  · exact absurd rfl (pw_get h hj hi a)
/-- no PAIR twice or both ways -/
def Nb (p q : Str × Str) : Prop := p ≠ q ∧ q ≠ (p.2, p.1)
theorem Nb.symm {p q : Str × Str} (h : Nb p q) : Nb q p := ⟨fun e => h.1 e.symm, fun e => h.2 (by rw [e])⟩
structure Fi (tags : List Str) (i j : Nat) (fs : List (Str × Str)) : Prop where
  src : ∀ p ∈ fs, ∃ a b x y, b < a ∧ (a < i ∨ (a = i ∧ b < j)) ∧ tags[a]? = some x ∧ tags[b]? = some y ∧ (p = (x, y) ∨ p = (y, x))
  pw : fs.Pairwise Nb
  len : fs.length ≤ i * tags.length + j
theorem Fi.next {tags : List Str} {i : Nat} {fs : List (Str × Str)} (h : Fi tags i i fs) (hi : i < tags.length) : Fi tags (i + 1) 0 fs where
  src := fun p hp => by
    obtain ⟨a, b, x, y, h1, h2, h3⟩ := h.src p hp
    exact ⟨a, b, x, y, h1, .inl (by omega), h3⟩
  pw := h.pw
  len := by
    have := h.len
    rw [Nat.succ_mul]
    omega
theorem Fi.skip {tags : List Str} {i j : Nat} {fs : List (Str × Str)} (h : Fi tags i j fs) : Fi tags i (j + 1) fs where
  src := fun p hp => by
    obtain ⟨a, b, x, y, h1, h2, h3⟩ := h.src p hp
    exact ⟨a, b, x, y, h1, by omega, h3⟩
  pw := h.pw
  len := by have := h.len; omega
theorem Fi.add {tags : List Str} (hn : tags.Nodup) {i j : Nat} {fs : List (Str × Str)} (h : Fi tags i j fs) (hij : j < i) {x y : Str} (hx : tags[i]? = some x) (hy : tags[j]? = some y) {p : Str × Str} (hp : p = (x, y) ∨ p = (y, x)) : Fi tags i (j + 1) (fs ++ [p]) where
  src := fun q hq => by
    rcases List.mem_append.mp hq with hq | hq
    · exact (h.skip).src q hq
    · obtain rfl : q = p := by simpa using hq
      exact ⟨i, j, x, y, hij, .inr ⟨rfl, by omega⟩, hx, hy, hp⟩
  pw := by
    rw [List.pairwise_append]
    refine ⟨h.pw, by simp, fun q hq r hr => ?_⟩
    obtain rfl : r = p := by simpa using hr
    obtain ⟨a, b, u, v, h1, h2, h3, h4, h5⟩ := h.src q hq
    have z : ¬ ((u = x ∧ v = y) ∨ (u = y ∧ v = x)) := by
      rintro (⟨rfl, rfl⟩ | ⟨rfl, rfl⟩)
      · have := nd_ix hn h3 hx
        have := nd_ix hn h4 hy
        omega
      · have := nd_ix hn h3 hy
        have := nd_ix hn h4 hx
        omega
    constructor
    · rcases hp with rfl | rfl <;> rcases h5 with rfl | rfl <;> intro e <;> simp only [Prod.mk.injEq] at e <;> exact z (by first | exact .inl e | exact .inl ⟨e.2, e.1⟩ | exact .inr e | exact .inr ⟨e.2, e.1⟩)
    · rcases hp with rfl | rfl <;> rcases h5 with rfl | rfl <;> intro e <;> simp only [Prod.mk.injEq] at e <;> exact z (by first | exact .inl ⟨e.1.symm, e.2.symm⟩ | exact .inl ⟨e.2.symm, e.1.symm⟩ | exact .inr ⟨e.1.symm, e.2.symm⟩ | exact .inr ⟨e.2.symm, e.1.symm⟩)
  len := by have := h.len; simp; omega
theorem Fi.vb {tags : List Str} (hn : tags.Nodup) (hnm : ∀ t ∈ tags, nmB t = true) (hl : tags.length ≤ 30) {fs : List (Str × Str)} (h : Fi tags tags.length 0 fs) : VB (gSort pP fs) := by
  have hp := gSort_perm pP fs
  have h1 : ∀ p ∈ gSort pP fs, nmB p.1 = true ∧ nmB p.2 = true ∧ p.1 ≠ p.2 := fun p hm => by
    obtain ⟨a, b, x, y, hab, _, hx, hy, e⟩ := h.src p (hp.mem_iff.mp hm)
    have n1 := hnm x (List.mem_of_getElem? hx)
    have n2 := hnm y (List.mem_of_getElem? hy)
    have ne : x ≠ y := fun e => by
      subst e
      have := nd_ix hn hx hy
      omega
    rcases e with rfl | rfl
    · exact ⟨n1, n2, ne⟩
    · exact ⟨n2, n1, fun e => ne e.symm⟩
  have pw : (gSort pP fs).Pairwise Nb := (hp.pairwise_iff (R := Nb) fun h => h.symm).mpr h.pw
  refine ⟨h1, ?_, ?_, ?_⟩
  · refine (pw.and (gSort_sorted pP fs)).imp fun {p q} ⟨a, b⟩ => ?_
    cases hlt : PySem.W.dataLt (pP p) (pP q) with
    | true => rfl
    | false =>
      exact absurd (lt_total_pair hlt (by simpa [gLe] using b)) a.1
  · intro p hm q hq
    have : ∀ (l : List (Str × Str)), l.Pairwise Nb → (∀ p ∈ l, p.1 ≠ p.2) → ∀ p ∈ l, ∀ q ∈ l, q ≠ (p.2, p.1) := by
      intro l
      induction l with
      | nil => intro _ _ p hp; cases hp
      | cons x l ih =>
        intro hw hd p hp q hq
        rw [List.pairwise_cons] at hw
        rcases List.mem_cons.mp hp with rfl | hp'
        · rcases List.mem_cons.mp hq with rfl | hq'
          · intro e
            exact hd q (by simp) (congrArg Prod.fst e)
          · exact (hw.1 q hq').2
        · rcases List.mem_cons.mp hq with rfl | hq'
          · exact (hw.1 p hp').symm.2
          · exact ih hw.2 (fun p hp => hd p (by simp [hp])) p hp' q hq'
    exact this _ pw (fun p hp => (h1 p hp).2.2) p hm q hq
  · have := h.len
    rw [hp.length_eq]
    have h2 : tags.length * tags.length ≤ 30 * 30 := Nat.mul_le_mul hl hl
    omega
def prIn : List IS := [.set (.one 5) (.call "_law_take" [.var 0, .cst (.int 3)]), .ife (.op .gt [.var 5, .cst (.int 0)]) [.app (.var 2) (.ite (.op .eq [.var 5, .cst (.int 1)]) (.tup [.op .ix [.var 1, .var 3], .op .ix [.var 1, .var 4]]) (.tup [.op .ix [.var 1, .var 4], .op .ix [.var 1, .var 3]]))] []]
theorem pr_eq : b_law_pairs = [.setm 2 (.lst []), .for_ (.one 3) (.rng1 (.op .len [.var 1])) [.for_ (.one 4) (.rng1 (.var 3)) prIn], .ret (.op .tuple [.op .sorted [.var 2]])] := rfl
def rhoR (b L : Nat) (tags : List Str) (a c d : Option W) : Env := [some (.r b), some (.d (.lst (tags.map .str))), some (.r L), a, c, d]
theorem pr_turn {Φ : Phi} (μ : Mu) (b : Nat) (o1 o2 : O) (tags : List Str) (fs : List (Str × Str)) (i j v : Nat) (x y : Str) (d : Option W) (hb : b < μ.length) (hv : v < 3) (hx : tags[i]? = some x) (hy : tags[j]? = some y) (hl : fs.length < lim) (hi : i < 1000) (hj : j < 1000)
    (hT : Φ "_law_take" [.r b, .d (.int 3)] (μ.set b o1 ++ [.lst (fs.map pD)]) = some (.ok (.d (.int v)) (μ.set b o2 ++ [.lst (fs.map pD)]))) :
    ∃ fs', exB Φ prIn (rhoR b μ.length tags (some (.d (.int i))) (some (.d (.int j))) d) (μ.set b o1 ++ [.lst (fs.map pD)]) = some (.nx (rhoR b μ.length tags (some (.d (.int i))) (some (.d (.int j))) (some (.d (.int v)))), μ.set b o2 ++ [.lst (fs'.map pD)]) ∧ (fs' = fs ∨ ∃ p, (p = (x, y) ∨ p = (y, x)) ∧ fs' = fs ++ [p]) := by
  have il : i < tags.length := (List.getElem?_eq_some_iff.mp hx).1
  have jl : j < tags.length := (List.getElem?_eq_some_iff.mp hy).1
  have hg : (μ.set b o2 ++ [O.lst (fs.map pD)])[μ.length]? = some (.lst (fs.map pD)) := by
    rw [List.getElem?_append_right (by simp)]
    simp
  have hs : ∀ ys : List D, (μ.set b o2 ++ [O.lst (fs.map pD)]).set μ.length (.lst ys) = μ.set b o2 ++ [.lst ys] := fun ys => by
    rw [List.set_append_right _ _ (by simp)]
    simp
  have ix : ∀ (n : Nat) (z : Str), n < tags.length → n < 1000 → tags[n]? = some z → sem .ix [.lst (tags.map .str), .int n] = some (.str z) := fun n z hn h2 hz => by
    show dIx (.lst (tags.map .str)) (.int n) = _
    have h63 : -(2 ^ 63) ≤ (n : Int) ∧ (n : Int) < 2 ^ 63 := ⟨by omega, by omega⟩
    simp [dIx, atI, ixN_nat hn, hz]
  have ix1 := ix i x il hi hx
  have ix2 := ix j y jl hj hy
  have hll : (fs.map pD).length < lim := by simpa using hl
  have l2 : ∀ p q : D, [p, q].length ≤ lim := fun p q => by simp [lim]
  rcases (by omega : v = 0 ∨ v = 1 ∨ v = 2) with rfl | rfl | rfl
  · refine ⟨fs, ?_, .inl rfl⟩
    have g : sem .gt [.int ((0 : Nat) : Int), .int 0] = some (.bl false) := by simp (decide := true) [sem, dCmp]
    simp only [prIn, rhoR, exB, exS, evE, evL, R.bind, R.st, rok, Tg.put, hT, toD, toDs, views, view, g, truth, List.getElem?_cons_succ, List.getElem?_cons_zero, List.set_cons_succ, List.set_cons_zero, Option.bind_some]
  · refine ⟨fs ++ [(x, y)], ?_, .inr ⟨_, .inl rfl, rfl⟩⟩
    have e : sem .eq [.int ((1 : Nat) : Int), .int 1] = some (.bl true) := by simp (decide := true) [sem, dEq_int]
    have g : sem .gt [.int ((1 : Nat) : Int), .int 0] = some (.bl true) := by simp (decide := true) [sem, dCmp]
    simp only [prIn, rhoR, exB, exS, evE, evL, R.bind, R.st, rok, Tg.put, hT, toD, toDs, views, view, g, e, ix1, ix2, truth, List.getElem?_cons_succ, List.getElem?_cons_zero, List.set_cons_succ, List.set_cons_zero, Option.bind_some, hg, hs, if_pos hll, l2, if_true, List.map_append, List.map_cons, List.map_nil]
  · refine ⟨fs ++ [(y, x)], ?_, .inr ⟨_, .inr rfl, rfl⟩⟩
    have e : sem .eq [.int ((2 : Nat) : Int), .int 1] = some (.bl false) := by simp (decide := true) [sem, dEq_int]
    have g : sem .gt [.int ((2 : Nat) : Int), .int 0] = some (.bl true) := by simp (decide := true) [sem, dCmp]
    simp only [prIn, rhoR, exB, exS, evE, evL, R.bind, R.st, rok, Tg.put, hT, toD, toDs, views, view, g, e, ix1, ix2, truth, List.getElem?_cons_succ, List.getElem?_cons_zero, List.set_cons_succ, List.set_cons_zero, Option.bind_some, hg, hs, if_pos hll, l2, if_true, List.map_append, List.map_cons, List.map_nil]
end PI.C
/-! C10: drawn PAIRS and QUEUES, the defs. -/
namespace PI.C
open PySem PySem.Spec PyProof.Rows L2 PI
section
variable {G : Str → Option Gd}
def TakeOk (Φ : Phi) : Prop := ∀ (μ : Mu) (b n : Nat) (o : O) (m : Int), μ[b]? = some o → Bx (n + 1) o → 0 < m → m < 1073741824 → ∃ (v : Nat) (o' : O), (v : Int) < m ∧ Bx n o' ∧ Φ "_law_take" [.r b, .d (.int m)] μ = some (.ok (.d (.int v)) (μ.set b o'))
theorem takeOk (hT : G "_law_take" = some (.fn d_law_take)) {k : Nat} (hk : 1 ≤ k) : TakeOk (phi G k) := fun μ b n o m h1 h2 h3 h4 => take_ok hT hk m h1 h2 h3 h4
theorem pairs_run {Φ : Phi} (hT : TakeOk Φ) {μ : Mu} {b n : Nat} {o : O} (tags : List Str) (hb : μ[b]? = some o) (ho : Bx (n + tags.length * tags.length) o) (hn : tags.Nodup) (hnm : ∀ t ∈ tags, nmB t = true) (hl : tags.length ≤ 30) :
    ∃ (bits : List (Str × Str)) (o' : O), VB bits ∧ Bx n o' ∧ callD d_law_pairs Φ [.r b, .d (.lst (tags.map .str))] μ = some (.ok (.d (.tup (bits.map pD))) (μ.set b o')) := by
  have hbl : b < μ.length := (List.getElem?_eq_some_iff.mp hb).1
  have step : ∀ i ρ m, i < tags.length → (∃ (fs : List (Str × Str)) (o1 : O) (a c d : Option W), ρ = rhoR b μ.length tags a c d ∧ m = μ.set b o1 ++ [.lst (fs.map pD)] ∧ Fi tags i 0 fs ∧ Bx (n + (tags.length - i) * tags.length) o1) →
      ∃ ρ' m', forF (Φ) (.one 3) [.for_ (.one 4) (.rng1 (.var 3)) prIn] (.int (i : Nat)) ρ m = some (.nx ρ', m') ∧
      ∃ (fs : List (Str × Str)) (o1 : O) (a c d : Option W), ρ' = rhoR b μ.length tags a c d ∧ m' = μ.set b o1 ++ [.lst (fs.map pD)] ∧ Fi tags (i + 1) 0 fs ∧ Bx (n + (tags.length - (i + 1)) * tags.length) o1 := by
    rintro i ρ m hi ⟨fs, o1, a, c, d, rfl, rfl, hF, hB⟩
    have hq : (tags.length - i) * tags.length = (tags.length - (i + 1)) * tags.length + tags.length := by
      rw [show tags.length - i = (tags.length - (i + 1)) + 1 by omega, Nat.succ_mul]
    generalize hQ : (tags.length - (i + 1)) * tags.length = Q at hq ⊢
    have inner : ∀ j ρ m, j < i → (∃ (fs : List (Str × Str)) (o1 : O) (c d : Option W), ρ = rhoR b μ.length tags (some (.d (.int i))) c d ∧ m = μ.set b o1 ++ [.lst (fs.map pD)] ∧ Fi tags i j fs ∧ Bx (n + Q + (i - j)) o1) →
        ∃ ρ' m', forF (Φ) (.one 4) prIn (.int (j : Nat)) ρ m = some (.nx ρ', m') ∧
        ∃ (fs : List (Str × Str)) (o1 : O) (c d : Option W), ρ' = rhoR b μ.length tags (some (.d (.int i))) c d ∧ m' = μ.set b o1 ++ [.lst (fs.map pD)] ∧ Fi tags i (j + 1) fs ∧ Bx (n + Q + (i - (j + 1))) o1 := by
      rintro j ρ m hj ⟨fs, o1, c, d, rfl, rfl, hF, hB⟩
      have hb1 : (μ.set b o1 ++ [O.lst (fs.map pD)])[b]? = some o1 := by
        rw [List.getElem?_append_left (by simpa using hbl), List.getElem?_set_self hbl]
      obtain ⟨v, o2, t1, t2, t3⟩ := hT (μ.set b o1 ++ [O.lst (fs.map pD)]) b (n + Q + (i - (j + 1))) o1 3 hb1 (by rw [show n + Q + (i - (j + 1)) + 1 = n + Q + (i - j) by omega]; exact hB) (by omega) (by omega)
      have hs : (μ.set b o1 ++ [O.lst (fs.map pD)]).set b o2 = μ.set b o2 ++ [O.lst (fs.map pD)] := by
        rw [List.set_append_left _ _ (by simpa using hbl), List.set_set]
      rw [hs] at t3
      have hx : tags[i]? = some tags[i] := List.getElem?_eq_getElem hi
      have hy : tags[j]? = some (tags[j]'(by omega)) := List.getElem?_eq_getElem (by omega)
      have hlen := hF.len
      have h30 : i * tags.length ≤ 30 * 30 := Nat.mul_le_mul (by omega) hl
      obtain ⟨fs', e, hfs⟩ := pr_turn μ b o1 o2 tags fs i j v _ _ d hbl (by omega) hx hy (by simp only [lim]; omega) (by omega) (by omega) t3
      refine ⟨_, _, (forF_put rfl).trans e, fs', o2, _, _, rfl, rfl, ?_, t2⟩
      rcases hfs with rfl | ⟨p, hp, rfl⟩
      · exact hF.skip
      · exact hF.add hn hj hx hy hp
    obtain ⟨ρ', m', e1, fs', o1', c', d', rfl, rfl, hF', hB'⟩ := lop_rng (f := forF (Φ) (.one 4) prIn) (fun j ρ m => ∃ (fs : List (Str × Str)) (o1 : O) (c d : Option W), ρ = rhoR b μ.length tags (some (.d (.int i))) c d ∧ m = μ.set b o1 ++ [.lst (fs.map pD)] ∧ Fi tags i j fs ∧ Bx (n + Q + (i - j)) o1) i (rhoR b μ.length tags (some (.d (.int i))) c d) (μ.set b o1 ++ [.lst (fs.map pD)]) inner
      ⟨fs, o1, c, d, rfl, rfl, hF, hB.mono (by omega)⟩
    refine ⟨rhoR b μ.length tags (some (.d (.int i))) c' d', μ.set b o1' ++ [.lst (fs'.map pD)], ?_, fs', o1', _, _, _, rfl, rfl, hF'.next hi, hB'.mono (by omega)⟩
    have ht : evT (Φ) (.rng1 (.var 3)) (rhoR b μ.length tags (some (.d (.int i))) c d) (μ.set b o1 ++ [.lst (fs.map pD)]) = some (.ok ((List.range i).map fun j => D.int (0 + (j : Nat))) (μ.set b o1 ++ [.lst (fs.map pD)])) := by
      have := rng_ok (Φ := Φ) (a := .var 3) (ρ := rhoR b μ.length tags (some (.d (.int i))) c d) (μ := μ.set b o1 ++ [.lst (fs.map pD)]) (m := μ.set b o1 ++ [.lst (fs.map pD)]) (n := (i : Nat)) (by
        simp [evE, rhoR]) (by omega) (by omega)
      rw [Int.toNat_natCast] at this
      exact this
    have hput : Tg.put (.one 3) (.int (i : Nat)) (rhoR b μ.length tags a c d) = some (rhoR b μ.length tags (some (.d (.int i))) c d) := rfl
    rw [forF_put hput]
    have q : exS Φ (.for_ (.one 4) (.rng1 (.var 3)) prIn) (rhoR b μ.length tags (some (.d (.int i))) c d) (μ.set b o1 ++ [.lst (fs.map pD)]) = some (.nx (rhoR b μ.length tags (some (.d (.int i))) c' d'), μ.set b o1' ++ [.lst (fs'.map pD)]) := by
      rw [exS_for ht]
      exact e1
    rw [exB_nx q, exB]
  obtain ⟨ρ', m', e1, fs, o', a, c, d, rfl, rfl, hF, hB⟩ := lop_rng (f := forF (Φ) (.one 3) [.for_ (.one 4) (.rng1 (.var 3)) prIn]) (fun i ρ m => ∃ (fs : List (Str × Str)) (o1 : O) (a c d : Option W), ρ = rhoR b μ.length tags a c d ∧ m = μ.set b o1 ++ [.lst (fs.map pD)] ∧ Fi tags i 0 fs ∧ Bx (n + (tags.length - i) * tags.length) o1) tags.length (rhoR b μ.length tags none none none) (μ ++ [.lst []]) step
    ⟨[], o, none, none, none, rfl, by rw [set_self hb]; rfl, ⟨by simp, by simp, by simp⟩, by rw [Nat.sub_zero]; exact ho⟩
  refine ⟨gSort pP fs, o', hF.vb hn hnm hl, hB.mono (by omega), ?_⟩
  have ht : evT (Φ) (.rng1 (.op .len [.var 1])) (rhoR b μ.length tags none none none) (μ ++ [.lst []]) = some (.ok ((List.range tags.length).map fun j => D.int (0 + (j : Nat))) (μ ++ [.lst []])) := by
    have := rng_ok (Φ := Φ) (a := .op .len [.var 1]) (ρ := rhoR b μ.length tags none none none) (μ := μ ++ [.lst []]) (m := μ ++ [.lst []]) (n := (tags.length : Nat)) (by
      simp [evE, evL, R.bind, views, view, sem, rhoR]) (by omega) (by omega)
    rw [Int.toNat_natCast] at this
    exact this
  have hcd : callD d_law_pairs Φ [.r b, .d (.lst (tags.map .str))] μ = outD false μ.length (exB Φ b_law_pairs [some (.r b), some (.d (.lst (tags.map .str))), none, none, none, none] μ) := by
    simp [callD, List.replicate]
  rw [hcd, pr_eq]
  have q1 : exS Φ (.setm 2 (.lst [])) [some (.r b), some (.d (.lst (tags.map .str))), none, none, none, none] μ = some (.nx (rhoR b μ.length tags none none none), μ ++ [.lst []]) := by
    simp [exS, evE, evL, R.bind, R.st, toO, toDs, lim, rhoR]
  have q2 : exS Φ (.for_ (.one 3) (.rng1 (.op .len [.var 1])) [.for_ (.one 4) (.rng1 (.var 3)) prIn]) (rhoR b μ.length tags none none none) (μ ++ [.lst []]) = some (.nx (rhoR b μ.length tags a c d), μ.set b o' ++ [.lst (fs.map pD)]) := by
    rw [exS_for ht]
    exact e1
  rw [exB_nx q1, exB_nx q2]
  have hv : view (μ.set b o' ++ [O.lst (fs.map pD)]) (.r μ.length) = some (.lst (fs.map pD)) := by
    have : (μ.set b o' ++ [O.lst (fs.map pD)])[μ.length]? = some (.lst (fs.map pD)) := by
      rw [List.getElem?_append_right (by simp)]
      simp
    simp only [view, this]
  have hlen := hF.len
  have h30 : tags.length * tags.length ≤ 30 * 30 := Nat.mul_le_mul hl hl
  have hsrt : sem .sorted [.lst (fs.map pD)] = some (.lst ((gSort pP fs).map pD)) := sort_pair fs (by omega)
  have htu : sem .tuple [.lst ((gSort pP fs).map pD)] = some (.tup ((gSort pP fs).map pD)) := rfl
  have hv2 : ∀ m d, view m (.d d) = some d := fun m d => rfl
  have htk : (μ.set b o' ++ [O.lst (fs.map pD)]).take μ.length = μ.set b o' := List.take_left' (by simp)
  generalize hM : μ.set b o' ++ [O.lst (fs.map pD)] = M at hv htk ⊢
  simp only [exB, exS, rhoR, evE, evL, R.bind, R.st, rok, views, hv, hv2, hsrt, htu, outD, toD, htk, Bool.false_eq_true, if_false, List.getElem?_cons_succ, List.getElem?_cons_zero, Option.bind_some]
theorem pairs_ok (hT : G "_law_take" = some (.fn d_law_take)) (hP : G "_law_pairs" = some (.fn d_law_pairs)) {k : Nat} (hk : 2 ≤ k) {μ : Mu} {b n : Nat} {o : O} (tags : List Str) (hb : μ[b]? = some o) (ho : Bx (n + tags.length * tags.length) o) (hn : tags.Nodup) (hnm : ∀ t ∈ tags, nmB t = true) (hl : tags.length ≤ 30) :
    ∃ (bits : List (Str × Str)) (o' : O), VB bits ∧ Bx n o' ∧ phi G k "_law_pairs" [.r b, .d (.lst (tags.map .str))] μ = some (.ok (.d (.tup (bits.map pD))) (μ.set b o')) := by
  rw [phi_fn hP (by omega)]
  exact pairs_run (takeOk hT (by omega)) tags hb ho hn hnm hl
theorem row_ok (hT : G "_law_take" = some (.fn d_law_take)) (hO : G "_law_of" = some (.fn d_law_of)) (hR : G "_law_row" = some (.fn d_law_row)) {k : Nat} (hk : 3 ≤ k) {μ : Mu} {b n : Nat} {o : O} (tags : List Str) (most : Nat) (hb : μ[b]? = some o) (ho : Bx (n + most + 1) o) (hne : tags ≠ []) (hl : tags.length ≤ 1000) (hm : most ≤ 1000) :
    ∃ (row : List Str) (o' : O), (∀ t ∈ row, t ∈ tags) ∧ row.length ≤ most ∧ Bx n o' ∧ phi G k "_law_row" [.r b, .d (.lst (tags.map .str)), .d (.int most)] μ = some (.ok (.d (.tup (row.map .str))) (μ.set b o')) := by
  have hbl : b < μ.length := (List.getElem?_eq_some_iff.mp hb).1
  obtain ⟨v, o1, t1, t2, t3⟩ := take_ok hT (k := k - 1) (by omega) (n := n + most) ((most : Int) + 1) hb ho (by omega) (by omega)
  have ht : evT (phi G (k - 1)) (.rng1 (.call "_law_take" [.var 0, .op .add [.var 2, .cst (.int 1)]])) [some (.r b), some (.d (.lst (tags.map .str))), some (.d (.int most)), none] μ = some (.ok ((List.range v).map fun j => D.int (0 + (j : Nat))) (μ.set b o1)) := by
    have := rng_ok (Φ := phi G (k - 1)) (a := .call "_law_take" [.var 0, .op .add [.var 2, .cst (.int 1)]]) (ρ := [some (.r b), some (.d (.lst (tags.map .str))), some (.d (.int most)), none]) (μ := μ) (m := μ.set b o1) (n := (v : Nat)) (by
      generalize phi G (k - 1) = Φ at t3 ⊢
      simp [evE, evL, R.bind, views, view, sem, dAdd, t3]) (by omega) (by omega)
    rw [Int.toNat_natCast] at this
    exact this
  have key := ev_lc (Φ := phi G (k - 1)) (vs := [3]) (t := .one 3) (cs := []) (e := .call "_law_of" [.var 0, .var 1]) (fun j m acc => ∃ (row : List Str) (o' : O), acc = row.map .str ∧ (∀ t ∈ row, t ∈ tags) ∧ row.length = j ∧ m = μ.set b o' ∧ Bx (n + (most - j)) o') (fun i m acc h => by
      obtain ⟨row, o', _, _, _, rfl, _⟩ := h
      simp) ht (fun j x m acc hx h => by
      obtain ⟨row, o', rfl, r1, r2, rfl, r3⟩ := h
      have hj : j < v := by
        have := (List.getElem?_eq_some_iff.mp hx).1
        simpa using this
      have hb1 : (μ.set b o' ++ [O.lst (row.map .str)])[b]? = some o' := by
        rw [List.getElem?_append_left (by simpa using hbl), List.getElem?_set_self hbl]
      obtain ⟨g, hg, o2, g1, g2⟩ := of_ok hT hO (k := k - 1) (by omega) (n := n + (most - (j + 1))) (tags.map .str) false hb1 (by rw [show n + (most - (j + 1)) + 1 = n + (most - j) by omega]; exact r3) (by simpa using hne) (by simp; omega)
      obtain ⟨t, ht, rfl⟩ := List.mem_map.mp hg
      have hs : (μ.set b o' ++ [O.lst (row.map .str)]).set b o2 = μ.set b o2 ++ [O.lst (row.map .str)] := by
        rw [List.set_append_left _ _ (by simpa using hbl), List.set_set]
      rw [hs] at g2
      refine ⟨some (.str t), μ.set b o2, [], ?_, row ++ [t], o2, by simp, fun s hs => ?_, by simp [r2], rfl, g1⟩
      · rw [if_neg (by simp)] at g2
        generalize phi G (k - 1) = Φ at g2 ⊢
        simp only [lcF, Tg.put, wipeE, evC, evE, evL, R.bind, rok, g2, toD, if_true, List.getElem?_cons_succ, List.getElem?_cons_zero, List.set_cons_succ, List.set_cons_zero, List.append_nil]
      · rcases List.mem_append.mp hs with hs | hs
        · exact r1 s hs
        · obtain rfl : s = t := by simpa using hs
          exact ht) (by simp [lim]; omega) ⟨[], o1, rfl, by simp, rfl, rfl, by rw [Nat.sub_zero]; exact t2⟩
  obtain ⟨m', acc, e1, row, o', rfl, r1, r2, rfl, r3⟩ := key
  refine ⟨row, o', r1, ?_, r3.mono (by omega), ?_⟩
  · simp at r2
    omega
  · rw [phi_fn hR (by omega)]
    generalize phi G (k - 1) = Φ at e1 ⊢
    show outD false μ.length (exB Φ [.ret (.op .tuple [.lc [3] (.one 3) (.rng1 (.call "_law_take" [.var 0, .op .add [.var 2, .cst (.int 1)]])) [] (.call "_law_of" [.var 0, .var 1])])] [some (.r b), some (.d (.lst (tags.map .str))), some (.d (.int most)), none] μ) = _
    have hE : evE Φ (.op .tuple [.lc [3] (.one 3) (.rng1 (.call "_law_take" [.var 0, .op .add [.var 2, .cst (.int 1)]])) [] (.call "_law_of" [.var 0, .var 1])]) [some (.r b), some (.d (.lst (tags.map .str))), some (.d (.int most)), none] μ = some (.ok (.d (.tup (row.map .str))) (μ.set b o')) := by
      generalize IE.lc [3] (.one 3) (.rng1 (.call "_law_take" [.var 0, .op .add [.var 2, .cst (.int 1)]])) [] (.call "_law_of" [.var 0, .var 1]) = E at e1 ⊢
      have htu : sem .tuple [.lst (row.map .str)] = some (.tup (row.map .str)) := rfl
      simp only [evE, evL, e1, R.bind, rok, views, view, htu]
    have := ret_ok (n := μ.length) hE
    rw [List.take_of_length_le (by simp)] at this
    exact this
end
end PI.C
/-! C11: picking by values; rows that are empty or not. -/
namespace PI.C
open PySem PySem.Spec PyProof.Rows L2 PI
theorem perm_unmap {α : Type} {f : α → D} {u : D → α} (h : ∀ a, u (f a) = a) {l : List D} {g : List α} (hp : l.Perm (g.map f)) : (l.map u).Perm g ∧ l = (l.map u).map f := by
  constructor
  · have := hp.map u
    rw [List.map_map, show u ∘ f = id from funext h, List.map_id] at this
    exact this
  · rw [List.map_map]
    conv => lhs; rw [← List.map_id l]
    refine List.map_congr_left fun x hx => ?_
    obtain ⟨a, _, rfl⟩ := List.mem_map.mp (hp.mem_iff.mp hx)
    simp [h]
def unS : D → Str
  | .str s => s
  | _ => Str.empty
def unN : D → Nat
  | .int i => i.toNat
  | _ => 0
/-- picked values are some of the given, none twice -/
theorem picked {α : Type} {f : α → D} {u : D → α} (h : ∀ a, u (f a) = a) {fs rs : List D} {g : List α} (hg : g.Nodup) (hp : (fs ++ rs).Perm (g.map f)) : ∃ ts : List α, fs = ts.map f ∧ ts.Nodup ∧ ∀ t ∈ ts, t ∈ g := by
  obtain ⟨h1, h2⟩ := perm_unmap h hp
  rw [List.map_append] at h1
  rw [List.map_append, List.map_append] at h2
  have hl : fs = (fs.map u).map f := (List.append_inj h2 (by simp)).1
  have hnd := (h1.nodup_iff).mpr hg
  refine ⟨fs.map u, hl, (List.nodup_append.mp hnd).1, fun t ht => h1.mem_iff.mp (by simp [ht])⟩
theorem canLay_all : ∀ ps : List PyData, (∀ p ∈ ps, p.canLay0 = true ∧ p.depth ≤ 60) → PyData.canLayAll0 ps = true ∧ PyData.depthAll ps ≤ 60
  | [], _ => by simp [PyData.canLayAll0, PyData.depthAll]
  | x :: r, h => by
    obtain ⟨a, b⟩ := h x (by simp)
    obtain ⟨c, d⟩ := canLay_all r fun p hp => h p (by simp [hp])
    simp only [PyData.canLayAll0, PyData.depthAll, a, c, Bool.and_self, true_and]
    omega
theorem ne_nil {xs : List D} {ps : List PyData} (h : pys xs = some ps) (hs : ∀ p ∈ ps, p.canLay0 = true ∧ p.depth ≤ 60) : sem .ne [.tup xs, .tup []] = some (.bl (!xs.isEmpty)) := by
  show (dEq (.tup xs) (.tup [])).map (fun e => D.bl (!e)) = _
  obtain ⟨a, b⟩ := canLay_all ps hs
  have e1 : (D.tup xs).py = some (.tuple ps) := by simp [D.py, h]
  have e2 : (D.tup []).py = some (.tuple []) := by simp [D.py, pys]
  have s1 : SeqAt.shaped (.tuple ps) = true := by
    simp [SeqAt.shaped, PyData.canLay0, PyData.depth, a]
    omega
  have s2 : SeqAt.shaped (.tuple []) = true := by decide +kernel
  have e3 : PyData.eqv (.tuple ps) (.tuple []) = xs.isEmpty := by
    cases xs with
    | nil =>
      obtain rfl : ps = [] := by simpa [pys] using h.symm
      simp [PyData.eqv, PyData.eqvAll]
    | cons x r =>
      cases ps with
      | nil =>
        simp only [pys] at h
        split at h <;> simp at h
      | cons p q => simp [PyData.eqv, PyData.eqvAll]
  simp only [dEq, e1, e2, s1, s2, e3, Bool.and_self, if_true, Option.map_some]
theorem lay_str {s : Str} (h : tame s) : (PyData.str s).canLay0 = true ∧ (PyData.str s).depth ≤ 60 := by
  simp [PyData.canLay0, PyData.depth, tame_ok h]
theorem ne_strs {row : List Str} (h : ∀ s ∈ row, tame s) : sem .ne [.tup (row.map .str), .tup []] = some (.bl (!row.isEmpty)) := by
  have := ne_nil (xs := row.map .str) (ps := row.map .str) (pys_map (enc := D.str) (pe := PyData.str) (fun _ => rfl) row) (fun p hp => by
    obtain ⟨s, hs, rfl⟩ := List.mem_map.mp hp
    exact lay_str (h s hs))
  rw [this]
  simp
theorem ne_pairs {bits : List (Str × Str)} (h : ∀ p ∈ bits, tame p.1 ∧ tame p.2) : sem .ne [.tup (bits.map pD), .tup []] = some (.bl (!bits.isEmpty)) := by
  have := ne_nil (xs := bits.map pD) (ps := bits.map pP) (pys_map (enc := pD) (pe := pP) (fun _ => rfl) bits) (fun p hp => by
    obtain ⟨s, hs, rfl⟩ := List.mem_map.mp hp
    obtain ⟨a, b⟩ := h s hs
    simp [pP, PyData.canLay0, PyData.canLayAll0, PyData.depth, PyData.depthAll, tame_ok a, tame_ok b])
  rw [this]
  simp
theorem ne_nats {os : List Nat} : sem .ne [.tup (os.map oD), .tup []] = some (.bl (!os.isEmpty)) := by
  have := ne_nil (xs := os.map oD) (ps := os.map fun n => PyData.int (n : Nat)) (pys_map (enc := oD) (pe := fun n => PyData.int (n : Nat)) (fun _ => rfl) os) (fun p hp => by
    obtain ⟨s, hs, rfl⟩ := List.mem_map.mp hp
    simp [PyData.canLay0, PyData.depth])
  rw [this]
  simp
/-! ### turns of a box -/
abbrev rightE (N : Nat) : IE := .lc [1] (.one 1) (.rng1 (.cst (.int (N : Nat)))) [] (.call "_law_case_right" [.var 0])
abbrev d_law_right (N : Nat) : Df := ⟨1, 2, false, [.ret (.op .all [rightE N])]⟩
def CaseOk (Φ : Phi) (c : Nat) : Prop := ∀ (μ : Mu) (b n : Nat) (o : O), μ[b]? = some o → Bx (n + c) o → ∃ o', Bx n o' ∧ Φ "_law_case_right" [.r b] μ = some (.ok (.d (.bl true)) (μ.set b o'))
theorem right_run {Φ : Phi} {c N : Nat} (hC : CaseOk Φ c) (hN : N ≤ 1000) {μ : Mu} {b : Nat} {o : O} (hb : μ[b]? = some o) (ho : Bx (N * c) o) : ∃ o', callD (d_law_right N) Φ [.r b] μ = some (.ok (.d (.bl true)) (μ.set b o')) := by
  have hbl : b < μ.length := (List.getElem?_eq_some_iff.mp hb).1
  have ht : evT Φ (.rng1 (.cst (.int (N : Nat)))) [some (.r b), none] μ = some (.ok ((List.range N).map fun j => D.int (0 + (j : Nat))) μ) := by
    have := rng_ok (Φ := Φ) (a := .cst (.int (N : Nat))) (ρ := [some (.r b), none]) (μ := μ) (m := μ) (n := (N : Nat)) (by simp [evE]) (by omega) (by omega)
    rw [Int.toNat_natCast] at this
    exact this
  obtain ⟨m', acc, e1, h1⟩ := ev_lc (Φ := Φ) (vs := [1]) (t := .one 1) (cs := []) (e := .call "_law_case_right" [.var 0]) (fun j m acc => ∃ o', acc = List.replicate j (D.bl true) ∧ m = μ.set b o' ∧ Bx ((N - j) * c) o') (fun i m acc h => by
      obtain ⟨o', _, rfl, _⟩ := h
      simp) ht (fun j x m acc hx h => by
      obtain ⟨o', rfl, rfl, r3⟩ := h
      have hj : j < N := by
        have := (List.getElem?_eq_some_iff.mp hx).1
        simpa using this
      have hb1 : (μ.set b o' ++ [O.lst (List.replicate j (D.bl true))])[b]? = some o' := by
        rw [List.getElem?_append_left (by simpa using hbl), List.getElem?_set_self hbl]
      obtain ⟨o2, g1, g2⟩ := hC _ b ((N - (j + 1)) * c) o' hb1 (by rw [← Nat.succ_mul, show (N - (j + 1)).succ = N - j by omega]; exact r3)
      have hs : (μ.set b o' ++ [O.lst (List.replicate j (D.bl true))]).set b o2 = μ.set b o2 ++ [O.lst (List.replicate j (D.bl true))] := by
        rw [List.set_append_left _ _ (by simpa using hbl), List.set_set]
      rw [hs] at g2
      refine ⟨some (.bl true), μ.set b o2, [], ?_, o2, by rw [List.replicate_succ']; rfl, rfl, g1⟩
      simp only [lcF, Tg.put, wipeE, evC, evE, evL, R.bind, rok, g2, toD, if_true, List.getElem?_cons_succ, List.getElem?_cons_zero, List.set_cons_succ, List.set_cons_zero, List.append_nil]) (by simp [lim]; omega) ⟨o, rfl, (set_self hb).symm, by rw [Nat.sub_zero]; exact ho⟩
  obtain ⟨o', rfl, rfl, _⟩ := h1
  refine ⟨o', ?_⟩
  have hE := all_true Φ (rightE N) [some (.r b), none] μ _ _ e1
  have := ret_ok (n := μ.length) hE
  rw [List.take_of_length_le (by simp)] at this
  have hcd : callD (d_law_right N) Φ [.r b] μ = outD false μ.length (exB Φ [.ret (.op .all [rightE N])] [some (.r b), none] μ) := by
    simp [callD, List.replicate]
  rw [hcd]
  exact this
end PI.C
/-! C12: texts as the laws write them themselves. -/
namespace PI.C
open PySem PySem.Spec PyProof.Rows L2 PI
theorem ne_ev {Φ : Phi} {ρ : Env} {μ : Mu} {i : Nat} {d : D} {e : Bool} (hi : ρ[i]? = some (some (.d d))) (hs : sem .ne [d, .tup []] = some (.bl (!e))) : evE Φ (.op .ne [.var i, .tup []]) ρ μ = some (.ok (.d (.bl (!e))) μ) := by
  have l0 : ([] : List D).length ≤ 100000 := by simp
  simp [evE, evL, R.bind, hi, toDs, views, view, hs, lim]
theorem ite_dash {Φ : Phi} {ρ : Env} {μ : Mu} {c E : IE} {e : Bool} {t : Str} (hc : evE Φ c ρ μ = some (.ok (.d (.bl (!e))) μ)) (hE : evE Φ E ρ μ = some (.ok (.d (.str t)) μ)) : evE Φ (.ite c E (.cst (.str "-"))) ρ μ = some (.ok (.d (.str (if e = true then "-" else t))) μ) := by
  cases e <;> simp [evE, hc, R.bind, view, truth, hE]
theorem sem_joinP {bits : List (Str × Str)} (hb : VB bits) : sem .join [.str "; ", .lst (bits.map fun p => .str (txP p))] = some (.str (Txt.join SC (bits.map txP))) := by
  have h1 := join_len (y := SC) (ps := bits.map txP) (n := 17) (fun q hq => by
    obtain ⟨p, hp, rfl⟩ := List.mem_map.mp hq
    obtain ⟨h1, h2, _⟩ := hb.nm p hp
    exact (txP_len h1 h2).2)
  have h2 : SC.length = 2 := by decide +kernel
  have h3 := hb.len
  show (dSeqL (.lst (bits.map fun p => .str (txP p)))).bind (fun xs => (dStrs xs).bind fun ys => if (ys.map (·.length)).sum + ys.length * SC.length ≤ lim then some (D.str (Txt.join SC ys)) else none) = _
  simp only [dSeqL, Option.bind_some, dStrs_map]
  rw [if_pos]
  refine Nat.le_trans h1 ?_
  rw [List.length_map, h2]
  simp only [lim]
  omega
theorem add_pair {Φ : Phi} {ρ : Env} {μ : Mu} {i j : Nat} {p : Str × Str} (hi : ρ[i]? = some (some (.d (.str p.1)))) (hj : ρ[j]? = some (some (.d (.str p.2)))) (h1 : p.1.length ≤ 1000) (h2 : p.2.length ≤ 1000) :
    evE Φ (.op .add [.op .add [.var i, .cst (.str " ")], .var j]) ρ μ = some (.ok (.d (.str (txP p))) μ) := by
  have l1 : SP.length = 1 := by decide +kernel
  have e1 : sem .add [.str p.1, .str " "] = some (.str (p.1 ++ SP)) := by
    show (if p.1.length + SP.length ≤ lim then some (D.str (p.1 ++ SP)) else none) = _
    rw [if_pos (by rw [l1]; simp only [lim]; omega)]
  have e2 : sem .add [.str (p.1 ++ SP), .str p.2] = some (.str (txP p)) := by
    show (if (p.1 ++ SP).length + p.2.length ≤ lim then some (D.str (p.1 ++ SP ++ p.2)) else none) = _
    rw [if_pos (by rw [Str.length_append, l1]; simp only [lim]; omega)]
    rfl
  simp only [evE, evL, R.bind, rok, hi, hj, views, view, e1, e2]
/-- the PAIRS in a comprehension, names 9 and 10 -/
theorem flat_lc (Φ : Phi) {ρ : Env} {i j l : Nat} {μ : Mu} {bits : List (Str × Str)} (hb : VB bits) (hi : ρ[i]? = some (some (.d (.tup (bits.map pD))))) (hj : j < ρ.length) (hl : l < ρ.length) (hjl : j ≠ l) :
    evE Φ (.lc [j, l] (.tup [j, l]) (.seq (.var i)) [] (.op .add [.op .add [.var j, .cst (.str " ")], .var l])) ρ μ = some (.ok (.d (.lst (bits.map fun p => .str (txP p)))) μ) := by
  have ht : evT Φ (.seq (.var i)) ρ μ = some (.ok (bits.map pD) μ) := by
    simp [evT, evE, R.bind, seqW, dSeq, hi]
  rw [ev_lc_map (fun x => match x with | .tup [.str a, .str b] => some (.str (txP (a, b))) | _ => none) ht (fun x hx acc => ?_) (by have := hb.len; simp [lim]; omega)]
  · rw [List.filterMap_map, ← filterMap_some]
    rfl
  · obtain ⟨p, hp, rfl⟩ := List.mem_map.mp hx
    have a := nm_ok (hb.nm p hp).1
    have b := nm_ok (hb.nm p hp).2.1
    refine ⟨[], ?_⟩
    have hf := add_pair (Φ := Φ) (ρ := (((wipeE ρ [j, l]).set j (some (.d (.str p.1)))).set l (some (.d (.str p.2))))) (μ := μ ++ [.lst acc]) (i := j) (j := l) (p := p) (by
      rw [List.getElem?_set_ne (Ne.symm hjl), List.getElem?_set_self (by simp [wipeE, hj])]) (by
      rw [List.getElem?_set_self (by simp [wipeE, hl])]) (by omega) (by omega)
    simp only [lcF, Tg.put, putL, evC, R.bind, rok, hf, if_true, toD, List.append_nil]
theorem ptx_e (bits : List (Str × Str)) : (if bits.isEmpty = true then ("-" : Str) else Txt.join SC (bits.map txP)) = ptx bits := by
  cases bits <;> simp [ptx]
theorem qtx_e (ws : List Str) : (if ws.isEmpty = true then ("-" : Str) else Txt.join SP ws) = qtx ws := by
  cases ws <;> simp [qtx]
theorem otx_e (os : List Nat) : (if os.isEmpty = true then ("-" : Str) else Txt.join SP (os.map dg)) = otx os := by
  cases os <;> simp [otx, qtx]
theorem str1_ok {t : Str} (h : tame t) : nice (.str t) = true := tame_ok h
theorem ptx_tame {bits : List (Str × Str)} (hb : VB bits) : tame (ptx bits) := by
  unfold ptx
  split
  · intro c hc
    rw [show ("-" : Str).cps.toList = [45] from by decide +kernel] at hc
    simp at hc
    omega
  · exact pj_tame hb
theorem qtx_tame {ws : List Str} (h : VW ws) : tame (qtx ws) := by
  unfold qtx
  split
  · intro c hc
    rw [show ("-" : Str).cps.toList = [45] from by decide +kernel] at hc
    simp at hc
    omega
  · exact wj_tame h
end PI.C
namespace PI.K01
open PySem PySem.Spec PyProof.Rows L2 PI PI.C
abbrev T := law0.t.tab
def POOL : List (List Str) := [["a", "ab", "b", "x", "y"], ["for", "in", "no", "of", "on"], ["abcdefgh", "abcdefgi", "c", "z", "zz"]]
theorem pool_ok : ∀ g ∈ POOL, g.Nodup ∧ (∀ t ∈ g, nmB t = true) ∧ g.length = 5 := by decide +kernel
def POOLD : List D := POOL.map fun g => .lst (g.map .str)
def OfOk (Φ : Phi) : Prop := ∀ (μ : Mu) (b n : Nat) (o : O) (gs : List D), μ[b]? = some o → Bx (n + 1) o → gs ≠ [] → gs.length ≤ 100000 → ∃ g ∈ gs, ∃ o', Bx n o' ∧ Φ "_law_of" [.r b, .d (.lst gs)] μ = some (.ok (.d g) (μ.set b o'))
def PickOk (Φ : Phi) : Prop := ∀ (μ : Mu) (b n : Nat) (o : O) (gs : List D) (c : Nat), μ[b]? = some o → Bx (n + c) o → gs.length ≤ 1000 → ∃ (fs rs : List D) (o' : O), (fs ++ rs).Perm gs ∧ fs.length = min c gs.length ∧ Bx n o' ∧ Φ "_law_pick" [.r b, .d (.lst gs), .d (.int c)] μ = some (.ok (.d (.lst fs)) (μ.set b o'))
theorem ofOk {k : Nat} (hk : 2 ≤ k) : OfOk (phi T k) := fun μ b n o gs h1 h2 h3 h4 => by
  have := of_ok (G := T) rfl rfl hk gs false h1 h2 h3 h4
  rw [if_neg (by simp)] at this
  exact this
theorem pickOk {k : Nat} (hk : 2 ≤ k) : PickOk (phi T k) := fun μ b n o gs c h1 h2 h3 => pick_ok (G := T) rfl rfl hk gs c h1 h2 h3
theorem kinds_run {Φ : Phi} (hT : TakeOk Φ) (hO : OfOk Φ) (hP : PickOk Φ) {μ : Mu} {b n : Nat} {o : O} (hb : μ[b]? = some o) (ho : Bx (n + 7) o) :
    ∃ (tags : List Str) (o' : O), tags.Nodup ∧ (∀ t ∈ tags, nmB t = true) ∧ tags.length ≤ 5 ∧ tags ≠ [] ∧ Bx n o' ∧ callD e_law_kinds.d Φ [.r b] μ = some (.ok (.d (.lst (tags.map .str))) (μ.set b o')) := by
  have hbl : b < μ.length := (List.getElem?_eq_some_iff.mp hb).1
  have hs : ∀ o', (μ.set b o')[b]? = some o' := fun o' => List.getElem?_set_self hbl
  obtain ⟨gd, hgd, o1, a1, a2⟩ := hO μ b (n + 6) o POOLD hb ho (by simp [POOLD, POOL]) (by simp [POOLD, POOL])
  obtain ⟨g, hg, rfl⟩ := List.mem_map.mp hgd
  obtain ⟨g1, g2, g3⟩ := pool_ok g hg
  obtain ⟨v, o2, b1, b2, b3⟩ := hT (μ.set b o1) b (n + 5) o1 4 (hs _) a1 (by omega) (by omega)
  rw [List.set_set] at b3
  obtain ⟨fs, rs, o3, c1, c2, c3, c4⟩ := hP (μ.set b o2) b n o2 (g.map .str) (2 + v) (hs _) (b2.mono (by omega)) (by simp [g3])
  rw [List.set_set] at c4
  obtain ⟨ts, rfl, d1, d2⟩ := picked (f := D.str) (u := unS) (fun _ => rfl) g1 c1
  have hl : ts.length = min (2 + v) 5 := by simpa [g3] using c2
  have hp := gSort_perm PyData.str ts
  refine ⟨gSort PyData.str ts, o3, hp.nodup_iff.mpr d1, fun t ht => g2 t (d2 t (hp.mem_iff.mp ht)), by rw [hp.length_eq]; omega, fun e => ?_, c3, ?_⟩
  · have := hp.length_eq
    rw [e, hl] at this
    simp at this
    omega
  have hsrt : sem .sorted [.lst (ts.map .str)] = some (.lst ((gSort PyData.str ts).map .str)) := sort_str ts (by omega)
  have hcd : callD e_law_kinds.d Φ [.r b] μ = outD false μ.length (exB Φ b_law_kinds [some (.r b), none] μ) := by
    simp [callD, List.replicate, e_law_kinds]
  rw [hcd]
  have hadd : sem .add [.int 2, .int (v : Nat)] = some (.int ((2 + v : Nat) : Int)) := by
    simp [sem, dAdd]
  have hE : evE Φ (.op .sorted [.call "_law_pick" [.var 0, .call "_law_of" [.var 0, .var 1], .op .add [.cst (.int 2), .call "_law_take" [.var 0, .cst (.int 4)]]]]) [some (.r b), some (.d (.lst POOLD))] μ = some (.ok (.d (.lst ((gSort PyData.str ts).map .str))) (μ.set b o3)) := by
    simp only [evE, evL, R.bind, rok, List.getElem?_cons_zero, List.getElem?_cons_succ, a2, b3, views, view, hadd, c4, hsrt]
  have hB : exB Φ b_law_kinds [some (.r b), none] μ = exB Φ [.ret (.op .sorted [.call "_law_pick" [.var 0, .call "_law_of" [.var 0, .var 1], .op .add [.cst (.int 2), .call "_law_take" [.var 0, .cst (.int 4)]]]])] [some (.r b), some (.d (.lst POOLD))] μ := by
    unfold b_law_kinds
    generalize IE.op .sorted [.call "_law_pick" [.var 0, .call "_law_of" [.var 0, .var 1], .op .add [.cst (.int 2), .call "_law_take" [.var 0, .cst (.int 4)]]]] = E
    simp [exB, exS, evE, evL, R.bind, R.st, toDs, toD, views, view, sem, dAdd, lim, POOLD, POOL]
  rw [hB]
  have := ret_ok (n := μ.length) hE
  rw [List.take_of_length_le (by simp)] at this
  exact this
end PI.K01
namespace PI.K01
open PySem PySem.Spec PyProof.Rows L2 PI PI.C
/-- what the case's calls answer -/
structure Fx (Φ : Phi) : Prop where
  kinds : ∀ (μ : Mu) (b n : Nat) (o : O), μ[b]? = some o → Bx (n + 7) o → ∃ (tags : List Str) (o' : O), tags.Nodup ∧ (∀ t ∈ tags, nmB t = true) ∧ tags.length ≤ 5 ∧ tags ≠ [] ∧ Bx n o' ∧ Φ "_law_kinds" [.r b] μ = some (.ok (.d (.lst (tags.map .str))) (μ.set b o'))
  pairs : ∀ (μ : Mu) (b n : Nat) (o : O) (tags : List Str), μ[b]? = some o → Bx (n + tags.length * tags.length) o → tags.Nodup → (∀ t ∈ tags, nmB t = true) → tags.length ≤ 30 → ∃ (bits : List (Str × Str)) (o' : O), VB bits ∧ Bx n o' ∧ Φ "_law_pairs" [.r b, .d (.lst (tags.map .str))] μ = some (.ok (.d (.tup (bits.map pD))) (μ.set b o'))
  row : ∀ (μ : Mu) (b n : Nat) (o : O) (tags : List Str), μ[b]? = some o → Bx (n + 10 + 1) o → tags ≠ [] → tags.length ≤ 1000 → ∃ (row : List Str) (o' : O), (∀ t ∈ row, t ∈ tags) ∧ row.length ≤ 10 ∧ Bx n o' ∧ Φ "_law_row" [.r b, .d (.lst (tags.map .str)), .d (.int 10)] μ = some (.ok (.d (.tup (row.map .str))) (μ.set b o'))
  pick : PickOk Φ
  pt : ∀ (μ : Mu) (tp : Bool) (bits : List (Str × Str)), VB bits → Φ "pairs_text" [.d (seqP tp bits)] μ = some (.ok (.d (.str (ptx bits))) μ)
  ls : ∀ (μ : Mu) (bits : List (Str × Str)), bits.length ≤ lim → Φ "_law_lists" [.d (.tup (bits.map pD))] μ = some (.ok (.d (.lst (bits.map lD))) μ)
  pf : ∀ (μ : Mu) (bits : List (Str × Str)), VB bits → Φ "pairs_from" [.d (.str (ptx bits))] μ = some (.ok (.d (.tup (bits.map pD))) μ)
  qt : ∀ (μ : Mu) (row : List Str), VQ row → Φ "queue_text" [.d (.tup (row.map .str))] μ = some (.ok (.d (.str (qtx row))) μ)
  qf : ∀ (μ : Mu) (row : List Str), VQ row → Φ "queue_from" [.d (.str (qtx row))] μ = some (.ok (.d (.tup (row.map .str))) μ)
  ot : ∀ (μ : Mu) (os : List Nat), VO os → Φ "order_text" [.d (.tup (os.map oD))] μ = some (.ok (.d (.str (otx os))) μ)
  of : ∀ (μ : Mu) (os : List Nat), VO os → Φ "order_from" [.d (.str (otx os))] μ = some (.ok (.d (.tup (os.map oD))) μ)
  same : ∀ (μ : Mu) (d : D), nice d = true → dep d ≤ 4 → Φ "_law_same" [.d d, .d d] μ = some (.ok (.d (.bl true)) μ)
theorem set_ev {Φ : Phi} {ρ : Env} {μ m : Mu} {i : Nat} {e : IE} {w : W} (h : evE Φ e ρ μ = some (.ok w m)) {d : D} (hw : w = .d d) : exS Φ (.set (.one i) e) ρ μ = some (.nx (ρ.set i (some (.d d))), m) := by
  subst hw
  simp [exS, h, R.st, Tg.put]
theorem case_run {Φ : Phi} (F : Fx Φ) : ∀ (μ : Mu) (b n : Nat) (o : O), μ[b]? = some o → Bx (n + 60) o → ∃ o', Bx n o' ∧ callD e_law_case_right.d Φ [.r b] μ = some (.ok (.d (.bl true)) (μ.set b o')) := by
  intro μ b n o hb ho
  have hbl : b < μ.length := (List.getElem?_eq_some_iff.mp hb).1
  have hs : ∀ o', (μ.set b o')[b]? = some o' := fun o' => List.getElem?_set_self hbl
  obtain ⟨tags, o1, k1, k2, k3, k4, k5, k6⟩ := F.kinds μ b (n + 53) o hb (ho.mono (by omega))
  have h25 : tags.length * tags.length ≤ 5 * 5 := Nat.mul_le_mul k3 k3
  obtain ⟨bits, o2, p1, p2, p3⟩ := F.pairs (μ.set b o1) b (n + 28) o1 tags (hs _) (k5.mono (by omega)) k1 k2 (by omega)
  rw [List.set_set] at p3
  obtain ⟨row, o3, r1, r2, r3, r4⟩ := F.row (μ.set b o2) b (n + 10) o2 tags (hs _) (p2.mono (by omega)) k4 (by omega)
  rw [List.set_set] at r4
  have vq : VQ row := ⟨fun p hp => k2 p (r1 p hp), by omega⟩
  obtain ⟨fs, rs, o4, c1, c2, c3, c4⟩ := F.pick (μ.set b o3) b n o3 ((List.range row.length).map oD) row.length (hs _) (r3.mono (by omega)) (by simp; omega)
  rw [List.set_set] at c4
  obtain ⟨os, rfl, d1, d2⟩ := picked (f := oD) (u := unN) (fun _ => rfl) List.nodup_range c1
  have hos : os.length ≤ 10 := by
    simp at c2
    omega
  have vo : VO os := ⟨fun t ht => by have := d2 t ht; simp at this; omega, d1, hos⟩
  refine ⟨o4, c3, ?_⟩
  have hcd : callD e_law_case_right.d Φ [.r b] μ = outD false μ.length (exB Φ b_law_case_right [some (.r b), none, none, none, none, none, none, none, none, none, none, none] μ) := by
    simp [callD, List.replicate, e_law_case_right]
  rw [hcd]
  have q1 : exS Φ (.set (.one 1) (.call "_law_kinds" [.var 0])) [some (.r b), none, none, none, none, none, none, none, none, none, none, none] μ = some (.nx [some (.r b), some (.d (.lst (tags.map .str))), none, none, none, none, none, none, none, none, none, none], μ.set b o1) := by
    simp [exS, evE, evL, R.bind, R.st, k6, Tg.put]
  have q2 : exS Φ (.set2 2 3 (.call "_law_pairs" [.var 0, .var 1]) (.call "_law_row" [.var 0, .var 1, .cst (.int 10)])) [some (.r b), some (.d (.lst (tags.map .str))), none, none, none, none, none, none, none, none, none, none] (μ.set b o1) = some (.nx [some (.r b), some (.d (.lst (tags.map .str))), some (.d (.tup (bits.map pD))), some (.d (.tup (row.map .str))), none, none, none, none, none, none, none, none], μ.set b o3) := by
    simp [exS, evE, evL, R.bind, R.st, p3, r4]
  generalize hρ2 : [some (W.r b), some (W.d (.lst (tags.map .str))), some (W.d (.tup (bits.map pD))), some (W.d (.tup (row.map .str))), none, none, none, none, none, none, none, none] = ρ2 at q2
  generalize hM3 : μ.set b o3 = M3 at q2 c4
  have i2 : ρ2[2]? = some (some (.d (.tup (bits.map pD)))) := by rw [← hρ2]; rfl
  have i3 : ρ2[3]? = some (some (.d (.tup (row.map .str)))) := by rw [← hρ2]; rfl
  have i0 : ρ2[0]? = some (some (.r b)) := by rw [← hρ2]; rfl
  have hlen : ρ2.length = 12 := by rw [← hρ2]; rfl
  have hpn : ∀ p ∈ bits, tame p.1 ∧ tame p.2 := fun p hp => ⟨nm_tame (p1.nm p hp).1, nm_tame (p1.nm p hp).2.1⟩
  have E3 : evE Φ (.ite (.op .ne [.var 2, .tup []]) (.m1 .join (.cst (.str "; ")) (.lc [9, 10] (.tup [9, 10]) (.seq (.var 2)) [] (.op .add [.op .add [.var 9, .cst (.str " ")], .var 10]))) (.cst (.str "-"))) ρ2 M3 = some (.ok (.d (.str (ptx bits))) M3) := by
    have hlc := flat_lc Φ (ρ := ρ2) (i := 2) (j := 9) (l := 10) (μ := M3) p1 i2 (by omega) (by omega) (by decide)
    have hj := sem_joinP p1
    rw [← ptx_e]
    refine ite_dash (ne_ev i2 (ne_pairs hpn)) ?_
    generalize IE.lc [9, 10] (.tup [9, 10]) (.seq (.var 2)) [] (.op .add [.op .add [.var 9, .cst (.str " ")], .var 10]) = E at hlc ⊢
    simp only [evE, R.bind, rok, hlc, view, hj]
  have q3 := set_ev (i := 4) E3 rfl
  generalize hρ3 : ρ2.set 4 (some (W.d (.str (ptx bits)))) = ρ3 at q3
  have j2 : ρ3[2]? = some (some (.d (.tup (bits.map pD)))) := by rw [← hρ3, ← hρ2]; rfl
  have j3 : ρ3[3]? = some (some (.d (.tup (row.map .str)))) := by rw [← hρ3, ← hρ2]; rfl
  have j0 : ρ3[0]? = some (some (.r b)) := by rw [← hρ3, ← hρ2]; rfl
  have hrn : ∀ s ∈ row, tame s := fun s hs => nm_tame (vq.nm s hs)
  have E4 : evE Φ (.ite (.op .ne [.var 3, .tup []]) (.m1 .join (.cst (.str " ")) (.var 3)) (.cst (.str "-"))) ρ3 M3 = some (.ok (.d (.str (qtx row))) M3) := by
    have hj := sem_join vq.w (.tup (row.map .str)) rfl
    rw [← qtx_e]
    refine ite_dash (ne_ev j3 (ne_strs hrn)) ?_
    simp only [evE, R.bind, rok, j3, view, hj]
  have q4 := set_ev (i := 5) E4 rfl
  generalize hρ4 : ρ3.set 5 (some (W.d (.str (qtx row)))) = ρ4 at q4
  have l3 : ρ4[3]? = some (some (.d (.tup (row.map .str)))) := by rw [← hρ4, ← hρ3, ← hρ2]; rfl
  have l0 : ρ4[0]? = some (some (.r b)) := by rw [← hρ4, ← hρ3, ← hρ2]; rfl
  have E5 : evE Φ (.op .tuple [.call "_law_pick" [.var 0, .lrng false (.op .len [.var 3]), .op .len [.var 3]]]) ρ4 M3 = some (.ok (.d (.tup (os.map oD))) (μ.set b o4)) := by
    have s1 : sem .len [.tup (row.map .str)] = some (.int (row.length : Nat)) := by
      simp [sem]
    have s2 : (0 : Int) ≤ (row.length : Nat) ∧ ((row.length : Nat) : Int) ≤ 100000 := by omega
    have s3 : ((List.range ((row.length : Nat) : Int).toNat).map fun i => D.int (0 + (i : Nat))) = (List.range row.length).map oD := by
      rw [Int.toNat_natCast]
      refine List.map_congr_left fun i _ => ?_
      rw [Int.zero_add]
      rfl
    have s4 : sem .tuple [.lst (os.map oD)] = some (.tup (os.map oD)) := rfl
    simp only [evE, evL, R.bind, rok, l0, l3, views, view, s1, if_pos s2, s3, Bool.false_eq_true, if_false, c4, s4]
  have q5 := set_ev (i := 6) E5 rfl
  generalize hρ5 : ρ4.set 6 (some (W.d (.tup (os.map oD)))) = ρ5 at q5
  generalize hM5 : μ.set b o4 = M5 at q5
  have m6 : ρ5[6]? = some (some (.d (.tup (os.map oD)))) := by rw [← hρ5, ← hρ4, ← hρ3, ← hρ2]; rfl
  have hlen5 : ρ5.length = 12 := by rw [← hρ5, ← hρ4, ← hρ3, ← hρ2]; rfl
  have E6 : evE Φ (.ite (.op .ne [.var 6, .tup []]) (.m1 .join (.cst (.str " ")) (.lc [11] (.one 11) (.seq (.var 6)) [] (.op .str [.var 11]))) (.cst (.str "-"))) ρ5 M5 = some (.ok (.d (.str (otx os))) M5) := by
    have hlc := order_lc Φ (ρ := ρ5) (i := 6) (j := 11) (μ := M5) vo m6 rfl (by omega)
    have hj := sem_join vo.w (.lst ((os.map dg).map .str)) rfl
    rw [← otx_e]
    refine ite_dash (ne_ev m6 ne_nats) ?_
    generalize IE.lc [11] (.one 11) (.seq (.var 6)) [] (.op .str [.var 11]) = E at hlc ⊢
    simp only [evE, R.bind, rok, hlc, view, hj]
  have q6 := set_ev (i := 7) E6 rfl
  have hρ6 : ρ5.set 7 (some (W.d (.str (otx os)))) = [some (.r b), some (.d (.lst (tags.map .str))), some (.d (.tup (bits.map pD))), some (.d (.tup (row.map .str))), some (.d (.str (ptx bits))), some (.d (.str (qtx row))), some (.d (.tup (os.map oD))), some (.d (.str (otx os))), none, none, none, none] := by
    rw [← hρ5, ← hρ4, ← hρ3, ← hρ2]; rfl
  rw [hρ6] at q6
  unfold b_law_case_right
  rw [exB_nx q1, exB_nx q2, exB_nx q3, exB_nx q4, exB_nx q5, exB_nx q6]
  have vls := F.ls M5 bits (by have := p1.len; simp [lim]; omega)
  have vpt1 : Φ "pairs_text" [.d (.tup (bits.map pD))] M5 = some (.ok (.d (.str (ptx bits))) M5) := F.pt M5 true bits p1
  have vpt2 : Φ "pairs_text" [.d (.lst (bits.map lD))] M5 = some (.ok (.d (.str (ptx bits))) M5) := F.pt M5 false bits p1
  have vpf := F.pf M5 bits p1
  have vqt := F.qt M5 row vq
  have vqf := F.qf M5 row vq
  have vot := F.ot M5 os vo
  have vof := F.of M5 os vo
  have nt : nices [.str (ptx bits), .str (ptx bits), .tup (bits.map pD), .str (qtx row), .tup (row.map .str), .str (otx os), .tup (os.map oD)] = true := by
    have t1 : nice (.str (ptx bits)) = true := tame_ok (ptx_tame p1)
    have t2 : nice (.str (qtx row)) = true := tame_ok (qtx_tame vq.w)
    have t3 : nice (.str (otx os)) = true := tame_ok (qtx_tame vo.w)
    have t4 : nice (.tup (bits.map pD)) = true := by
      simp only [nice, Bool.and_eq_true, decide_eq_true_eq, List.length_map]
      refine ⟨nices_all.mpr fun x hx => ?_, by have := p1.len; omega⟩
      obtain ⟨p, hp, rfl⟩ := List.mem_map.mp hx
      obtain ⟨a, c⟩ := hpn p hp
      simp [nice, nices, tame_ok a, tame_ok c]
    have t5 : nice (.tup (row.map .str)) = true := by
      simp only [nice, Bool.and_eq_true, decide_eq_true_eq, List.length_map]
      refine ⟨nices_all.mpr fun x hx => ?_, by omega⟩
      obtain ⟨p, hp, rfl⟩ := List.mem_map.mp hx
      exact tame_ok (hrn p hp)
    have t6 : nice (.tup (os.map oD)) = true := by
      simp only [nice, Bool.and_eq_true, decide_eq_true_eq, List.length_map]
      refine ⟨nices_all.mpr fun x hx => ?_, by omega⟩
      obtain ⟨p, hp, rfl⟩ := List.mem_map.mp hx
      rfl
    simp only [nices, t1, t2, t3, t4, t5, t6, Bool.and_self]
  have dp : deps [.str (ptx bits), .str (ptx bits), .tup (bits.map pD), .str (qtx row), .tup (row.map .str), .str (otx os), .tup (os.map oD)] ≤ 3 := by
    have u1 : dep (.tup (bits.map pD)) ≤ 3 := by
      have : deps (bits.map pD) ≤ 2 := deps_le.mpr fun x hx => by
        obtain ⟨p, hp, rfl⟩ := List.mem_map.mp hx
        simp [dep, deps]
      simp only [dep]
      omega
    have u2 : dep (.tup (row.map .str)) ≤ 3 := by
      have : deps (row.map .str) ≤ 2 := deps_le.mpr fun x hx => by
        obtain ⟨p, hp, rfl⟩ := List.mem_map.mp hx
        simp [dep]
      simp only [dep]
      omega
    have u3 : dep (.tup (os.map oD)) ≤ 3 := by
      have : deps (os.map oD) ≤ 2 := deps_le.mpr fun x hx => by
        obtain ⟨p, hp, rfl⟩ := List.mem_map.mp hx
        simp [dep, oD]
      simp only [dep]
      omega
    rw [deps_le]
    intro x hx
    simp only [List.mem_cons, List.not_mem_nil, or_false] at hx
    rcases hx with rfl | rfl | rfl | rfl | rfl | rfl | rfl <;> first | assumption | simp [dep]
  have vsm := F.same M5 (.lst [.str (ptx bits), .str (ptx bits), .tup (bits.map pD), .str (qtx row), .tup (row.map .str), .str (otx os), .tup (os.map oD)]) (by
    rw [nice, nt]
    rfl) (by
    rw [dep]
    omega)
  have htk : M5.take μ.length = M5 := by
    rw [← hM5]
    exact List.take_of_length_le (by simp)
  generalize ptx bits = X1 at *
  generalize qtx row = X2 at *
  generalize otx os = X3 at *
  generalize bits.map pD = Y1 at *
  generalize bits.map lD = Y2 at *
  generalize row.map D.str = Y3 at *
  generalize os.map oD = Y4 at *
  have hA1 : ∀ x y z u v : D, sem .add [.lst [x, y, z], .lst [u, v]] = some (.lst [x, y, z, u, v]) := fun x y z u v => by simp [sem, dAdd, lim]
  have hA2 : ∀ x y z u v s t : D, sem .add [.lst [x, y, z, u, v], .lst [s, t]] = some (.lst [x, y, z, u, v, s, t]) := fun x y z u v s t => by simp [sem, dAdd, lim]
  have hl : ∀ xs : List D, xs.length ≤ 7 → xs.length ≤ 100000 := fun xs h => by omega
  simp (decide := true) [exB, exS, evE, evL, R.bind, R.st, Tg.put, toD, toDs, vpt1, vpt2, vls, vpf, vqt, vqf, vot, vof, vsm, views, view, hA1, hA2, lim, outD, htk]
end PI.K01
namespace PI.K01
open PySem PySem.Spec PyProof.Rows L2 PI PI.C
theorem fx {k : Nat} (hk : 4 ≤ k) : Fx (phi T k) where
  kinds := fun μ b n o h1 h2 => by
    rw [phi_fn (G := T) (f := "_law_kinds") (d := e_law_kinds.d) rfl (by omega)]
    exact kinds_run (takeOk (G := T) rfl (by omega)) (ofOk (by omega)) (pickOk (by omega)) h1 h2
  pairs := fun μ b n o tags h1 h2 h3 h4 h5 => pairs_ok (G := T) rfl rfl (by omega) tags h1 h2 h3 h4 h5
  row := fun μ b n o tags h1 h2 h3 h4 => row_ok (G := T) rfl rfl rfl (by omega) tags 10 h1 h2 h3 h4 (by omega)
  pick := pickOk (by omega)
  pt := fun μ tp bits h => pairs_text_ok (G := T) rfl rfl (by omega) μ tp h
  ls := fun μ bits h => lists_pairs (G := T) rfl (by omega) μ bits h
  pf := fun μ bits h => pairs_from_ok (G := T) rfl rfl rfl rfl rfl (by omega) μ h
  qt := fun μ row h => queue_text_ok (G := T) rfl rfl (by omega) μ h
  qf := fun μ row h => queue_from_ok (G := T) rfl rfl rfl (by omega) μ h
  ot := fun μ os h => order_text_ok (G := T) rfl rfl (by omega) μ h
  of := fun μ os h => order_from_ok (G := T) rfl rfl rfl (by omega) μ h
  same := fun μ d h1 h2 => same_ok (G := T) rfl d k μ h1 (by omega)
theorem caseOk {k : Nat} (hk : 5 ≤ k) : CaseOk (phi T k) 60 := fun μ b n o h1 h2 => by
  rw [phi_fn (G := T) (f := "_law_case_right") (d := e_law_case_right.d) rfl (by omega)]
  exact case_run (fx (by omega)) μ b n o h1 h2
theorem right_ok {k : Nat} (hk : 6 ≤ k) : ∀ (μ : Mu) (b : Nat) (o : O), μ[b]? = some o → Bx 360 o → ∃ o', phi T k "_law_right" [.r b] μ = some (.ok (.d (.bl true)) (μ.set b o')) := fun μ b o h1 h2 => by
  rw [phi_fn (G := T) (f := "_law_right") (d := d_law_right 6) rfl (by omega)]
  exact right_run (caseOk (by omega)) (by omega) h1 h2
def okN (r : R W) : Bool := match r with
  | some (.ok (.d (.bl true)) []) => true
  | _ => false
theorem okN_eq {r : R W} (h : okN r = true) : r = some (.ok (.d (.bl true)) []) := by
  unfold okN at h
  split at h
  · rfl
  · cases h
theorem hand_ok : okN (phi T 40 "_law_by_hand_right" [] []) = true := by decide +kernel
theorem hand_eq {k : Nat} (hk : k = 40) : phi T k "_law_by_hand_right" [] [] = some (.ok (.d (.bl true)) []) := by
  subst hk
  exact okN_eq hand_ok
theorem law_ok {k : Nat} (hk : k = 41) (ns : List Int) (h : ns.length ≤ 63) : phi T k "law" [.d (.scr (ns.map .int))] [] = some (.ok (.d (.bl true)) []) :=
  lawA_ok (G := T) (C := 90501) (N := 360) rfl rfl rfl (by omega) (by omega) (hand_eq (by omega)) (right_ok (by omega)) ns h
end PI.K01
namespace PI.K01
open PySem PySem.Spec PyProof.Rows L2 PI
abbrev R : PySem.W.OpenRow := PySem.W.OpenLaw.row PySem.Challenge.rw_letahead_k01_pairs_queues_and_orders_rea
abbrev hk : PySem.W.Hook := hookP 6 law0.fa law0.fn law0.exB law0.gs
def ob (s : PySem.W.SharedT) : He.AlX × List He.FnW := obsP 6 law0.fa law0.fn law0.exB law0.gs (HandSHeadRun.getT s)
theorem ob_eq (s : PySem.W.SharedT) : ob s = hk.obs s.abs := obsP_eq (HandSHeadRun.getT_eq s)
def loose : List Str := "QueueError" :: "BadText" :: "LETTERS" :: "LONGEST_NAME" :: "is_name" :: "fits" :: "NOTHING" :: "DIGITS" :: "pairs_text" :: "queue_text" :: "order_text" :: "pairs_from" :: "queue_from" :: "order_from" :: "text_of_pieces" :: "pieces" :: "is_written_pair" :: "is_written_number" :: "_law_box" :: "_law_take" :: "_law_cells" :: "_law_of" :: "_law_pick" :: "_law_same" :: "_law_lists" :: "_law_kinds" :: "_law_pairs" :: "_law_row" :: "_law_by_hand_right" :: "_law_case_right" :: "_law_right" :: []
theorem run (w : World) : HandSHeadRun.RunEq R (PySem.W.view R.prog [35]) hk ob 4000 loose w := by
  intro os
  kernel_rfl
theorem hphi (ns : List Int) (h : ns.length ≤ 63) : ∃ μ, phi law0.t.tab (34 + 6 + 1) e_law.name [.d (.scr (ns.map .int))] [] = some (.ok (.d (.bl true)) μ) := ⟨[], law_ok rfl ns h⟩
end PI.K01
open PySem PySem.W PySem.Calls PyProof.Rows
theorem PySem.Challenge.cw_letahead_k01_pairs_queues_and_orders_rea_holds : PySem.Challenge.rw_letahead_k01_pairs_queues_and_orders_rea.Holds := by
  w_on; o_law
  refine HandSHeadRun.head_any (r := OpenLaw.row PySem.Challenge.rw_letahead_k01_pairs_queues_and_orders_rea) (q := view (OpenLaw.row PySem.Challenge.rw_letahead_k01_pairs_queues_and_orders_rea).prog [35]) (H := PI.K01.hk) (ob := PI.K01.ob) (M := 4000) (loose := PI.K01.loose) (d := HandSHeadRun.topDef (OpenLaw.row PySem.Challenge.rw_letahead_k01_pairs_queues_and_orders_rea).prog 35) (kwd := []) PI.K01.ob_eq
    (by kernel_rfl) (fun s => by kernel_rfl) PI.K01.run (by kernel_rfl) (by kernel_rfl) (by kernel_rfl) (by rfl) (by first | assumption | decide +kernel) (by decide +kernel) ⟨rfl, rfl, rfl, rfl, rfl, by decide +kernel⟩ ?hw ?hc
  case hw => w_witness2
  case hc => exact PI.law_pi PI.K01.good0 (k := 34 + 6) (e := PI.K01.e_law) (x := "_law_script") rfl (by decide) (by kernel_rfl) ⟨rfl, by decide, by decide⟩ (by simp [PI.K01.law0]) (by kernel_rfl) rfl PI.K01.hphi
