import PyProof.Rows.All
import Wide.All
import OpenK.AllK
import Wide.FinOn
import HandS.ForMost
import HandS.ForExc
import HandS.Deep
import HandS.TupAny
import HandS.TupMul
import HandS.IsInst
import HandS.Flow
import HandS.Zip
import HandS.Wide
import HandS.CallSlots
import HandS.ExcInit
import HandS.ExcValue
import HandS.ExcIs
import HandS.ExcField
import HandS.Small
import HandS.Defaults
import KE.KExcIs
import HandS.CallRecv
import HandS.Ends
import HandS.HeadHook4
import HandS.Head0
import HandS.Head1
import HandS.Head2
import HandS.HeadEnd
import PySem.Challenge.RW_letahead_k00_errors
set_option Elab.async false
set_option linter.all false
set_option maxRecDepth 100000
set_option maxHeartbeats 4100000
/-! PI1: data without addresses (D), slots (W), a store of the objects that may still change (O), and what they say of the abstract heap. -/
namespace PI
open PySem PySem.Spec PyProof.Rows L2

inductive D where
  | non | bl (b : Bool) | int (i : Int) | str (s : Str)
  | tup (xs : List D) | lst (xs : List D)
  | dic (ks vs : List D)
  | ins (c : Str) (ns : List Str) (vs : List D)
  | exc (c : Str) (ns : List Str) (vs : List D)
  | fn (f : Str)
  | scr (xs : List D)
deriving Inhabited

/-- a slot's value: data, or an object of the store -/
inductive W where
  | d (x : D) | r (k : Nat)
deriving Inhabited
/-- an object of the store: a list or a dict that may still change; one that does no more -/
inductive O where
  | lst (xs : List D) | dic (ks vs : List D) | fz (x : D)
deriving Inhabited
abbrev Mu := List O
abbrev Env := List (Option W)

/-- where the text's defs and classes stand -/
structure Tb where
  K : PySem.W.Frag
  fa : Str → Option Addr
  ca : Str → Option Addr

/-- a key of a dict: an int, a text, or a tuple of such -/
def keyD : D → Option Key
  | .int i => some (.inl i)
  | .str s => some (.inr s)
  | _ => none
def keysD : List D → Option (List Key)
  | [] => some []
  | x :: r => match keyD x, keysD r with
    | some k, some ks => some (k :: ks)
    | _, _ => none

/-- an exception's object at a -/
def exAt (a : Addr) (cls : Value) (d : Option Addr) : HO := .ext fun h => ∃ (oe : Obj) (vs : Array Value), h.get? a = some oe ∧ Zc cls d oe ∧ oe.data = .fields vs
mutual
/-- v stands for the data d, by the objects of F, that don't change any more -/
def Rep (T : Tb) (F : Hp) : D → V → Prop
  | .non, v => v = .non
  | .bl b, v => v = .bl b
  | .int i, v => v = .int i
  | .str s, v => v = .str s
  | .tup ds, v => ∃ a vs, v = .ref a ∧ SqT T.K F a vs ∧ Reps T F ds vs
  | .lst ds, v => ∃ a vs, v = .ref a ∧ F a = some (.lst vs) ∧ Reps T F ds vs
  | .scr ds, v => ∃ a vs, v = .ref a ∧ SqL T.K F a vs ∧ Reps T F ds vs
  | .dic ks ds, v => ∃ a vs, v = .ref a ∧ Reps T F ds vs ∧ (
      (∃ kl : List Key, keysD ks = some kl ∧ kl.length = vs.length ∧ F a = some (.dK (kl.zip vs))))
  | .ins c ns ds, v => ∃ a C dx vs, v = .ref a ∧ T.ca c = some C ∧ F a = some (.ins C dx (ns.zip vs)) ∧ ns.length = vs.length ∧ Reps T F ds vs
  | .exc c ns ds, v => ∃ a C od vs, v = .ref a ∧ T.ca c = some C ∧ F a = some (exAt a (.ref C) od) ∧ ns.length = vs.length ∧ Reps T F ds vs ∧ ((od = none ∧ ns = []) ∨ ∃ dx, od = some dx ∧ F dx = some (.xd (ns.zip vs)))
  | .fn f, v => ∃ a, v = .ref a ∧ T.fa f = some a
def Reps (T : Tb) (F : Hp) : List D → List V → Prop
  | [], vs => vs = []
  | d :: ds, vs => ∃ v r, vs = v :: r ∧ Rep T F d v ∧ Reps T F ds r
end

/-- F grows -/
abbrev Sub (F F' : Hp) : Prop := Same F F'
theorem sub_sqL {K : PySem.W.Frag} {F F' : Hp} {a : Addr} {xs : List V} (e : Sub F F') (h : SqL K F a xs) : SqL K F' a xs := Same.seq e h
theorem sub_sqT {K : PySem.W.Frag} {F F' : Hp} {a : Addr} {xs : List V} (e : Sub F F') (h : SqT K F a xs) : SqT K F' a xs := by
  rcases h with (h | ⟨o, h⟩) | h
  · exact .inl (.inl (e _ _ h))
  · exact .inl (.inr ⟨o, e _ _ h⟩)
  · exact .inr h
mutual
theorem Rep.mono {T : Tb} {F F' : Hp} (e : Sub F F') : ∀ (d : D) (v : V), Rep T F d v → Rep T F' d v
  | .non, v, h => by simpa only [Rep] using h
  | .bl b, v, h => by simpa only [Rep] using h
  | .int i, v, h => by simpa only [Rep] using h
  | .str s, v, h => by simpa only [Rep] using h
  | .fn f, v, h => by simpa only [Rep] using h
  | .exc c ns ds, v, h => by
    simp only [Rep] at h ⊢
    obtain ⟨a, C, od, vs, rfl, h1, h2, h3, r, h4⟩ := h
    refine ⟨a, C, od, vs, rfl, h1, e _ _ h2, h3, Reps.mono e ds vs r, ?_⟩
    rcases h4 with z | ⟨dx, z1, z2⟩
    · exact .inl z
    · exact .inr ⟨dx, z1, e _ _ z2⟩
  | .tup ds, v, h => by
    simp only [Rep] at h ⊢
    obtain ⟨a, vs, rfl, s, r⟩ := h
    exact ⟨a, vs, rfl, sub_sqT e s, Reps.mono e ds vs r⟩
  | .lst ds, v, h => by
    simp only [Rep] at h ⊢
    obtain ⟨a, vs, rfl, s, r⟩ := h
    exact ⟨a, vs, rfl, e _ _ s, Reps.mono e ds vs r⟩
  | .scr ds, v, h => by
    simp only [Rep] at h ⊢
    obtain ⟨a, vs, rfl, s, r⟩ := h
    exact ⟨a, vs, rfl, sub_sqL e s, Reps.mono e ds vs r⟩
  | .dic ks ds, v, h => by
    simp only [Rep] at h ⊢
    obtain ⟨a, vs, rfl, r, kl, h1, h2, h3⟩ := h
    exact ⟨a, vs, rfl, Reps.mono e ds vs r, kl, h1, h2, e _ _ h3⟩
  | .ins c ns ds, v, h => by
    simp only [Rep] at h ⊢
    obtain ⟨a, C, dx, vs, rfl, h1, h2, h3, r⟩ := h
    exact ⟨a, C, dx, vs, rfl, h1, e _ _ h2, h3, Reps.mono e ds vs r⟩
theorem Reps.mono {T : Tb} {F F' : Hp} (e : Sub F F') : ∀ (ds : List D) (vs : List V), Reps T F ds vs → Reps T F' ds vs
  | [], vs, h => by simpa only [Reps] using h
  | d :: ds, vs, h => by
    simp only [Reps] at h ⊢
    obtain ⟨v, r, rfl, h1, h2⟩ := h
    exact ⟨v, r, rfl, Rep.mono e d v h1, Reps.mono e ds r h2⟩
end

section
variable {T : Tb} {F F' : Hp} {A A' : List Addr}
theorem Reps.len : ∀ {ds : List D} {vs : List V}, Reps T F ds vs → ds.length = vs.length
  | [], vs, h => by
    simp only [Reps] at h
    subst h
    rfl
  | d :: ds, vs, h => by
    simp only [Reps] at h
    obtain ⟨v, r, rfl, _, h2⟩ := h
    simp [Reps.len h2]
theorem Reps.nil : Reps T F [] [] := by simp only [Reps]
theorem Reps.cons {d : D} {ds : List D} {v : V} {vs : List V} (h : Rep T F d v) (r : Reps T F ds vs) : Reps T F (d :: ds) (v :: vs) := by
  simp only [Reps]
  exact ⟨v, vs, rfl, h, r⟩
theorem Reps.get : ∀ {ds : List D} {vs : List V} {i : Nat} {d : D}, Reps T F ds vs → ds[i]? = some d → ∃ v, vs[i]? = some v ∧ Rep T F d v
  | [], vs, i, d, h, e => by simp at e
  | x :: ds, vs, i, d, h, e => by
    simp only [Reps] at h
    obtain ⟨v, r, rfl, h1, h2⟩ := h
    cases i with
    | zero =>
      simp at e
      subst e
      exact ⟨v, by simp, h1⟩
    | succ i =>
      obtain ⟨u, a, b⟩ := Reps.get (i := i) (d := d) h2 (by simpa using e)
      exact ⟨u, by simpa using a, b⟩
theorem Reps.getV {ds : List D} {vs : List V} {i : Nat} {v : V} (h : Reps T F ds vs) (e : vs[i]? = some v) : ∃ d, ds[i]? = some d ∧ Rep T F d v := by
  have hl := h.len
  have hi : i < ds.length := by
    have := (List.getElem?_eq_some_iff.mp e).1
    omega
  obtain ⟨u, a, b⟩ := h.get (i := i) (d := ds[i]) (by simp [hi])
  rw [e] at a
  cases a
  exact ⟨ds[i], by simp [hi], b⟩
theorem Reps.app : ∀ {ds es : List D} {vs us : List V}, Reps T F ds vs → Reps T F es us → Reps T F (ds ++ es) (vs ++ us)
  | [], es, vs, us, h, k => by
    simp only [Reps] at h
    subst h
    simpa using k
  | d :: ds, es, vs, us, h, k => by
    simp only [Reps] at h
    obtain ⟨v, r, rfl, h1, h2⟩ := h
    exact Reps.cons h1 (Reps.app h2 k)
theorem Reps.drop : ∀ {ds : List D} {vs : List V} (n : Nat), Reps T F ds vs → Reps T F (ds.drop n) (vs.drop n)
  | ds, vs, 0, h => by simpa using h
  | [], vs, n + 1, h => by
    simp only [Reps] at h
    subst h
    simp [Reps]
  | d :: ds, vs, n + 1, h => by
    simp only [Reps] at h
    obtain ⟨v, r, rfl, _, h2⟩ := h
    exact Reps.drop n h2
theorem Reps.take : ∀ {ds : List D} {vs : List V} (n : Nat), Reps T F ds vs → Reps T F (ds.take n) (vs.take n)
  | ds, vs, 0, h => by simp [Reps]
  | [], vs, n + 1, h => by
    simp only [Reps] at h
    subst h
    simp [Reps]
  | d :: ds, vs, n + 1, h => by
    simp only [Reps] at h
    obtain ⟨v, r, rfl, h1, h2⟩ := h
    exact Reps.cons h1 (Reps.take n h2)
theorem Reps.set : ∀ {ds : List D} {vs : List V} (i : Nat) {d : D} {v : V}, Reps T F ds vs → Rep T F d v → Reps T F (ds.set i d) (vs.set i v)
  | [], vs, i, d, v, h, k => by
    simp only [Reps] at h
    subst h
    simp [Reps]
  | x :: ds, vs, 0, d, v, h, k => by
    simp only [Reps] at h
    obtain ⟨u, r, rfl, h1, h2⟩ := h
    exact Reps.cons k h2
  | x :: ds, vs, i + 1, d, v, h, k => by
    simp only [Reps] at h
    obtain ⟨u, r, rfl, h1, h2⟩ := h
    exact Reps.cons h1 (Reps.set i h2 k)
theorem Reps.erase : ∀ {ds : List D} {vs : List V} (i : Nat), Reps T F ds vs → Reps T F (ds.eraseIdx i) (vs.eraseIdx i)
  | [], vs, i, h => by
    simp only [Reps] at h
    subst h
    simp [Reps]
  | x :: ds, vs, 0, h => by
    simp only [Reps] at h
    obtain ⟨u, r, rfl, h1, h2⟩ := h
    exact h2
  | x :: ds, vs, i + 1, h => by
    simp only [Reps] at h
    obtain ⟨u, r, rfl, h1, h2⟩ := h
    exact Reps.cons h1 (Reps.erase i h2)
theorem Reps.rev : ∀ {ds : List D} {vs : List V}, Reps T F ds vs → Reps T F ds.reverse vs.reverse
  | [], vs, h => by
    simp only [Reps] at h
    subst h
    simp [Reps]
  | x :: ds, vs, h => by
    simp only [Reps] at h
    obtain ⟨u, r, rfl, h1, h2⟩ := h
    rw [List.reverse_cons, List.reverse_cons]
    exact (Reps.rev h2).app (Reps.cons h1 Reps.nil)

/-- a slot's value -/
def RepW (T : Tb) (F : Hp) (A : List Addr) : W → V → Prop
  | .d x, v => Rep T F x v
  | .r k, v => ∃ a, A[k]? = some a ∧ v = .ref a
def ObjRel (T : Tb) (F H : Hp) (a : Addr) : O → Prop
  | .lst ds => F a = none ∧ ∃ vs, H a = some (.lst vs) ∧ Reps T F ds vs
  | .dic ks ds => F a = none ∧ ∃ vs, Reps T F ds vs ∧ (∃ kl : List Key, keysD ks = some kl ∧ kl.length = vs.length ∧ H a = some (.dK (kl.zip vs)))
  | .fz x => Rep T F x (.ref a)
/-- the store stands in the heap -/
structure SRel (T : Tb) (μ : Mu) (H F : Hp) (A : List Addr) : Prop where
  sub : Sub F H
  len : A.length = μ.length
  nod : A.Nodup
  thr : ∀ a, a ∈ A → H a ≠ none
  obj : ∀ (k : Nat) (a : Addr) (o : O), A[k]? = some a → μ[k]? = some o → ObjRel T F H a o
/-- the slots -/
def ERel (T : Tb) (ρ : Env) (σ : L2.St) (F : Hp) (A : List Addr) : Prop :=
  ρ.length = σ.length ∧ ∀ (i : Nat) (w : W), ρ[i]? = some (some w) → ∃ v, σ[i]? = some (some v) ∧ RepW T F A w v
/-- what grows -/
structure Ext (F : Hp) (A : List Addr) (F' : Hp) (A' : List Addr) : Prop where
  sub : Sub F F'
  pre : A <+: A'
theorem Ext.refl (F : Hp) (A : List Addr) : Ext F A F A := ⟨Same.refl F, List.prefix_refl A⟩
theorem Ext.trans {F F1 F2 : Hp} {A A1 A2 : List Addr} (a : Ext F A F1 A1) (b : Ext F1 A1 F2 A2) : Ext F A F2 A2 := ⟨a.sub.trans b.sub, a.pre.trans b.pre⟩
theorem RepW.mono {w : W} {v : V} (e : Ext F A F' A') (h : RepW T F A w v) : RepW T F' A' w v := by
  cases w with
  | d x => exact Rep.mono e.sub x v h
  | r k =>
    obtain ⟨a, h1, h2⟩ := h
    obtain ⟨B, rfl⟩ := e.pre
    exact ⟨a, by rw [List.getElem?_append_left (List.getElem?_eq_some_iff.mp h1).1]; exact h1, h2⟩
theorem ERel.mono {ρ : Env} {σ : L2.St} (e : Ext F A F' A') (h : ERel T ρ σ F A) : ERel T ρ σ F' A' :=
  ⟨h.1, fun i w q => let ⟨v, a, b⟩ := h.2 i w q; ⟨v, a, b.mono e⟩⟩
theorem ERel.set {ρ : Env} {σ : L2.St} {i : Nat} {w : W} {v : V} (h : ERel T ρ σ F A) (r : RepW T F A w v) : ERel T (ρ.set i (some w)) (σ.set i (some v)) F A := by
  refine ⟨by simp [h.1], fun j u q => ?_⟩
  by_cases hj : i = j
  · subst hj
    by_cases hi : i < ρ.length
    · rw [List.getElem?_set_self hi] at q
      cases q
      exact ⟨v, by rw [List.getElem?_set_self (by rw [← h.1]; exact hi)], r⟩
    · rw [List.getElem?_eq_none (by simpa using hi)] at q
      cases q
  · rw [List.getElem?_set_ne hj] at q
    obtain ⟨u', a, b⟩ := h.2 j u q
    exact ⟨u', by rw [List.getElem?_set_ne hj]; exact a, b⟩
theorem ERel.forget {ρ : Env} {σ : L2.St} {i : Nat} (h : ERel T ρ σ F A) : ERel T (ρ.set i none) σ F A := by
  refine ⟨by simp [h.1], fun j u q => ?_⟩
  by_cases hj : i = j
  · subst hj
    by_cases hi : i < ρ.length
    · rw [List.getElem?_set_self hi] at q; cases q
    · rw [List.getElem?_eq_none (by simpa using hi)] at q; cases q
  · rw [List.getElem?_set_ne hj] at q
    exact h.2 j u q

theorem ObjRel.mono {H H' : Hp} {a : Addr} {o : O} (e : Sub F F') (ha : (∀ x, o ≠ .fz x) → F' a = none ∧ H' a = H a) (h : ObjRel T F H a o) : ObjRel T F' H' a o := by
  cases o with
  | lst ds =>
    obtain ⟨h1, h2⟩ := ha (fun x z => nomatch z)
    obtain ⟨_, vs, h3, r⟩ := h
    exact ⟨h1, vs, h2.trans h3, r.mono e⟩
  | dic ks ds =>
    obtain ⟨h1, h2⟩ := ha (fun x z => nomatch z)
    obtain ⟨_, vs, r, kl, h3, h4, h5⟩ := h
    exact ⟨h1, vs, r.mono e, kl, h3, h4, h2.trans h5⟩
  | fz x => exact Rep.mono e x _ h
theorem ObjRel.there {H : Hp} {a : Addr} {o : O} (h : ObjRel T F H a o) (ho : ∀ x, o ≠ .fz x) : ∃ u, H a = some u := by
  cases o with
  | lst ds => obtain ⟨_, vs, h3, _⟩ := h; exact ⟨_, h3⟩
  | dic ks ds => obtain ⟨_, vs, _, kl, _, _, h5⟩ := h; exact ⟨_, h5⟩
  | fz x => exact absurd rfl (ho x)
theorem ObjRel.nF {H : Hp} {a : Addr} {o : O} (h : ObjRel T F H a o) (ho : ∀ x, o ≠ .fz x) : F a = none := by
  cases o with
  | lst ds => exact h.1
  | dic ks ds => exact h.1
  | fz x => exact absurd rfl (ho x)

variable {H : Hp} {μ : Mu}
/-- a new object that doesn't change -/
theorem SRel.new (s : SRel T μ H F A) {p : Addr} {o : HO} (hp : H p = none) : SRel T μ (upd H p o) (upd F p o) A ∧ Sub F (upd F p o) := by
  have hF : F p = none := s.sub.free hp
  have e : Sub F (upd F p o) := fun b u q => by
    rw [upd_ne (ne_of_none q hF)]
    exact q
  refine ⟨⟨fun b u q => ?_, s.len, s.nod, fun a ha => ?_, fun k a ob h1 h2 => ?_⟩, e⟩
  rotate_left
  · have z := s.thr a ha
    intro q
    by_cases hb : a = p
    · rw [hb, upd_same] at q; cases q
    · rw [upd_ne hb] at q; exact z q
  rotate_left
  · by_cases hb : b = p
    · subst hb
      rw [upd_same] at q ⊢
      exact q
    · rw [upd_ne hb] at q ⊢
      exact s.sub _ _ q
  · have r := s.obj k a ob h1 h2
    refine r.mono e fun ho => ?_
    obtain ⟨u, hu⟩ := r.there ho
    have ne := ne_of_none hu hp
    exact ⟨by rw [upd_ne ne]; exact r.nF ho, upd_ne ne⟩
/-- a new object that may change -/
theorem SRel.alloc (s : SRel T μ H F A) {p : Addr} {o : HO} {ob : O} (hp : H p = none) (r : ObjRel T F (upd H p o) p ob) : SRel T (μ ++ [ob]) (upd H p o) F (A ++ [p]) := by
  have hA : p ∉ A := fun z => s.thr p z hp
  refine ⟨fun b u q => ?_, by simp [s.len], ?_, fun a ha => ?_, fun k a ob' h1 h2 => ?_⟩
  rotate_left 2
  · intro q
    by_cases hb : a = p
    · rw [hb, upd_same] at q; cases q
    · rw [upd_ne hb] at q
      rcases List.mem_append.mp ha with z | z
      · exact s.thr a z q
      · exact hb (by simpa using z)
  rotate_left
  · have q' := s.sub _ _ q
    rw [upd_ne (ne_of_none q' hp)]
    exact q'
  · rw [List.nodup_append]
    exact ⟨s.nod, by simp, fun a ha b hb => by
      have : b = p := by simpa using hb
      subst this
      exact fun z => hA (z ▸ ha)⟩
  · by_cases hk : k < μ.length
    · rw [List.getElem?_append_left (by rw [s.len]; exact hk)] at h1
      rw [List.getElem?_append_left hk] at h2
      have q := s.obj k a ob' h1 h2
      refine q.mono (Same.refl F) fun ho => ⟨q.nF ho, ?_⟩
      obtain ⟨u, hu⟩ := q.there ho
      exact upd_ne (ne_of_none hu hp)
    · have hk' : k = μ.length := by
        have := (List.getElem?_eq_some_iff.mp h2).1
        simp at this
        omega
      subst hk'
      rw [List.getElem?_append_right (Nat.le_refl _)] at h2
      simp at h2
      subst h2
      rw [List.getElem?_append_right (by rw [s.len]; exact Nat.le_refl _), s.len] at h1
      simp at h1
      subst h1
      exact r
theorem nodup_getEq {l : List Addr} (h : l.Nodup) {i j : Nat} {a : Addr} (hi : l[i]? = some a) (hj : l[j]? = some a) : i = j := by
  obtain ⟨h1, e1⟩ := List.getElem?_eq_some_iff.mp hi
  obtain ⟨h2, e2⟩ := List.getElem?_eq_some_iff.mp hj
  exact (List.getElem_inj h).mp (e1.trans e2.symm)
/-- the object k is written -/
theorem SRel.write (s : SRel T μ H F A) {k : Nat} {a : Addr} {o : HO} {ob ob' : O} (ha : A[k]? = some a) (hk : μ[k]? = some ob) (ho : ∀ x, ob ≠ .fz x) (r : ObjRel T F (upd H a o) a ob') : SRel T (μ.set k ob') (upd H a o) F A := by
  have hF := (s.obj k a ob ha hk).nF ho
  refine ⟨fun b u q => ?_, by simp [s.len], s.nod, fun b hb => ?_, fun j b ob2 h1 h2 => ?_⟩
  rotate_left
  · intro q
    by_cases hb' : b = a
    · rw [hb', upd_same] at q; cases q
    · rw [upd_ne hb'] at q
      exact s.thr b hb q
  rotate_left
  · rw [upd_ne (ne_of_none q hF)]
    exact s.sub _ _ q
  · by_cases hj : k = j
    · subst hj
      rw [ha] at h1
      cases h1
      rw [List.getElem?_set_self (List.getElem?_eq_some_iff.mp hk).1] at h2
      cases h2
      exact r
    · rw [List.getElem?_set_ne hj] at h2
      have q := s.obj j b ob2 h1 h2
      refine q.mono (Same.refl F) fun ho2 => ⟨q.nF ho2, upd_ne fun z => hj (nodup_getEq s.nod ha (z ▸ h1))⟩
/-- the object k changes no more -/
theorem SRel.freeze (s : SRel T μ H F A) {k : Nat} {a : Addr} {ob : O} {u : HO} {x : D} (ha : A[k]? = some a) (hk : μ[k]? = some ob) (ho : ∀ x, ob ≠ .fz x) (hu : H a = some u) (r : Rep T (upd F a u) x (.ref a)) :
    SRel T (μ.set k (.fz x)) H (upd F a u) A ∧ Sub F (upd F a u) := by
  have hF := (s.obj k a ob ha hk).nF ho
  have e : Sub F (upd F a u) := fun b w q => by
    rw [upd_ne (ne_of_none q hF)]
    exact q
  refine ⟨⟨fun b w q => ?_, by simp [s.len], s.nod, s.thr, fun j b ob2 h1 h2 => ?_⟩, e⟩
  · by_cases hb : b = a
    · subst hb
      rw [upd_same] at q
      cases q
      exact hu
    · rw [upd_ne hb] at q
      exact s.sub _ _ q
  · by_cases hj : k = j
    · subst hj
      rw [ha] at h1
      cases h1
      rw [List.getElem?_set_self (List.getElem?_eq_some_iff.mp hk).1] at h2
      cases h2
      exact r
    · rw [List.getElem?_set_ne hj] at h2
      have q := s.obj j b ob2 h1 h2
      have ne : b ≠ a := fun z => hj (nodup_getEq s.nod ha (by rw [z] at h1; exact h1))
      refine q.mono e fun ho2 => ⟨?_, rfl⟩
      rw [upd_ne ne]
      exact q.nF ho2
/-- the newest objects are forgotten -/
theorem SRel.cut (s : SRel T μ H F A) (n : Nat) : SRel T (μ.take n) H F (A.take n) := by
  refine ⟨s.sub, by simp [s.len], s.nod.sublist (List.take_sublist n A), fun a ha => s.thr a (List.mem_of_mem_take ha), fun k a o h1 h2 => ?_⟩
  rw [List.getElem?_take] at h1 h2
  split at h1
  · rename_i hk
    rw [if_pos hk] at h2
    exact s.obj k a o h1 h2
  · cases h1
end
end PI
/-! PI2: a small language of its own (IE, IS) over data, and what it does. -/
namespace PI
open PySem PySem.Spec PyProof.Rows L2

/-! ### data and the library's data -/
mutual
def D.py : D → Option PyData
  | .non => some .none
  | .bl b => some (.bool b)
  | .int i => some (.int i)
  | .str s => some (.str s)
  | .tup xs => (pys xs).map .tuple
  | .lst xs => (pys xs).map .list
  | _ => none
def pys : List D → Option (List PyData)
  | [] => some []
  | x :: r => match x.py, pys r with
    | some a, some b => some (a :: b)
    | _, _ => none
end

/-- the types that isinstance is asked about -/
inductive Ty where
  | tint | tbool | tstr | tlist | ttuple | tdict | own (c : Str) | valueError | lookupError
deriving DecidableEq

inductive Op where
  | add | sub | mul | fdiv | mod | pow | neg | not
  | eq | ne | lt | le | gt | ge | isN | isnotN | in_ | notin
  | ix
  | len | list | tuple | int | abs | str | all | any | min2 | max2 | sum
  | isi (ts : List Ty) | isx (l : List Str) | sorted | join | split
deriving DecidableEq

inductive Tg where
  | one (i : Nat) | tup (is : List Nat)

mutual
inductive IE where
  | var (i : Nat)
  | cst (d : D)
  | op (o : Op) (es : List IE)
  | tup (es : List IE)
  | lst (es : List IE)
  | and (a b : IE)
  | or (a b : IE)
  | ite (c a b : IE)
  | lc (vs : List Nat) (t : Tg) (it : IT) (cs : List IE) (e : IE)
  | call (f : Str) (es : List IE)
  | callK (f : Str) (pm : List Nat) (es : List IE)
  | fld (f : Str) (e : IE)
  | pop0 (o : IE)
  | pop1 (o i : IE)
  | sl (fl fh : Bool) (a lo hi : IE)
inductive IT where
  | seq (e : IE)
  | rng1 (a : IE)
  | rng2 (a b : IE)
  | enu (e : IE)
  | zip (a b : IE)
end
inductive IS where
  | set (t : Tg) (e : IE)
  | setm (i : Nat) (e : IE)
  | expr (e : IE)
  | app (o : IE) (e : IE)
  | set2 (i j : Nat) (a b : IE)
  | ret (e : IE)
  | retm (e : IE)
  | retN
  | ife (c : IE) (a b : List IS)
  | for_ (t : Tg) (it : IT) (b : List IS)
  | while_ (c : IE) (b : List IS)
  | setix (o i v : IE)
  | raise (c : Str) (es : List IE)
  | raiseK (c : Str) (pm : List Nat) (es : List IE)
  | try_ (b : List IS) (l : List Str) (i j : Nat)
  | brk | cont

/-! ### what comes out -/
inductive X1 (α : Type) where
  | ok (a : α) (m : Mu)
  | er (e : D) (m : Mu)
abbrev R (α : Type) := Option (X1 α)
def R.bind {α β : Type} (r : R α) (f : α → Mu → R β) : R β :=
  match r with
  | none => none
  | some (.er e m) => some (.er e m)
  | some (.ok a m) => f a m
abbrev rok {α : Type} (a : α) (m : Mu) : R α := some (.ok a m)
def R.of {α : Type} (o : Option α) (m : Mu) : R α := o.map fun a => .ok a m

/-- what a slot's value is now -/
def view (μ : Mu) : W → Option D
  | .d x => some x
  | .r k => match μ[k]? with
    | some (.lst xs) => some (.lst xs)
    | some (.dic ks vs) => some (.dic ks vs)
    | some (.fz x) => some x
    | none => none
def views (μ : Mu) : List W → Option (List D)
  | [] => some []
  | w :: r => match view μ w, views μ r with
    | some a, some b => some (a :: b)
    | _, _ => none
/-- as data for good: an object of the store changes no more -/
def toD (w : W) (μ : Mu) : Option (D × Mu) :=
  match w with
  | .d x => some (x, μ)
  | .r k => match μ[k]? with
    | some (.lst xs) => some (.lst xs, μ.set k (.fz (.lst xs)))
    | some (.dic ks vs) => some (.dic ks vs, μ.set k (.fz (.dic ks vs)))
    | some (.fz x) => some (x, μ)
    | none => none
def toDs : List W → Mu → Option (List D × Mu)
  | [], μ => some ([], μ)
  | w :: r, μ => match toD w μ with
    | none => none
    | some (x, μ1) => match toDs r μ1 with
      | none => none
      | some (xs, μ2) => some (x :: xs, μ2)

/-! ### the operations on data -/
def lim : Nat := 100000
def dAdd : D → D → Option D
  | .int i, .int j => some (.int (i + j))
  | .str x, .str y => if x.length + y.length ≤ lim then some (.str (x ++ y)) else none
  | .tup xs, .tup ys => if xs.length + ys.length ≤ lim then some (.tup (xs ++ ys)) else none
  | .lst xs, .lst ys => if xs.length + ys.length ≤ lim then some (.lst (xs ++ ys)) else none
  | _, _ => none
def mulOk (i j : Int) : Bool := decide (-(2 ^ 64) < i ∧ i < 2 ^ 64) || decide (-(2 ^ 64) < j ∧ j < 2 ^ 64)
def dMul : D → D → Option D
  | .int i, .int j => if mulOk i j then some (.int (i * j)) else none
  | .lst xs, .int k => if -1000 ≤ k ∧ k ≤ 1000 ∧ xs.length * k.toNat ≤ lim then some (.lst (List.replicate k.toNat xs).flatten) else none
  | _, _ => none
def dEq (a b : D) : Option Bool :=
  match a.py, b.py with
  | some x, some y => if SeqAt.shaped x && SeqAt.shaped y then some (PyData.eqv x y) else none
  | _, _ => none
def dAt (xs : List D) (i : Int) : Option D := atI xs i
def dIx : D → D → Option D
  | .lst xs, .int i => atI xs i
  | .scr xs, .int i => atI xs i
  | .tup xs, .int i => atI xs i
  | .str z, .int i => if z.length ≤ lim then (atI z.cps.toList i).map fun c => .str ⟨#[c]⟩ else none
  | _, _ => none
def dTy : D → Ty → Option Bool
  | .non, t => some false
  | .bl _, t => some (t == .tint || t == .tbool)
  | .int _, t => some (t == .tint)
  | .str _, t => some (t == .tstr)
  | .tup _, t => some (t == .ttuple)
  | .lst _, t => some (t == .tlist)
  | .dic _ _, t => some (t == .tdict)
  | _, _ => none
def dTys (d : D) : List Ty → Option Bool
  | [] => some false
  | t :: ts => match dTy d t, dTys d ts with
    | some a, some b => some (a || b)
    | _, _ => none
/-- isinstance of a class of which l are the classes under it -/
def dIs (l : List Str) : D → Option Bool
  | .non => some false
  | .bl _ => some false
  | .int _ => some false
  | .str _ => some false
  | .tup _ => some false
  | .lst _ => some false
  | .exc c _ _ => some (l.contains c)
  | _ => none
def dFld (f : Str) : D → Option D
  | .exc _ ns vs => (ns.zip vs).lookup f
  | _ => none
def permL {α : Type} (pm : List Nat) (xs : List α) : Option (List α) := match pm with
  | [] => some []
  | i :: r => match xs[i]?, permL r xs with
    | some x, some l => some (x :: l)
    | _, _ => none
def dIn (x : D) : D → Option Bool
  | .lst ys => match x.py, pys ys with
    | some a, some bs => if SeqAt.shaped a && SeqAt.shaped (.list bs) then some (bs.any fun z => PyData.eqv z a) else none
    | _, _ => none
  | .tup ys => match x.py, pys ys with
    | some a, some bs => if SeqAt.shaped a && SeqAt.shaped (.list bs) then some (bs.any fun z => PyData.eqv z a) else none
    | _, _ => none
  | .str z => match x with
    | .str y => some (!(Builtin.Str.occurrences z y 0 z.length 1).isEmpty)
    | _ => none
  | _ => none
def dBools : List D → Option (List Bool)
  | [] => some []
  | .bl b :: r => (dBools r).map (b :: ·)
  | _ => none
def dInts : List D → Option (List Int)
  | [] => some []
  | .int b :: r => (dInts r).map (b :: ·)
  | _ => none
def dSeq : D → Option (List D)
  | .lst xs => some xs
  | .tup xs => some xs
  | .str z => if z.length ≤ lim then some (z.cps.toList.map fun c => .str ⟨#[c]⟩) else none
  | _ => none
def dCut (d : D) (lo hi : Option Int) : Option D :=
  match d with
  | .scr xs => some (.lst ((xs.drop (HT.sIx xs.length 0 lo)).take (HT.sIx xs.length xs.length hi - HT.sIx xs.length 0 lo)))
  | .lst xs => some (.lst ((xs.drop (HT.sIx xs.length 0 lo)).take (HT.sIx xs.length xs.length hi - HT.sIx xs.length 0 lo)))
  | .tup xs => some (.tup ((xs.drop (HT.sIx xs.length 0 lo)).take (HT.sIx xs.length xs.length hi - HT.sIx xs.length 0 lo)))
  | _ => none
def truth : D → Option Bool
  | .non => some false
  | .bl b => some b
  | .int i => some (i != 0)
  | .str s => if s.length ≤ lim then some (s.length != 0) else none
  | .tup xs => some (!xs.isEmpty)
  | .lst xs => some (!xs.isEmpty)
  | .dic ks _ => some (!ks.isEmpty)
  | _ => none

def sem : Op → List D → Option D
  | .add, [a, b] => dAdd a b
  | .sub, [.int i, .int j] => some (.int (i - j))
  | .mul, [a, b] => dMul a b
  | .fdiv, [.int i, .int j] => if 0 < j ∧ j < 1073741824 then some (.int (i / j)) else none
  | .mod, [.int i, .int j] => if 0 < j then some (.int (i % j)) else none
  | .pow, [.int i, .int j] => if 0 ≤ j ∧ j ≤ 1000000 ∧ i.natAbs < 2 ^ 64 then some (.int (i ^ j.toNat)) else none
  | .neg, [.int i] => some (.int (-i))
  | .not, [a] => (truth a).map fun b => .bl (!b)
  | .eq, [a, b] => (dEq a b).map .bl
  | .ne, [a, b] => (dEq a b).map fun e => .bl (!e)
  | .lt, [.int i, .int j] => some (.bl (decide (i < j)))
  | .le, [.int i, .int j] => some (.bl (decide (i ≤ j)))
  | .gt, [.int i, .int j] => some (.bl (decide (j < i)))
  | .ge, [.int i, .int j] => some (.bl (decide (j ≤ i)))
  | .isN, [a] => some (.bl (match a with | .non => true | _ => false))
  | .isnotN, [a] => some (.bl (match a with | .non => false | _ => true))
  | .in_, [a, b] => (dIn a b).map .bl
  | .notin, [a, b] => (dIn a b).map fun e => .bl (!e)
  | .ix, [a, b] => dIx a b
  | .len, [.lst xs] => some (.int xs.length)
  | .len, [.scr xs] => some (.int xs.length)
  | .len, [.tup xs] => some (.int xs.length)
  | .len, [.str z] => if z.length ≤ lim then some (.int z.length) else none
  | .len, [.dic ks _] => some (.int ks.length)
  | .list, [.lst xs] => some (.lst xs)
  | .list, [.tup xs] => some (.lst xs)
  | .tuple, [.lst xs] => some (.tup xs)
  | .tuple, [.tup xs] => some (.tup xs)
  | .int, [.int i] => some (.int i)
  | .int, [.bl b] => some (.int (if b then 1 else 0))
  | .abs, [.int i] => some (.int (if i < 0 then -i else i))
  | .all, [.lst xs] => (dBools xs).map fun bs => .bl (bs.all id)
  | .any, [.lst xs] => (dBools xs).map fun bs => .bl (bs.any id)
  | .min2, [.int i, .int j] => some (.int (if j < i then j else i))
  | .max2, [.int i, .int j] => some (.int (if j > i then j else i))
  | .isi ts, [a] => (dTys a ts).map .bl
  | .isx l, [a] => (dIs l a).map .bl
  | _, _ => none

/-! ### running -/
def toI : W → Mu → R (Option Int)
  | .d (.int i), μ => rok (some i) μ
  | _, _ => none
/-- what a call does, by the def's name -/
abbrev Phi := Str → List W → Mu → R W

def putL : List Nat → List D → Env → Option Env
  | [], [], ρ => some ρ
  | i :: is, x :: xs, ρ => putL is xs (ρ.set i (some (.d x)))
  | _, _, _ => none
def Tg.put : Tg → D → Env → Option Env
  | .one i, x, ρ => some (ρ.set i (some (.d x)))
  | .tup is, x, ρ => match x with
    | .tup xs => putL is xs ρ
    | _ => none
/-- the slots of a comprehension's own names are empty -/
def wipeE (ρ : Env) : List Nat → Env
  | [] => ρ
  | v :: vs => (wipeE ρ vs).set v none

/-- the elements of a comprehension: f runs the tests and the element; the k-th object is the list that is made -/
def collect (f : D → Mu → R (Option D)) (k : Nat) : List D → Mu → Option Mu
  | [], μ => some μ
  | x :: r, μ => match f x μ with
    | some (.ok (some y) μ1) => match μ1[k]? with
      | some (.lst acc) => if acc.length < lim then collect f k r ((μ1.take (k + 1)).set k (.lst (acc ++ [y]))) else none
      | _ => none
    | some (.ok none μ1) => collect f k r (μ1.take (k + 1))
    | _ => none

mutual
def evE (Φ : Phi) : IE → Env → Mu → R W
  | .var i, ρ, μ => match ρ[i]? with
    | some (some w) => rok w μ
    | _ => none
  | .cst d, ρ, μ => rok (.d d) μ
  | .op o es, ρ, μ => (evL Φ es ρ μ).bind fun ws μ1 => match views μ1 ws with
    | none => none
    | some ds => match sem o ds with
      | none => none
      | some d => rok (.d d) μ1
  | .tup es, ρ, μ => (evL Φ es ρ μ).bind fun ws μ1 => match toDs ws μ1 with
    | none => none
    | some (ds, μ2) => if ds.length ≤ lim then rok (.d (.tup ds)) μ2 else none
  | .lst es, ρ, μ => (evL Φ es ρ μ).bind fun ws μ1 => match toDs ws μ1 with
    | none => none
    | some (ds, μ2) => if ds.length ≤ lim then rok (.d (.lst ds)) μ2 else none
  | .and a b, ρ, μ => (evE Φ a ρ μ).bind fun w μ1 => match (view μ1 w).bind truth with
    | none => none
    | some true => evE Φ b ρ μ1
    | some false => rok w μ1
  | .or a b, ρ, μ => (evE Φ a ρ μ).bind fun w μ1 => match (view μ1 w).bind truth with
    | none => none
    | some true => rok w μ1
    | some false => evE Φ b ρ μ1
  | .ite c a b, ρ, μ => (evE Φ c ρ μ).bind fun w μ1 => match (view μ1 w).bind truth with
    | none => none
    | some true => evE Φ a ρ μ1
    | some false => evE Φ b ρ μ1
  | .lc vs t it cs e, ρ, μ => (evT Φ it ρ μ).bind fun xs μ1 =>
      match collect (fun x m => match t.put x (wipeE ρ vs) with
        | none => none
        | some ρ1 => (evC Φ cs ρ1 m).bind fun b m1 => if b = true then (evE Φ e ρ1 m1).bind fun w m2 => match toD w m2 with
            | none => none
            | some (y, m3) => rok (some y) m3
          else rok none m1) μ1.length xs (μ1 ++ [.lst []]) with
      | none => none
      | some μ2 => match μ2[μ1.length]? with
        | some (.lst ys) => rok (.d (.lst ys)) (μ2.take μ1.length)
        | _ => none
  | .call f es, ρ, μ => (evL Φ es ρ μ).bind fun ws μ1 => Φ f ws μ1
  | .callK f pm es, ρ, μ => (evL Φ es ρ μ).bind fun ws μ1 => match permL pm ws with
    | none => none
    | some us => Φ f us μ1
  | .fld f e, ρ, μ => (evE Φ e ρ μ).bind fun w μ1 => R.of (((view μ1 w).bind (dFld f)).map .d) μ1
  | .pop0 o, ρ, μ => (evE Φ o ρ μ).bind fun w μ1 => match w with
    | .d _ => none
    | .r k => match μ1[k]? with
      | some (.lst xs) => match xs[xs.length - 1]? with
        | some y => rok (.d y) (μ1.set k (.lst xs.dropLast))
        | none => none
      | _ => none
  | .pop1 o i, ρ, μ => (evE Φ o ρ μ).bind fun w μ1 => match w with
    | .d _ => none
    | .r k => match μ1[k]? with
      | some (.lst _) => (evE Φ i ρ μ1).bind fun u μ2 => match u, μ2[k]? with
        | .d (.int j), some (.lst xs) => if -(2 ^ 63) ≤ j ∧ j < 2 ^ 63 then match ixN xs.length j with
          | some n => match xs[n]? with
            | some y => rok (.d y) (μ2.set k (.lst (xs.eraseIdx n)))
            | none => none
          | none => none else none
        | _, _ => none
      | _ => none
  | .sl fl fh a lo hi, ρ, μ => (evE Φ a ρ μ).bind fun w μ1 =>
      (if fl = true then (evE Φ lo ρ μ1).bind toI else rok none μ1).bind fun l μ2 =>
      (if fh = true then (evE Φ hi ρ μ2).bind toI else rok none μ2).bind fun h μ3 => R.of (((view μ3 w).bind fun d => dCut d l h).map .d) μ3
def evL (Φ : Phi) : List IE → Env → Mu → R (List W)
  | [], ρ, μ => rok [] μ
  | e :: es, ρ, μ => (evE Φ e ρ μ).bind fun w μ1 => (evL Φ es ρ μ1).bind fun ws μ2 => rok (w :: ws) μ2
/-- the tests of a comprehension -/
def evC (Φ : Phi) : List IE → Env → Mu → R Bool
  | [], ρ, μ => rok true μ
  | e :: es, ρ, μ => (evE Φ e ρ μ).bind fun w μ1 => match (view μ1 w).bind truth with
    | none => none
    | some true => evC Φ es ρ μ1
    | some false => rok false μ1
def evT (Φ : Phi) : IT → Env → Mu → R (List D)
  | .seq e, ρ, μ => (evE Φ e ρ μ).bind fun w μ1 => match toD w μ1 with
    | none => none
    | some (d, μ2) => R.of (dSeq d) μ2
  | .rng1 a, ρ, μ => (evE Φ a ρ μ).bind fun w μ1 => match w with
    | .d (.int j) => if -(2 ^ 62) ≤ j ∧ j < 2 ^ 62 then rok ((List.range j.toNat).map fun i => .int (0 + (i : Nat))) μ1 else none
    | _ => none
  | .rng2 a b, ρ, μ => (evE Φ a ρ μ).bind fun w μ1 => (evE Φ b ρ μ1).bind fun u μ2 => match w, u with
    | .d (.int i), .d (.int j) => if (-(2 ^ 62) ≤ i ∧ i < 2 ^ 62) ∧ (-(2 ^ 62) ≤ j ∧ j < 2 ^ 62) then rok ((List.range (j - i).toNat).map fun k => .int (i + (k : Nat))) μ2 else none
    | _, _ => none
  | .enu e, ρ, μ => (evE Φ e ρ μ).bind fun w μ1 => match toD w μ1 with
    | none => none
    | some (d, μ2) => match d with
      | .lst xs => rok ((List.range xs.length).zipWith (fun i x => .tup [.int (i : Nat), x]) xs) μ2
      | _ => none
  | .zip a b, ρ, μ => (evE Φ a ρ μ).bind fun w μ1 => (evE Φ b ρ μ1).bind fun u μ2 => match toD w μ2 with
    | none => none
    | some (d, μ3) => match toD u μ3 with
      | none => none
      | some (e, μ4) => match d, e with
        | .lst xs, .lst ys => rok (xs.zipWith (fun x y => .tup [x, y]) ys) μ4
        | .tup xs, .tup ys => rok (xs.zipWith (fun x y => .tup [x, y]) ys) μ4
        | _, _ => none
end

inductive Fl where
  | nx (ρ : Env) | rt (w : W) | bk (ρ : Env) | ct (ρ : Env) | xc (e : D) (ρ : Env)
abbrev RS := Option (Fl × Mu)
/-- an expression of a statement that begins with the slots ρ -/
def R.st {α : Type} (r : R α) (ρ : Env) (f : α → Mu → RS) : RS :=
  match r with
  | none => none
  | some (.er e m) => some (.xc e ρ, m)
  | some (.ok a m) => f a m
/-- f runs one turn of a loop -/
def lop (f : D → Env → Mu → RS) : List D → Env → Mu → RS
  | [], ρ, μ => some (.nx ρ, μ)
  | x :: r, ρ, μ => match f x ρ μ with
    | none => none
    | some (.nx ρ1, μ1) => lop f r ρ1 μ1
    | some (.ct ρ1, μ1) => lop f r ρ1 μ1
    | some (.bk ρ1, μ1) => some (.nx ρ1, μ1)
    | some (.rt w, μ1) => some (.rt w, μ1)
    | some (.xc e ρ1, μ1) => some (.xc e ρ1, μ1)
/-- f runs the test (none: it is false), then the body -/
def whl (f : Env → Mu → Option (Option Fl × Mu)) : Nat → Env → Mu → RS
  | 0, ρ, μ => none
  | n + 1, ρ, μ => match f ρ μ with
    | none => none
    | some (none, μ1) => some (.nx ρ, μ1)
    | some (some (.nx ρ1), μ1) => whl f n ρ1 μ1
    | some (some (.ct ρ1), μ1) => whl f n ρ1 μ1
    | some (some (.bk ρ1), μ1) => some (.nx ρ1, μ1)
    | some (some (.rt w), μ1) => some (.rt w, μ1)
    | some (some (.xc e ρ1), μ1) => some (.xc e ρ1, μ1)
/-- what is made is raised -/
def raiD (r : R W) (ρ : Env) : RS := match r with
  | some (.ok (.d (.exc c ns vs)) m) => some (.xc (.exc c ns vs) ρ, m)
  | some (.er e m) => some (.xc e ρ, m)
  | _ => none
mutual
def exS (Φ : Phi) : IS → Env → Mu → RS
  | .set t e, ρ, μ => (evE Φ e ρ μ).st ρ fun w μ1 => match t with
    | .one i => some (.nx (ρ.set i (some w)), μ1)
    | .tup is => match toD w μ1 with
      | none => none
      | some (d, μ2) => match Tg.put (.tup is) d ρ with
        | none => none
        | some ρ1 => some (.nx ρ1, μ2)
  | .setm i e, ρ, μ => (evE Φ e ρ μ).st ρ fun w μ1 => match w with
    | .d (.lst xs) => some (.nx (ρ.set i (some (.r μ1.length))), μ1 ++ [.lst xs])
    | _ => none
  | .expr e, ρ, μ => (evE Φ e ρ μ).st ρ fun _ μ1 => some (.nx ρ, μ1)
  | .app o e, ρ, μ => (evE Φ o ρ μ).st ρ fun w μ1 => match w with
    | .d _ => none
    | .r k => match μ1[k]? with
      | some (.lst _) => (evE Φ e ρ μ1).st ρ fun u μ2 => match toD u μ2 with
        | none => none
        | some (y, μ3) => match μ3[k]? with
          | some (.lst xs) => if xs.length < lim then some (.nx ρ, μ3.set k (.lst (xs ++ [y]))) else none
          | _ => none
      | _ => none
  | .ret e, ρ, μ => (evE Φ e ρ μ).st ρ fun w μ1 => some (.rt w, μ1)
  | .set2 i j a b, ρ, μ => (evE Φ a ρ μ).st ρ fun w μ1 => (evE Φ b ρ μ1).st ρ fun u μ2 => some (.nx ((ρ.set i (some w)).set j (some u)), μ2)
  | .retm e, ρ, μ => (evE Φ e ρ μ).st ρ fun w μ1 => match w with
    | .d (.lst xs) => some (.rt (.r μ1.length), μ1 ++ [.lst xs])
    | _ => none
  | .retN, ρ, μ => some (.rt (.d .non), μ)
  | .ife c a b, ρ, μ => (evE Φ c ρ μ).st ρ fun w μ1 => match (view μ1 w).bind truth with
    | none => none
    | some true => exB Φ a ρ μ1
    | some false => exB Φ b ρ μ1
  | .for_ t it b, ρ, μ => (evT Φ it ρ μ).st ρ fun xs μ1 => lop (fun x r m => match t.put x r with
      | none => none
      | some r1 => exB Φ b r1 m) xs ρ μ1
  | .while_ c b, ρ, μ => whl (fun r m => match evE Φ c r m with
      | none => none
      | some (.er e m1) => some (some (.xc e r), m1)
      | some (.ok w m1) => match (view m1 w).bind truth with
        | none => none
        | some true => match exB Φ b r m1 with
          | none => none
          | some (fl, m2) => some (some fl, m2)
        | some false => some (none, m1)) 1000000 ρ μ
  | .setix o i v, ρ, μ => (evE Φ v ρ μ).st ρ fun wv μ1 => (evE Φ o ρ μ1).st ρ fun wo μ2 => (evE Φ i ρ μ2).st ρ fun wi μ3 => match wo with
    | .d _ => none
    | .r k => match toD wv μ3 with
      | none => none
      | some (y, μ4) => match μ4[k]?, wi with
        | some (.lst xs), .d (.int j) => match ixN xs.length j with
          | some n => some (.nx ρ, μ4.set k (.lst (xs.set n y)))
          | none => none
        | _, _ => none
  | .raise c es, ρ, μ => (evL Φ es ρ μ).st ρ fun ws μ1 => raiD (Φ c ws μ1) ρ
  | .raiseK c pm es, ρ, μ => (evL Φ es ρ μ).st ρ fun ws μ1 => match permL pm ws with
    | none => none
    | some us => raiD (Φ c us μ1) ρ
  | .try_ b l i j, ρ, μ => match exB Φ b ρ μ with
    | some (.xc (.exc c ns vs) ρ1, μ1) => if l.contains c then some (.nx (((ρ1.set i (some (.d (.exc c ns vs)))).set j (some (.d (.exc c ns vs)))).set i none), μ1) else some (.xc (.exc c ns vs) ρ1, μ1)
    | r => r
  | .brk, ρ, μ => some (.bk ρ, μ)
  | .cont, ρ, μ => some (.ct ρ, μ)
def exB (Φ : Phi) : List IS → Env → Mu → RS
  | [], ρ, μ => some (.nx ρ, μ)
  | s :: r, ρ, μ => match exS Φ s ρ μ with
    | none => none
    | some (.nx ρ1, μ1) => exB Φ r ρ1 μ1
    | some (fl, μ1) => some (fl, μ1)
end
/-- a def -/
structure Df where
  np : Nat
  nn : Nat
  keep : Bool
  body : List IS
def outD (keep : Bool) (n : Nat) : RS → R W
  | none => none
  | some (.rt w, m) => if keep then rok w m else match toD w m with
      | none => none
      | some (x, m1) => rok (.d x) (m1.take n)
  | some (.nx _, m) => rok (.d .non) (m.take n)
  | some (.xc e _, m) => some (.er e (m.take n))
  | _ => none
def callD (d : Df) (Φ : Phi) (ws : List W) (μ : Mu) : R W :=
  if ws.length = d.np then outD d.keep μ.length (exB Φ d.body (ws.map some ++ List.replicate (d.nn - ws.length) none) μ) else none
/-- what stands behind a name: a def, or a class of errors with its one field (and what its value goes through) -/
inductive Gd where
  | fn (d : Df)
  | exc (c : Str) (fo : Option (Str × Option Str))
def iniE : Option Str → IE
  | none => .var 1
  | some g => .call g [.var 1]
/-- the field's value; nothing of the store is left behind -/
def evIni (ie : IE) (Φ : Phi) (w : W) (μ : Mu) : R D := (evE Φ ie [none, some w] μ).bind fun u μ1 => match toD u μ1 with
  | none => none
  | some (d, μ2) => if μ2.length = μ.length then rok d μ2 else none
def excD (c : Str) (fo : Option (Str × Option Str)) (Φ : Phi) (ws : List W) (μ : Mu) : R W :=
  match fo, ws with
  | none, [] => rok (.d (.exc c [] [])) μ
  | some (f, g), [w] => (evIni (iniE g) Φ w μ).bind fun d μ1 => rok (.d (.exc c [f] [d])) μ1
  | _, _ => none
def phi (G : Str → Option Gd) : Nat → Phi
  | 0, _, _, _ => none
  | n + 1, f, ws, μ => match G f with
    | none => none
    | some (.fn d) => callD d (phi G n) ws μ
    | some (.exc c fo) => excD c fo (phi G n) ws μ
end PI
/-! PI3: the operations on data are Python's. -/
namespace PI
open PySem PySem.Spec PyProof.Rows L2

/-- the objects that came are of F' -/
structure Grow (F H F' H' : Hp) : Prop where
  hs : Same H H'
  fs : Sub F F'
  fh : Sub F' H'
  old : ∀ b, H b ≠ none → F' b = F b
section
variable {T : Tb} {F F' F1 F2 H H' H1 H2 : Hp} {A : List Addr} {μ : Mu}
theorem Grow.refl (h : Sub F H) : Grow F H F H := ⟨Same.refl H, Same.refl F, h, fun _ _ => rfl⟩
theorem Grow.trans (a : Grow F H F1 H1) (b : Grow F1 H1 F2 H2) : Grow F H F2 H2 :=
  ⟨a.hs.trans b.hs, a.fs.trans b.fs, b.fh, fun c hc => by
    rw [b.old c, a.old c hc]
    intro z
    cases q : H c with
    | none => exact hc q
    | some o => rw [a.hs c o q] at z; cases z⟩
theorem Grow.new (h : Sub F H) {p : Addr} {o : HO} (hp : H p = none) : Grow F H (upd F p o) (upd H p o) := by
  have hF : F p = none := h.free hp
  refine ⟨fun b u q => ?_, fun b u q => ?_, fun b u q => ?_, fun b hb => ?_⟩
  · rw [upd_ne (ne_of_none q hp)]; exact q
  · rw [upd_ne (ne_of_none q hF)]; exact q
  · by_cases hb : b = p
    · subst hb; rw [upd_same] at q ⊢; exact q
    · rw [upd_ne hb] at q ⊢; exact h _ _ q
  · exact upd_ne fun z => hb (by rw [z]; exact hp)
theorem Grow.srel (g : Grow F H F' H') (s : SRel T μ H F A) : SRel T μ H' F' A := by
  refine ⟨g.fh, s.len, s.nod, fun a ha z => ?_, fun k a o h1 h2 => ?_⟩
  · cases q : H a with
    | none => exact s.thr a ha q
    | some u => rw [g.hs a u q] at z; cases z
  · have r := s.obj k a o h1 h2
    refine r.mono g.fs fun ho => ?_
    obtain ⟨u, hu⟩ := r.there ho
    exact ⟨(g.old a (by rw [hu]; simp)).trans (r.nF ho), (g.hs a u hu).trans hu.symm⟩
theorem Grow.ext (g : Grow F H F' H') (A : List Addr) : Ext F A F' A := ⟨g.fs, List.prefix_refl A⟩

/-- data as it is read: a list, a dict may still change -/
def RepV (T : Tb) (F H : Hp) : D → V → Prop
  | .lst ds, v => ∃ a vs, v = .ref a ∧ H a = some (.lst vs) ∧ Reps T F ds vs
  | .dic ks ds, v => ∃ a vs, v = .ref a ∧ Reps T F ds vs ∧ (∃ kl : List Key, keysD ks = some kl ∧ kl.length = vs.length ∧ H a = some (.dK (kl.zip vs)))
  | d, v => Rep T F d v
theorem Rep.v (h : Sub F H) : ∀ {d : D} {v : V}, Rep T F d v → RepV T F H d v := fun {d v} r => by
  cases d with
  | lst ds =>
    simp only [Rep] at r
    obtain ⟨a, vs, e, h1, h2⟩ := r
    exact ⟨a, vs, e, h _ _ h1, h2⟩
  | dic ks ds =>
    simp only [Rep] at r
    obtain ⟨a, vs, e, h1, kl, h2, h3, h4⟩ := r
    exact ⟨a, vs, e, h1, kl, h2, h3, h _ _ h4⟩
  | _ => exact r
/-- what an operation must do -/
def PQ (T : Tb) (F H : Hp) (d : D) (Q : VK) : Prop := ∀ v F' H', Grow F H F' H' → Rep T F' d v → Q v H'

mutual
theorem Rep.dp (h : Sub F H) : ∀ (d : D) (v : V) (y : PyData), Rep T F d v → d.py = some y → Dp T.K H v y
  | .non, v, y, r, e => by simp only [Rep] at r; subst r; simp only [D.py] at e; cases e; exact .non
  | .bl b, v, y, r, e => by simp only [Rep] at r; subst r; simp only [D.py] at e; cases e; exact .bl b
  | .int i, v, y, r, e => by simp only [Rep] at r; subst r; simp only [D.py] at e; cases e; exact .int i
  | .str s, v, y, r, e => by simp only [Rep] at r; subst r; simp only [D.py] at e; cases e; exact .str s
  | .tup ds, v, y, r, e => by
    simp only [Rep] at r
    obtain ⟨a, vs, rfl, h1, h2⟩ := r
    simp only [D.py] at e
    cases q : pys ds with
    | none => rw [q] at e; cases e
    | some ys =>
      rw [q] at e
      cases e
      exact .tup (sub_sqT h h1) (Reps.dp h ds vs ys h2 q)
  | .lst ds, v, y, r, e => by
    simp only [Rep] at r
    obtain ⟨a, vs, rfl, h1, h2⟩ := r
    simp only [D.py] at e
    cases q : pys ds with
    | none => rw [q] at e; cases e
    | some ys =>
      rw [q] at e
      cases e
      exact .lst (.of (h _ _ h1)) (Reps.dp h ds vs ys h2 q)
  | .dic _ _, v, y, r, e => by simp only [D.py] at e; cases e
  | .ins _ _ _, v, y, r, e => by simp only [D.py] at e; cases e
  | .exc _ _ _, v, y, r, e => by simp only [D.py] at e; cases e
  | .fn _, v, y, r, e => by simp only [D.py] at e; cases e
  | .scr _, v, y, r, e => by simp only [D.py] at e; cases e
theorem Reps.dp (h : Sub F H) : ∀ (ds : List D) (vs : List V) (ys : List PyData), Reps T F ds vs → pys ds = some ys → DpAll T.K H vs ys
  | [], vs, ys, r, e => by
    simp only [Reps] at r
    subst r
    simp only [pys] at e
    cases e
    exact .nil
  | d :: ds, vs, ys, r, e => by
    simp only [Reps] at r
    obtain ⟨v, r', rfl, h1, h2⟩ := r
    simp only [pys] at e
    cases q1 : d.py with
    | none => rw [q1] at e; cases e
    | some y =>
      cases q2 : pys ds with
      | none => rw [q1, q2] at e; cases e
      | some yr =>
        rw [q1, q2] at e
        cases e
        exact .cons (Rep.dp h d v y h1 q1) (Reps.dp h ds r' yr h2 q2)
end
theorem RepV.dp (h : Sub F H) {d : D} {v : V} {y : PyData} (r : RepV T F H d v) (e : d.py = some y) : Dp T.K H v y := by
  cases d with
  | lst ds =>
    obtain ⟨a, vs, rfl, h1, h2⟩ := r
    simp only [D.py] at e
    cases q : pys ds with
    | none => rw [q] at e; cases e
    | some ys =>
      rw [q] at e
      cases e
      exact .lst (.of h1) (Reps.dp h ds vs ys h2 q)
  | dic ks ds => simp only [D.py] at e; cases e
  | _ => exact Rep.dp h _ v y r e
end

/-- a two-place operation on values does what g does on data -/
def Op2 (T : Tb) (X : Cx) (f : Value → Value → Sem Value) (g : D → D → Option D) : Prop :=
  OpR X f fun x y H Q => ∃ F d1 d2 d, Sub F H ∧ RepV T F H d1 x ∧ RepV T F H d2 y ∧ g d1 d2 = some d ∧ PQ T F H d Q
def Op1 (T : Tb) (X : Cx) (f : Value → Sem Value) (g : D → Option D) : Prop :=
  UnR X f fun x H Q => ∃ F d1 d, Sub F H ∧ RepV T F H d1 x ∧ g d1 = some d ∧ PQ T F H d Q

section
variable {T : Tb} {X : Cx} {F H : Hp} {Q : VK}
theorem PQ.int {i : Int} (h : PQ T F H (.int i) Q) (s : Sub F H) : Q (.int i) H := h _ F H (.refl s) (by simp only [Rep])
theorem PQ.bl {i : Bool} (h : PQ T F H (.bl i) Q) (s : Sub F H) : Q (.bl i) H := h _ F H (.refl s) (by simp only [Rep])
theorem PQ.str {i : Str} (h : PQ T F H (.str i) Q) (s : Sub F H) : Q (.str i) H := h _ F H (.refl s) (by simp only [Rep])
theorem PQ.same {d : D} {v : V} (h : PQ T F H d Q) (s : Sub F H) (r : Rep T F d v) : Q v H := h _ F H (.refl s) r
theorem PQ.tup {ds : List D} {vs : List V} (h : PQ T F H (.tup ds) Q) (s : Sub F H) (r : Reps T F ds vs) {p : Addr} (hp : H p = none) : Q (.ref p) (upd H p (.tup vs)) := by
  have g := Grow.new s (o := .tup vs) hp
  refine h _ _ _ g ?_
  simp only [Rep]
  exact ⟨p, vs, rfl, .of upd_same, r.mono g.fs⟩
theorem PQ.lst {ds : List D} {vs : List V} (h : PQ T F H (.lst ds) Q) (s : Sub F H) (r : Reps T F ds vs) {p : Addr} (hp : H p = none) : Q (.ref p) (upd H p (.lst vs)) := by
  have g := Grow.new s (o := .lst vs) hp
  refine h _ _ _ g ?_
  simp only [Rep]
  exact ⟨p, vs, rfl, upd_same, r.mono g.fs⟩
theorem lim_le {n : Nat} (h : n ≤ lim) : n ≤ sizeLine := Nat.le_trans h (by decide)
theorem RepV.int {i : Int} {x : V} (h : RepV T F H (.int i) x) : x = .int i := by simpa only [RepV, Rep] using h
theorem RepV.bl {i : Bool} {x : V} (h : RepV T F H (.bl i) x) : x = .bl i := by simpa only [RepV, Rep] using h
theorem RepV.str {i : Str} {x : V} (h : RepV T F H (.str i) x) : x = .str i := by simpa only [RepV, Rep] using h
theorem RepV.non {x : V} (h : RepV T F H .non x) : x = .non := by simpa only [RepV, Rep] using h
theorem RepV.tup {ds : List D} {x : V} (h : RepV T F H (.tup ds) x) : ∃ a vs, x = .ref a ∧ SqT T.K F a vs ∧ Reps T F ds vs := by simpa only [RepV, Rep] using h
theorem RepV.scr {ds : List D} {x : V} (h : RepV T F H (.scr ds) x) : ∃ a vs, x = .ref a ∧ SqL T.K F a vs ∧ Reps T F ds vs := by simpa only [RepV, Rep] using h
theorem RepV.lst {ds : List D} {x : V} (h : RepV T F H (.lst ds) x) : ∃ a vs, x = .ref a ∧ H a = some (.lst vs) ∧ Reps T F ds vs := h

theorem o_add (hK : X.K = T.K) : Op2 T X (binaryOp .Add) dAdd := by
  intro pins s σ H x y v u Q I rx ry h
  obtain ⟨F, d1, d2, d, sF, r1, r2, e, q⟩ := h
  unfold dAdd at e
  split at e
  · cases e
    cases r1.int; cases r2.int
    exact op_add pins s σ H _ _ v u Q I rx ry ⟨_, _, rfl, rfl, q.int sF⟩
  · split at e
    · rename_i hz
      cases e
      cases r1.str; cases r2.str
      exact op_add_str pins s σ H _ _ v u Q I rx ry ⟨_, _, rfl, rfl, lim_le hz, q.str sF⟩
    · cases e
  · split at e
    · rename_i xs ys hz
      cases e
      obtain ⟨a, vs, rfl, h1, h2⟩ := r1.tup
      obtain ⟨b, us, rfl, h3, h4⟩ := r2.tup
      have l1 := h2.len
      have l2 := h4.len
      refine op_catA pins s σ H _ _ v u Q I rx ry ⟨a, b, vs, us, rfl, rfl, hK ▸ sub_sqT sF h1, hK ▸ sub_sqT sF h3, lim_le (by omega), fun e => ?_, fun _ e => ?_, fun _ _ p hp => ?_⟩
      · subst e
        refine q.same sF ?_
        have : xs = [] := List.eq_nil_of_length_eq_zero (by simpa using l1)
        subst this
        simp only [Rep, List.nil_append]
        exact ⟨b, us, rfl, h3, h4⟩
      · subst e
        refine q.same sF ?_
        have : ys = [] := List.eq_nil_of_length_eq_zero (by simpa using l2)
        subst this
        simp only [Rep, List.append_nil]
        exact ⟨a, vs, rfl, h1, h2⟩
      · exact q.tup sF (h2.app h4) hp
    · cases e
  · split at e
    · rename_i xs ys hz
      cases e
      obtain ⟨a, vs, rfl, h1, h2⟩ := r1.lst
      obtain ⟨b, us, rfl, h3, h4⟩ := r2.lst
      have l1 := h2.len
      have l2 := h4.len
      exact op_cat pins s σ H _ _ v u Q I rx ry ⟨a, b, vs, us, rfl, rfl, h1, h3, lim_le (by omega), fun p hp => q.lst sF (h2.app h4) hp⟩
    · cases e
  · cases e

def gI (f : Int → Int → D) (c : Int → Int → Prop) [∀ i j, Decidable (c i j)] : D → D → Option D
  | .int i, .int j => if c i j then some (f i j) else none
  | _, _ => none
/-- an operation on two ints -/
theorem o_int {f : Value → Value → Sem Value} {g : D → D → Option D} {gv : Int → Int → V} {gd : Int → Int → D} {C : Int → Int → Prop}
    (op : OpR X f (rI C gv)) (hg : ∀ d1 d2 d, g d1 d2 = some d → ∃ i j, d1 = .int i ∧ d2 = .int j ∧ C i j ∧ d = gd i j) (hr : ∀ i j F, Rep T F (gd i j) (gv i j)) : Op2 T X f g := by
  intro pins s σ H x y v u Q I rx ry h
  obtain ⟨F, d1, d2, d, sF, r1, r2, e, q⟩ := h
  obtain ⟨i, j, rfl, rfl, hc, rfl⟩ := hg _ _ _ e
  cases r1.int; cases r2.int
  exact op pins s σ H _ _ v u Q I rx ry ⟨i, j, rfl, rfl, hc, q.same sF (hr i j F)⟩
theorem o_int0 {f : Value → Value → Sem Value} {g : D → D → Option D} {gv : Int → Int → V} {gd : Int → Int → D}
    (op : OpR X f (rI0 gv)) (hg : ∀ d1 d2 d, g d1 d2 = some d → ∃ i j, d1 = .int i ∧ d2 = .int j ∧ d = gd i j) (hr : ∀ i j F, Rep T F (gd i j) (gv i j)) : Op2 T X f g := by
  intro pins s σ H x y v u Q I rx ry h
  obtain ⟨F, d1, d2, d, sF, r1, r2, e, q⟩ := h
  obtain ⟨i, j, rfl, rfl, rfl⟩ := hg _ _ _ e
  cases r1.int; cases r2.int
  exact op pins s σ H _ _ v u Q I rx ry ⟨i, j, rfl, rfl, q.same sF (hr i j F)⟩
theorem sem2_int {o : Op} {gd : Int → Int → D} (h : ∀ a b d, sem o [a, b] = some d → ∃ i j, a = .int i ∧ b = .int j ∧ d = gd i j) : True := trivial
theorem o_sub : Op2 T X (binaryOp .Sub) (fun a b => sem .sub [a, b]) :=
  o_int0 (gd := fun i j => .int (i - j)) op_sub (fun d1 d2 d e => by
    cases d1 <;> cases d2 <;> first | (simp only [sem] at e; cases e; exact ⟨_, _, rfl, rfl, rfl⟩) | (simp only [sem] at e; cases e)) fun i j F => by simp only [Rep]
theorem o_lt : Op2 T X (compareOp .Lt) (fun a b => sem .lt [a, b]) :=
  o_int0 (gd := fun i j => .bl (decide (i < j))) op_lt (fun d1 d2 d e => by
    cases d1 <;> cases d2 <;> first | (simp only [sem] at e; cases e; exact ⟨_, _, rfl, rfl, rfl⟩) | (simp only [sem] at e; cases e)) fun i j F => by simp only [Rep]
theorem o_le : Op2 T X (compareOp .LtE) (fun a b => sem .le [a, b]) :=
  o_int0 (gd := fun i j => .bl (decide (i ≤ j))) op_le (fun d1 d2 d e => by
    cases d1 <;> cases d2 <;> first | (simp only [sem] at e; cases e; exact ⟨_, _, rfl, rfl, rfl⟩) | (simp only [sem] at e; cases e)) fun i j F => by simp only [Rep]
theorem o_gt : Op2 T X (compareOp .Gt) (fun a b => sem .gt [a, b]) :=
  o_int0 (gd := fun i j => .bl (decide (j < i))) op_gt (fun d1 d2 d e => by
    cases d1 <;> cases d2 <;> first | (simp only [sem] at e; cases e; exact ⟨_, _, rfl, rfl, rfl⟩) | (simp only [sem] at e; cases e)) fun i j F => by simp only [Rep]
theorem o_ge : Op2 T X (compareOp .GtE) (fun a b => sem .ge [a, b]) :=
  o_int0 (gd := fun i j => .bl (decide (j ≤ i))) op_ge (fun d1 d2 d e => by
    cases d1 <;> cases d2 <;> first | (simp only [sem] at e; cases e; exact ⟨_, _, rfl, rfl, rfl⟩) | (simp only [sem] at e; cases e)) fun i j F => by simp only [Rep]
theorem o_fdiv : Op2 T X (binaryOp .FloorDiv) (fun a b => sem .fdiv [a, b]) :=
  o_int (C := CDiv) (gd := fun i j => .int (i / j)) op_fdiv (fun d1 d2 d e => by
    cases d1 <;> cases d2 <;> first | (simp only [sem] at e; split at e <;> first | (cases e; exact ⟨_, _, rfl, rfl, by assumption, rfl⟩) | cases e) | (simp only [sem] at e; cases e)) fun i j F => by simp only [Rep]
theorem o_mod : Op2 T X (binaryOp .Mod) (fun a b => sem .mod [a, b]) :=
  o_int (C := fun _ j => 0 < j) (gd := fun i j => .int (i % j)) op_mod (fun d1 d2 d e => by
    cases d1 <;> cases d2 <;> first | (simp only [sem] at e; split at e <;> first | (cases e; exact ⟨_, _, rfl, rfl, by assumption, rfl⟩) | cases e) | (simp only [sem] at e; cases e)) fun i j F => by simp only [Rep]
theorem o_pow : Op2 T X (binaryOp .Pow) (fun a b => sem .pow [a, b]) :=
  o_int (C := CPow) (gd := fun i j => .int (i ^ j.toNat)) op_pow (fun d1 d2 d e => by
    cases d1 <;> cases d2 <;> first | (simp only [sem] at e; split at e <;> first | (cases e; exact ⟨_, _, rfl, rfl, by assumption, rfl⟩) | cases e) | (simp only [sem] at e; cases e)) fun i j F => by simp only [Rep]
theorem Reps.repl {ds : List D} {vs : List V} (r : Reps T F ds vs) : ∀ k : Nat, Reps T F (List.replicate k ds).flatten (List.replicate k vs).flatten
  | 0 => by simp [Reps]
  | k + 1 => by
    rw [List.replicate_succ, List.replicate_succ, List.flatten_cons, List.flatten_cons]
    exact r.app (Reps.repl r k)
theorem o_mul (hK : X.K = T.K) : Op2 T X (binaryOp .Mult) (fun a b => dMul a b) := by
  intro pins s σ H x y v u Q I rx ry h
  obtain ⟨F, d1, d2, d, sF, r1, r2, e, q⟩ := h
  simp only [dMul] at e
  split at e
  · split at e
    · rename_i i j hm
      cases e
      cases r1.int; cases r2.int
      refine op_mul pins s σ H _ _ v u Q I rx ry ⟨_, _, rfl, rfl, ?_, q.int sF⟩
      show (-(2 ^ 64) < i ∧ i < 2 ^ 64) ∨ (-(2 ^ 64) < j ∧ j < 2 ^ 64)
      rcases Bool.or_eq_true_iff.mp hm with z | z
      · exact .inl (of_decide_eq_true z)
      · exact .inr (of_decide_eq_true z)
    · cases e
  · split at e
    · rename_i xs k hz
      cases e
      cases r2.int
      obtain ⟨a, vs, rfl, h1, h2⟩ := r1.lst
      have l1 := h2.len
      exact op_rep pins s σ H _ _ v u Q I rx ry ⟨a, k, vs, rfl, rfl, h1, by omega, by omega, lim_le (by rw [← l1]; exact hz.2.2), fun p hp => q.lst sF (h2.repl _) hp⟩
    · cases e
  · cases e

theorem dEq_ok {a b : D} {k : Bool} (h : dEq a b = some k) : ∃ x y, a.py = some x ∧ b.py = some y ∧ SeqAt.shaped x = true ∧ SeqAt.shaped y = true ∧ k = PyData.eqv x y := by
  unfold dEq at h
  split at h
  · rename_i x y h1 h2
    split at h
    · rename_i hs
      cases h
      obtain ⟨a1, a2⟩ := Bool.and_eq_true_iff.mp hs
      exact ⟨x, y, h1, h2, a1, a2, rfl⟩
    · cases h
  · cases h
theorem sem_eq {a b d : D} (h : sem .eq [a, b] = some d) : ∃ k, dEq a b = some k ∧ d = .bl k := by
  simp only [sem] at h
  obtain ⟨k, h1, h2⟩ := Option.map_eq_some_iff.mp h
  exact ⟨k, h1, h2.symm⟩
theorem o_eq (hK : X.K = T.K) (hu : X.A.units + 64 < cLine) : Op2 T X (compareOp .Eq) (fun a b => sem .eq [a, b]) := by
  intro pins s σ H x y v u Q I rx ry h
  obtain ⟨F, d1, d2, d, sF, r1, r2, e, q⟩ := h
  obtain ⟨k, hk, rfl⟩ := sem_eq e
  obtain ⟨p1, p2, e1, e2, s1, s2, rfl⟩ := dEq_ok hk
  exact op_eqD hu pins s σ H x y v u Q I rx ry ⟨p1, p2, hK ▸ r1.dp sF e1, hK ▸ r2.dp sF e2, s1, s2, q.bl sF⟩
theorem o_ne (hK : X.K = T.K) (hu : X.A.units + 64 < cLine) : Op2 T X (compareOp .NotEq) (fun a b => sem .ne [a, b]) := by
  intro pins s σ H x y v u Q I rx ry h
  obtain ⟨F, d1, d2, d, sF, r1, r2, e, q⟩ := h
  simp only [sem] at e
  obtain ⟨k, hk, rfl⟩ := Option.map_eq_some_iff.mp e
  obtain ⟨p1, p2, e1, e2, s1, s2, rfl⟩ := dEq_ok hk
  exact op_neD hu pins s σ H x y v u Q I rx ry ⟨p1, p2, hK ▸ r1.dp sF e1, hK ▸ r2.dp sF e2, s1, s2, q.bl sF⟩
theorem seq_dp (sF : Sub F H) {ds : List D} {ys : List PyData} {x : V} (e : pys ds = some ys) (r : RepV T F H (.lst ds) x) : Dp T.K H x (.list ys) := r.dp sF (by simp only [D.py, e, Option.map_some])
theorem tup_dp (sF : Sub F H) {ds : List D} {ys : List PyData} {x : V} (e : pys ds = some ys) (r : RepV T F H (.tup ds) x) : Dp T.K H x (.tuple ys) := r.dp sF (by simp only [D.py, e, Option.map_some])
theorem dIn_lst {x : D} {ys : List D} {k : Bool} (h : (match x.py, pys ys with
    | some a, some bs => if SeqAt.shaped a && SeqAt.shaped (.list bs) then some (bs.any fun z => PyData.eqv z a) else none
    | _, _ => none) = some k) : ∃ a bs, x.py = some a ∧ pys ys = some bs ∧ SeqAt.shaped a = true ∧ SeqAt.shaped (.list bs) = true ∧ k = bs.any fun z => PyData.eqv z a := by
  split at h
  · rename_i a bs h1 h2
    split at h
    · rename_i hs
      cases h
      obtain ⟨a1, a2⟩ := Bool.and_eq_true_iff.mp hs
      exact ⟨a, bs, h1, h2, a1, a2, rfl⟩
    · cases h
  · cases h
/-- in, over values -/
theorem o_inV (hK : X.K = T.K) (hu : X.A.units + 65 < cLine) {pins : List (Addr × Obj)} {s : Shared} {σ : L2.St} {H : Hp} {x y : V} {v u : Value} {k : Bool} {d1 d2 : D} (I : Inv X pins σ H s) (rx : RelV x v) (ry : RelV y u) (sF : Sub F H) (r1 : RepV T F H d1 x) (r2 : RepV T F H d2 y)
    (e : dIn d1 d2 = some k) :
    (Q (.bl k) H → wpAny (model X.prog X.w) X.A (compareOp .In v u) (EP X pins σ Q) X.xe s) ∧ (Q (.bl (!k)) H → wpAny (model X.prog X.w) X.A (compareOp .NotIn v u) (EP X pins σ Q) X.xe s) := by
  unfold dIn at e
  split at e
  · obtain ⟨a, bs, h1, h2, s1, s2, rfl⟩ := dIn_lst e
    obtain ⟨as, rd1⟩ := Dp.reads I a x v (hK ▸ r1.dp sF h1) rx
    obtain ⟨cs, rd2⟩ := Dp.reads I (.list bs) y u (hK ▸ seq_dp sF h2 r2) ry
    exact ⟨fun q => SeqAt.in_list_reads rd2 rd1 (SeqAt.canLay_of_shaped s2) (SeqAt.canLay_of_shaped s1) (room_in_shaped s1 hu) ⟨.bl _, H, I, rfl, q⟩,
      fun q => SeqAt.notIn_list_reads rd2 rd1 (SeqAt.canLay_of_shaped s2) (SeqAt.canLay_of_shaped s1) (room_in_shaped s1 hu) ⟨.bl _, H, I, rfl, q⟩⟩
  · obtain ⟨a, bs, h1, h2, s1, s2, rfl⟩ := dIn_lst e
    obtain ⟨as, rd1⟩ := Dp.reads I a x v (hK ▸ r1.dp sF h1) rx
    obtain ⟨cs, rd2⟩ := Dp.reads I (.tuple bs) y u (hK ▸ tup_dp sF h2 r2) ry
    exact ⟨fun q => SeqAt.in_tuple_reads rd2 rd1 (SeqAt.canLay_of_shaped s2) (SeqAt.canLay_of_shaped s1) (room_in_shaped s1 hu) ⟨.bl _, H, I, rfl, q⟩,
      fun q => SeqAt.notIn_tuple_reads rd2 rd1 (SeqAt.canLay_of_shaped s2) (SeqAt.canLay_of_shaped s1) (room_in_shaped s1 hu) ⟨.bl _, H, I, rfl, q⟩⟩
  · split at e
    · cases e
      cases r1.str; cases r2.str
      exact ⟨fun q => op_in_str pins s σ H _ _ v u Q I rx ry ⟨_, _, rfl, rfl, q⟩, fun q => op_notin_str pins s σ H _ _ v u Q I rx ry ⟨_, _, rfl, rfl, q⟩⟩
    · cases e
  · cases e

theorem o_ix (hK : X.K = T.K) : IxR X fun x y H Q => ∃ F d1 d2 d, Sub F H ∧ RepV T F H d1 x ∧ RepV T F H d2 y ∧ dIx d1 d2 = some d ∧ PQ T F H d Q := by
  intro va sl pins s σ H x y v u Q I rx ry h hsl
  obtain ⟨F, d1, d2, d, sF, r1, r2, e, q⟩ := h
  have at_ : ∀ {xs : List D} {vs : List V} {i : Int} {d : D}, Reps T F xs vs → atI xs i = some d → ∃ z, atI vs i = some z ∧ Rep T F d z := fun {xs vs i d} r e => by
    unfold atI at e ⊢
    rw [← r.len]
    cases hn : ixN xs.length i with
    | none => rw [hn] at e; cases e
    | some j =>
      rw [hn] at e
      obtain ⟨z, h1, h2⟩ := r.get e
      exact ⟨z, h1, h2⟩
  unfold dIx at e
  split at e
  · cases r2.int
    obtain ⟨a, vs, rfl, h1, h2⟩ := r1.lst
    obtain ⟨z, h3, h4⟩ := at_ h2 e
    exact ix_list va sl pins s σ H _ _ v u Q I rx ry ⟨a, vs, _, z, rfl, rfl, .of h1, h3, q.same sF h4⟩ hsl
  · cases r2.int
    obtain ⟨a, vs, rfl, h1, h2⟩ := r1.scr
    obtain ⟨z, h3, h4⟩ := at_ h2 e
    exact ix_list va sl pins s σ H _ _ v u Q I rx ry ⟨a, vs, _, z, rfl, rfl, hK ▸ sub_sqL sF h1, h3, q.same sF h4⟩ hsl
  · cases r2.int
    obtain ⟨a, vs, rfl, h1, h2⟩ := r1.tup
    obtain ⟨z, h3, h4⟩ := at_ h2 e
    exact ix_tup va sl pins s σ H _ _ v u Q I rx ry ⟨a, vs, _, z, rfl, rfl, hK ▸ sub_sqT sF h1, h3, q.same sF h4⟩ hsl
  · split at e
    · rename_i hz
      obtain ⟨c, h1, rfl⟩ := Option.map_eq_some_iff.mp e
      cases r1.str; cases r2.int
      exact ix_str va sl pins s σ H _ _ v u Q I rx ry ⟨_, _, c, rfl, rfl, lim_le hz, h1, q.str sF⟩ hsl
    · cases e
  · cases e

theorem Reps.cut {ds : List D} {vs : List V} (r : Reps T F ds vs) (lo hi : Option Int) : Reps T F ((ds.drop (HT.sIx ds.length 0 lo)).take (HT.sIx ds.length ds.length hi - HT.sIx ds.length 0 lo)) (cutV vs lo hi) := by
  unfold cutV
  rw [← r.len]
  exact (r.drop _).take _
theorem o_slice (hK : X.K = T.K) : SlR X fun x lo hi H Q => ∃ F d1 d, Sub F H ∧ RepV T F H d1 x ∧ dCut d1 lo hi = some d ∧ PQ T F H d Q := by
  intro pins s σ H x v vl vu lo hi sl Q I rx hs pl pu h
  obtain ⟨F, d1, d, sF, r1, e, q⟩ := h
  unfold dCut at e
  split at e
  · cases e
    obtain ⟨a, vs, rfl, h1, h2⟩ := r1.scr
    exact sl_list pins s σ H _ v vl vu lo hi sl Q I rx hs pl pu ⟨a, vs, rfl, hK ▸ sub_sqL sF h1, fun p hp => q.lst sF (h2.cut lo hi) hp⟩
  · cases e
    obtain ⟨a, vs, rfl, h1, h2⟩ := r1.lst
    exact sl_list pins s σ H _ v vl vu lo hi sl Q I rx hs pl pu ⟨a, vs, rfl, .of h1, fun p hp => q.lst sF (h2.cut lo hi) hp⟩
  · cases e
    rename_i xs
    obtain ⟨a, vs, rfl, h1, h2⟩ := r1.tup
    refine sl_tupA pins s σ H _ v vl vu lo hi sl Q I rx hs pl pu ⟨a, vs, rfl, hK ▸ sub_sqT sF h1, fun hw => ?_, fun _ p hp => q.tup sF (h2.cut lo hi) hp⟩
    refine q.same sF ?_
    rw [← h2.len] at hw
    rw [hw.1, hw.2, Nat.sub_zero, List.drop_zero, List.take_length]
    simp only [Rep]
    exact ⟨a, vs, rfl, h1, h2⟩
  · cases e

/-- a built-in function by its values -/
def OpC (T : Tb) (X : Cx) (f : Value) (o : Op) : Prop := CallR X f fun xs H Q => ∃ F ds d, Sub F H ∧ Paired (fun x d => RepV T F H d x) xs ds ∧ sem o ds = some d ∧ PQ T F H d Q
theorem p1 {T : Tb} {F H : Hp} {xs : List V} {d : D} (p : Paired (fun x d => RepV T F H d x) xs [d]) : ∃ x, xs = [x] ∧ RepV T F H d x := by
  cases p with
  | cons a b => cases b; exact ⟨_, rfl, a⟩
theorem p2 {T : Tb} {F H : Hp} {xs : List V} {d e : D} (p : Paired (fun x d => RepV T F H d x) xs [d, e]) : ∃ x y, xs = [x, y] ∧ RepV T F H d x ∧ RepV T F H e y := by
  cases p with
  | cons a b =>
    cases b with
    | cons b c => cases c; exact ⟨_, _, rfl, a, b⟩
theorem sem1 {o : Op} {ds : List D} {d : D} (e : sem o ds = some d) (h1 : ∀ a b r, sem o (a :: b :: r) = none) (h0 : sem o [] = none) : ∃ a, ds = [a] := by
  match ds, e with
  | [], e => rw [h0] at e; cases e
  | [a], e => exact ⟨a, rfl⟩
  | a :: b :: r, e => rw [h1] at e; cases e
theorem c_len (hK : X.K = T.K) : OpC T X (.builtin "len") .len := by
  intro pins s σ H xs us Q I r h
  obtain ⟨F, ds, d, sF, p, e, q⟩ := h
  obtain ⟨a, rfl⟩ := sem1 e (fun a b r => by cases a <;> rfl) rfl
  obtain ⟨x, rfl, rx⟩ := p1 p
  cases a with
  | lst ys =>
    simp only [sem] at e
    cases e
    obtain ⟨a, vs, rfl, h1, h2⟩ := rx.lst
    exact call_len_seq pins s σ H _ us Q I r ⟨a, vs, rfl, .inl (.of h1), by rw [← h2.len]; exact q.int sF⟩
  | scr ys =>
    simp only [sem] at e
    cases e
    obtain ⟨a, vs, rfl, h1, h2⟩ := rx.scr
    exact call_len_seq pins s σ H _ us Q I r ⟨a, vs, rfl, .inl (hK ▸ sub_sqL sF h1), by rw [← h2.len]; exact q.int sF⟩
  | tup ys =>
    simp only [sem] at e
    cases e
    obtain ⟨a, vs, rfl, h1, h2⟩ := rx.tup
    exact call_len_seq pins s σ H _ us Q I r ⟨a, vs, rfl, .inr (hK ▸ sub_sqT sF h1), by rw [← h2.len]; exact q.int sF⟩
  | str z =>
    simp only [sem] at e
    split at e
    · rename_i hz
      cases e
      cases rx.str
      exact call_len_str pins s σ H _ us Q I r ⟨_, rfl, lim_le hz, q.int sF⟩
    · cases e
  | dic ks ys =>
    simp only [sem] at e
    cases e
    obtain ⟨a, vs, rfl, h1, kl, h2, h3, h4⟩ := rx
    obtain ⟨u1, rfl, ru⟩ := vals1 r
    cases ru
    refine d_len I (.inl h4) fun t s' I' => ⟨.int (kl.zip vs).length, H, I', ⟨_, rfl⟩, ?_⟩
    have hk : ks.length = kl.length := by
      clear h4 h3 q p r I
      induction ks generalizing kl with
      | nil => simp only [keysD] at h2; cases h2; rfl
      | cons k ks ih =>
        simp only [keysD] at h2
        split at h2
        · rename_i a b h5 h6
          cases h2
          simp [ih b h6]
        · cases h2
    rw [List.length_zip, h3, Nat.min_self, ← h3, ← hk]
    exact q.int sF
  | _ => simp only [sem] at e; cases e
theorem c_list (hK : X.K = T.K) : OpC T X (.type "list") .list := by
  intro pins s σ H xs us Q I r h
  obtain ⟨F, ds, d, sF, p, e, q⟩ := h
  obtain ⟨a, rfl⟩ := sem1 e (fun a b r => by cases a <;> rfl) rfl
  obtain ⟨x, rfl, rx⟩ := p1 p
  cases a with
  | lst ys =>
    simp only [sem] at e
    cases e
    obtain ⟨a, vs, rfl, h1, h2⟩ := rx.lst
    exact call_list_of pins s σ H _ us Q I r ⟨a, vs, rfl, .inl (.of h1), fun l hl => q.lst sF h2 hl⟩
  | tup ys =>
    simp only [sem] at e
    cases e
    obtain ⟨a, vs, rfl, h1, h2⟩ := rx.tup
    exact call_list_of pins s σ H _ us Q I r ⟨a, vs, rfl, .inr (hK ▸ sub_sqT sF h1), fun l hl => q.lst sF h2 hl⟩
  | _ => simp only [sem] at e; cases e
theorem c_tuple (hK : X.K = T.K) : OpC T X (.type "tuple") .tuple := by
  intro pins s σ H xs us Q I r h
  obtain ⟨F, ds, d, sF, p, e, q⟩ := h
  obtain ⟨a, rfl⟩ := sem1 e (fun a b r => by cases a <;> rfl) rfl
  obtain ⟨x, rfl, rx⟩ := p1 p
  cases a with
  | lst ys =>
    simp only [sem] at e
    cases e
    obtain ⟨a, vs, rfl, h1, h2⟩ := rx.lst
    exact call_tuple_of pins s σ H _ us Q I r ⟨a, vs, rfl, .inl ⟨.of h1, fun l hl => q.tup sF h2 hl⟩⟩
  | tup ys =>
    simp only [sem] at e
    cases e
    obtain ⟨a, vs, rfl, h1, h2⟩ := rx.tup
    refine call_tuple_of pins s σ H _ us Q I r ⟨a, vs, rfl, .inr ⟨hK ▸ sub_sqT sF h1, q.same sF ?_⟩⟩
    simp only [Rep]
    exact ⟨a, vs, rfl, h1, h2⟩
  | _ => simp only [sem] at e; cases e
theorem c_int : OpC T X (.type "int") .int := by
  intro pins s σ H xs us Q I r h
  obtain ⟨F, ds, d, sF, p, e, q⟩ := h
  obtain ⟨a, rfl⟩ := sem1 e (fun a b r => by cases a <;> rfl) rfl
  obtain ⟨x, rfl, rx⟩ := p1 p
  cases a with
  | int i =>
    simp only [sem] at e
    cases e
    cases rx.int
    exact call_int1 pins s σ H _ us Q I r (.inl ⟨_, rfl, q.int sF⟩)
  | bl i =>
    simp only [sem] at e
    cases e
    cases rx.bl
    exact call_int1 pins s σ H _ us Q I r (.inr ⟨_, rfl, q.int sF⟩)
  | _ => simp only [sem] at e; cases e
theorem c_abs : OpC T X (.builtin "abs") .abs := by
  intro pins s σ H xs us Q I r h
  obtain ⟨F, ds, d, sF, p, e, q⟩ := h
  obtain ⟨a, rfl⟩ := sem1 e (fun a b r => by cases a <;> rfl) rfl
  obtain ⟨x, rfl, rx⟩ := p1 p
  cases a with
  | int i =>
    simp only [sem] at e
    cases e
    cases rx.int
    exact call_abs pins s σ H _ us Q I r ⟨_, rfl, q.int sF⟩
  | _ => simp only [sem] at e; cases e
theorem dBools_ok : ∀ {ds : List D} {bs : List Bool} {vs : List V}, dBools ds = some bs → Reps T F ds vs → vs = bs.map V.bl
  | [], bs, vs, h, r => by
    simp only [dBools] at h
    cases h
    simp only [Reps] at r
    exact r
  | d :: ds, bs, vs, h, r => by
    simp only [Reps] at r
    obtain ⟨v, r', rfl, h1, h2⟩ := r
    cases d with
    | bl b =>
      simp only [dBools] at h
      obtain ⟨cs, h3, rfl⟩ := Option.map_eq_some_iff.mp h
      rw [dBools_ok h3 h2]
      simp only [Rep] at h1
      subst h1
      rfl
    | _ => simp only [dBools] at h; cases h
theorem c_all (hc : X.calm = true) : OpC T X (.builtin "all") .all := by
  intro pins s σ H xs us Q I r h
  obtain ⟨F, ds, d, sF, p, e, q⟩ := h
  obtain ⟨a, rfl⟩ := sem1 e (fun a b r => by cases a <;> rfl) rfl
  obtain ⟨x, rfl, rx⟩ := p1 p
  cases a with
  | lst ys =>
    simp only [sem] at e
    obtain ⟨bs, h3, rfl⟩ := Option.map_eq_some_iff.mp e
    obtain ⟨a, vs, rfl, h1, h2⟩ := rx.lst
    have ev := dBools_ok h3 h2
    subst ev
    exact cr_all hc pins s σ H _ us Q I r ⟨a, bs, rfl, .of h1, q.bl sF⟩
  | _ => simp only [sem] at e; cases e
theorem c_any (hc : X.calm = true) : OpC T X (.builtin "any") .any := by
  intro pins s σ H xs us Q I r h
  obtain ⟨F, ds, d, sF, p, e, q⟩ := h
  obtain ⟨a, rfl⟩ := sem1 e (fun a b r => by cases a <;> rfl) rfl
  obtain ⟨x, rfl, rx⟩ := p1 p
  cases a with
  | lst ys =>
    simp only [sem] at e
    obtain ⟨bs, h3, rfl⟩ := Option.map_eq_some_iff.mp e
    obtain ⟨a, vs, rfl, h1, h2⟩ := rx.lst
    have ev := dBools_ok h3 h2
    subst ev
    exact cr_any hc pins s σ H _ us Q I r ⟨a, bs, rfl, .of h1, q.bl sF⟩
  | _ => simp only [sem] at e; cases e
/-- truth -/
theorem truV_of (hK : X.K = T.K) {d : D} {x : V} {k : Bool} (sF : Sub F H) (r : RepV T F H d x) (e : truth d = some k) : TruV X.K x H k := by
  cases d with
  | non => cases r.non; simp only [truth] at e; cases e; rfl
  | bl b => cases r.bl; simp only [truth] at e; cases e; rfl
  | int i => cases r.int; simp only [truth] at e; cases e; rfl
  | str z =>
    cases r.str
    simp only [truth] at e
    split at e
    · rename_i hz
      cases e
      exact ⟨lim_le hz, by simp only [bne]; congr 1; rw [Bool.eq_iff_iff]; simp⟩
    · cases e
  | tup ds =>
    obtain ⟨a, vs, rfl, h1, h2⟩ := r.tup
    simp only [truth] at e
    cases e
    have hl := h2.len
    refine .inr (.inl ⟨vs, hK ▸ sub_sqT sF h1, ?_⟩)
    cases ds <;> cases vs <;> first | rfl | simp at hl
  | lst ds =>
    obtain ⟨a, vs, rfl, h1, h2⟩ := r.lst
    simp only [truth] at e
    cases e
    have hl := h2.len
    refine .inl ⟨vs, .of h1, ?_⟩
    cases ds <;> cases vs <;> first | rfl | simp at hl
  | dic ks ds =>
    simp only [truth] at e
    cases e
    obtain ⟨a, vs, rfl, h1, kl, h2, h3, h4⟩ := r
    refine .inr (.inr ⟨_, h4, ?_⟩)
    cases ks with
    | nil =>
      simp only [keysD] at h2
      cases h2
      rfl
    | cons k ks =>
      simp only [keysD] at h2
      split at h2
      · cases h2
        cases vs with
        | nil => simp at h3
        | cons z zs => rfl
      · cases h2
  | _ => simp only [truth] at e; cases e
theorem o_truth (hK : X.K = T.K) : TruR X fun x H Q => ∃ F d k, Sub F H ∧ RepV T F H d x ∧ truth d = some k ∧ Q k H := by
  intro pins s σ H x v Q I rx h
  obtain ⟨F, d, k, sF, r, e, q⟩ := h
  exact tru_ok pins s σ H x v Q I rx ⟨k, truV_of hK sF r e, q⟩
/-- isinstance against built-in types -/
def tyN : Ty → Option String
  | .tint => some "int" | .tbool => some "bool" | .tstr => some "str" | .tlist => some "list" | .ttuple => some "tuple" | .tdict => some "dict"
  | .valueError => some "ValueError" | .lookupError => some "LookupError" | .own _ => none
theorem tyX_of (hK : X.K = T.K) {d : D} {x : V} (sF : Sub F H) (r : RepV T F H d x) {t : Ty} {k : Bool} (e : dTy d t = some k) {n : String} (hn : tyN t = some n) : ∃ u, TyX X.K H x (.type u) ∧ kitB u n = some k ∧ ∀ t' k' n', dTy d t' = some k' → tyN t' = some n' → kitB u n' = some k' := by
  have key : ∀ (u : String), (∀ t' k' n', dTy d t' = some k' → tyN t' = some n' → kitB u n' = some k') → TyX X.K H x (.type u) → ∃ u, TyX X.K H x (.type u) ∧ kitB u n = some k ∧ ∀ t' k' n', dTy d t' = some k' → tyN t' = some n' → kitB u n' = some k' := fun u h1 h2 => ⟨u, h2, h1 t k n e hn, h1⟩
  cases d with
  | non =>
    cases r.non
    refine key "NoneType" (fun t' k' n' h1 h2 => ?_) (.base .non)
    cases t' <;> simp only [tyN] at h2 <;> cases h2 <;> simp only [dTy] at h1 <;> cases h1 <;> decide +kernel
  | bl b =>
    cases r.bl
    refine key "bool" (fun t' k' n' h1 h2 => ?_) (.base (.bl b))
    cases t' <;> simp only [tyN] at h2 <;> cases h2 <;> simp only [dTy] at h1 <;> cases h1 <;> decide +kernel
  | int b =>
    cases r.int
    refine key "int" (fun t' k' n' h1 h2 => ?_) (.base (.int b))
    cases t' <;> simp only [tyN] at h2 <;> cases h2 <;> simp only [dTy] at h1 <;> cases h1 <;> decide +kernel
  | str b =>
    cases r.str
    refine key "str" (fun t' k' n' h1 h2 => ?_) (.base (.str b))
    cases t' <;> simp only [tyN] at h2 <;> cases h2 <;> simp only [dTy] at h1 <;> cases h1 <;> decide +kernel
  | tup ds =>
    obtain ⟨a, vs, rfl, h3, h4⟩ := r.tup
    refine key "tuple" (fun t' k' n' h1 h2 => ?_) ?_
    · cases t' <;> simp only [tyN] at h2 <;> cases h2 <;> simp only [dTy] at h1 <;> cases h1 <;> decide +kernel
    · rcases (sub_sqT sF h3 : SqT T.K H a vs) with (z | ⟨o, z⟩) | ⟨o, its, m, z, zc, _⟩
      · exact .base (.tup z)
      · exact .fTuple z
      · exact .kTuple (hK ▸ z) zc
  | lst ds =>
    obtain ⟨a, vs, rfl, h3, h4⟩ := r.lst
    refine key "list" (fun t' k' n' h1 h2 => ?_) (.base (.lst h3))
    cases t' <;> simp only [tyN] at h2 <;> cases h2 <;> simp only [dTy] at h1 <;> cases h1 <;> decide +kernel
  | dic ks ds =>
    obtain ⟨a, vs, rfl, h1, kl, h2, h3, h4⟩ := r
    refine key "dict" (fun t' k' n' h1 h2 => ?_) (.base (.dK h4))
    cases t' <;> simp only [tyN] at h2 <;> cases h2 <;> simp only [dTy] at h1 <;> cases h1 <;> decide +kernel
  | _ => simp only [dTy] at e; cases e
end
end PI
/-! PI4: an expression of the text does what its small form does. -/
namespace PI
open PySem PySem.Spec PyProof.Rows L2

section
variable {T : Tb} {F F' H H' : Hp} {A A' : List Addr} {μ μ' : Mu}
theorem SRel.view (s : SRel T μ H F A) {w : W} {v : V} {d : D} (r : RepW T F A w v) (e : view μ w = some d) : RepV T F H d v := by
  cases w with
  | d x =>
    simp only [PI.view] at e
    cases e
    exact Rep.v s.sub r
  | r k =>
    obtain ⟨a, h1, rfl⟩ := r
    simp only [PI.view] at e
    split at e
    · rename_i xs h2
      cases e
      obtain ⟨_, vs, h3, h4⟩ := s.obj k a _ h1 h2
      exact ⟨a, vs, rfl, h3, h4⟩
    · rename_i ks vs h2
      cases e
      obtain ⟨_, us, h4, kl, h5, h6, h7⟩ := s.obj k a _ h1 h2
      exact ⟨a, us, rfl, h4, kl, h5, h6, h7⟩
    · rename_i x h2
      cases e
      exact Rep.v s.sub (s.obj k a _ h1 h2)
    · cases e
def RepWs (T : Tb) (F : Hp) (A : List Addr) : List W → List V → Prop := Paired fun w v => RepW T F A w v
theorem SRel.views (s : SRel T μ H F A) : ∀ {ws : List W} {vs : List V} {ds : List D}, RepWs T F A ws vs → views μ ws = some ds → Paired (fun x d => RepV T F H d x) vs ds
  | [], vs, ds, r, e => by
    cases r
    simp only [PI.views] at e
    cases e
    exact .nil
  | w :: ws, vs, ds, r, e => by
    cases r with
    | cons h t =>
      simp only [PI.views] at e
      split at e
      · rename_i a b h1 h2
        cases e
        exact .cons (s.view h h1) (SRel.views s t h2)
      · cases e
theorem RepWs.mono : ∀ {ws : List W} {vs : List V}, Ext F A F' A' → RepWs T F A ws vs → RepWs T F' A' ws vs
  | _, _, _, .nil => .nil
  | _, _, e, .cons h t => .cons (h.mono e) (RepWs.mono e t)
/-- an object of the store that changes no more -/
theorem SRel.toD (s : SRel T μ H F A) {w : W} {v : V} {d : D} (r : RepW T F A w v) (e : toD w μ = some (d, μ')) : ∃ F', SRel T μ' H F' A ∧ Sub F F' ∧ Rep T F' d v := by
  cases w with
  | d x =>
    simp only [PI.toD] at e
    cases e
    exact ⟨F, s, Same.refl F, r⟩
  | r k =>
    obtain ⟨a, h1, rfl⟩ := r
    simp only [PI.toD] at e
    split at e
    · rename_i xs h2
      cases e
      have z := s.obj k a _ h1 h2
      obtain ⟨hF, vs, h3, h4⟩ := id z
      have sb : Sub F (upd F a (.lst vs)) := fun b u q => by
        rw [upd_ne (ne_of_none q hF)]
        exact q
      have rp : Rep T (upd F a (.lst vs)) (.lst xs) (.ref a) := by
        simp only [Rep]
        exact ⟨a, vs, rfl, upd_same, h4.mono sb⟩
      obtain ⟨s', _⟩ := s.freeze (x := .lst xs) h1 h2 (fun x z => nomatch z) h3 rp
      exact ⟨_, s', sb, rp⟩
    · rename_i ks ds h2
      cases e
      have z := s.obj k a _ h1 h2
      obtain ⟨hF, vs, h4, kl, h5, h6, h7⟩ := id z
      have sb : Sub F (upd F a (.dK (kl.zip vs))) := fun b u q => by
        rw [upd_ne (ne_of_none q hF)]
        exact q
      have rp : Rep T (upd F a (.dK (kl.zip vs))) (.dic ks ds) (.ref a) := by
        simp only [Rep]
        exact ⟨a, vs, rfl, h4.mono sb, kl, h5, h6, upd_same⟩
      obtain ⟨s', _⟩ := s.freeze (x := .dic ks ds) h1 h2 (fun x z => nomatch z) h7 rp
      exact ⟨_, s', sb, rp⟩
    · rename_i x h2
      cases e
      exact ⟨F, s, Same.refl F, s.obj k a _ h1 h2⟩
    · cases e
theorem SRel.toDs : ∀ {ws : List W} {vs : List V} {ds : List D} {F : Hp} {μ μ' : Mu}, SRel T μ H F A → RepWs T F A ws vs → toDs ws μ = some (ds, μ') → ∃ F', SRel T μ' H F' A ∧ Sub F F' ∧ Reps T F' ds vs
  | [], vs, ds, F, μ, μ', s, r, e => by
    cases r
    simp only [PI.toDs] at e
    cases e
    exact ⟨F, s, Same.refl F, .nil⟩
  | w :: ws, vs, ds, F, μ, μ', s, r, e => by
    cases r with
    | cons h t =>
      simp only [PI.toDs] at e
      split at e
      · cases e
      · rename_i x μ1 h1
        split at e
        · cases e
        · rename_i xs μ2 h2
          cases e
          obtain ⟨F1, s1, b1, r1⟩ := s.toD h h1
          obtain ⟨F2, s2, b2, r2⟩ := SRel.toDs s1 (RepWs.mono ⟨b1, List.prefix_refl A⟩ t) h2
          exact ⟨F2, s2, b1.trans b2, .cons (Rep.mono b2 x _ r1) r2⟩
end

/-- an exception that is raised -/
def XRep (T : Tb) (F : Hp) (d : D) (cls : Value) (dd : Option Addr) : Prop :=
  match d with
  | .exc c ns ds => ∃ C, T.ca c = some C ∧ cls = .ref C ∧ ((ns = [] ∧ ds = [] ∧ dd = none) ∨ ∃ dx vs, dd = some dx ∧ F dx = some (.xd (ns.zip vs)) ∧ ns.length = vs.length ∧ Reps T F ds vs)
  | _ => False

/-! ### the judgements -/
/-- what is wanted of e, by what it does -/
def wE (X : Cx) (e : Expr) : TE := fun σ H Q => ∀ (pins : List (Addr × Obj)) (s : Shared), Inv X pins σ H s → wpAny (model X.prog X.w) X.A (eval e X.env) (EP X pins σ Q) X.xe s
def wL (X : Cx) (es : List Expr) : TA := fun σ H Q => ∀ (pos : Pos) (pins : List (Addr × Obj)) (s : Shared), Inv X pins σ H s → wpAny (model X.prog X.w) X.A (spliced (backTo pos (starEach es X.env))) (AP X pins σ Q) X.xe s
def wT (X : Cx) (e : Expr) : TT := fun σ H Q => ∀ (pins : List (Addr × Obj)) (s : Shared), Inv X pins σ H s → wpAny (model X.prog X.w) X.A (isTrue e X.env (eval e X.env)) (TP X pins σ Q) X.xe s
theorem pe_w {X : Cx} {e : Expr} : PE X e (wE X e) := ⟨fun pins s σ H Q I h => h pins s I⟩
theorem pl_w {X : Cx} {es : List Expr} : PA X es (wL X es) := ⟨fun pos pins s σ H Q I h => h pos pins s I⟩
theorem pt_w {X : Cx} {e : Expr} : PT X e (wT X e) := ⟨fun pins s σ H Q I h => h pins s I⟩
theorem wE_of {X : Cx} {e : Expr} {t : TE} (h : PE X e t) {σ : L2.St} {H : Hp} {Q : VK} (q : t σ H Q) : wE X e σ H Q := fun pins s I => h.run pins s σ H Q I q
theorem wL_of {X : Cx} {es : List Expr} {t : TA} (h : PA X es t) {σ : L2.St} {H : Hp} {Q : List V → Hp → Prop} (q : t σ H Q) : wL X es σ H Q := fun pos pins s I => h.run pos pins s σ H Q I q
theorem wT_of {X : Cx} {e : Expr} {t : TT} (h : PT X e t) {σ : L2.St} {H : Hp} {Q : Bool → Hp → Prop} (q : t σ H Q) : wT X e σ H Q := fun pins s I => h.run pins s σ H Q I q

/-- what is to be shown of an end of an expression -/
def Post {α β : Type} (T : Tb) (rep : Hp → List Addr → α → β → Prop) (F : Hp) (A : List Addr) (Q : β → Hp → Prop) (E : XK) : X1 α → Prop
  | .ok a μ' => ∀ v H' F' A', Ext F A F' A' → SRel T μ' H' F' A' → rep F' A' a v → Q v H'
  | .er d μ' => ∀ cls dd H' F' A', Ext F A F' A' → SRel T μ' H' F' A' → XRep T F' d cls dd → E cls dd H'
theorem Post.mono {α β : Type} {T : Tb} {rep : Hp → List Addr → α → β → Prop} {F F1 : Hp} {A A1 : List Addr} {Q : β → Hp → Prop} {E : XK} {r : X1 α} (e : Ext F A F1 A1) (h : Post T rep F A Q E r) : Post T rep F1 A1 Q E r := by
  cases r with
  | ok a m => exact fun v H' F' A' x => h v H' F' A' (e.trans x)
  | er d m => exact fun c dd H' F' A' x => h c dd H' F' A' (e.trans x)
abbrev PostW (T : Tb) := Post (α := W) (β := V) T (fun F A w v => RepW T F A w v)
abbrev PostL (T : Tb) := Post (α := List W) (β := List V) T (fun F A w v => RepWs T F A w v)
abbrev PostB (T : Tb) := Post (α := Bool) (β := Bool) T (fun _ _ w v => w = v)

def TyE (T : Tb) (Φ : Phi) (X : Cx) (e : Expr) (ie : IE) : Prop := ∀ (ρ : Env) (μ : Mu) (σ : L2.St) (H F : Hp) (A : List Addr) (r : X1 W) (Q : VK) (E : WX),
  Takes X E → SRel T μ H F A → ERel T ρ σ F A → evE Φ ie ρ μ = some r → PostW T F A Q (fun c d h => E c d σ h) r → wE X e σ H Q
def TyL (T : Tb) (Φ : Phi) (X : Cx) (es : List Expr) (is : List IE) : Prop := ∀ (ρ : Env) (μ : Mu) (σ : L2.St) (H F : Hp) (A : List Addr) (r : X1 (List W)) (Q : List V → Hp → Prop) (E : WX),
  Takes X E → SRel T μ H F A → ERel T ρ σ F A → evL Φ is ρ μ = some r → PostL T F A Q (fun c d h => E c d σ h) r → wL X es σ H Q
/-- the test of an expression -/
def evB (Φ : Phi) (e : IE) (ρ : Env) (μ : Mu) : R Bool := (evE Φ e ρ μ).bind fun w μ1 => R.of ((view μ1 w).bind truth) μ1
def TyB (T : Tb) (Φ : Phi) (X : Cx) (e : Expr) (ie : IE) : Prop := ∀ (ρ : Env) (μ : Mu) (σ : L2.St) (H F : Hp) (A : List Addr) (r : X1 Bool) (Q : Bool → Hp → Prop) (E : WX),
  Takes X E → SRel T μ H F A → ERel T ρ σ F A → evB Φ ie ρ μ = some r → PostB T F A Q (fun c d h => E c d σ h) r → wT X e σ H Q

section
variable {T : Tb} {Φ : Phi} {X : Cx} {pos : Pos} {a b : Expr} {ia ib : IE}
/-- what R.bind gives -/
theorem bind_some {α β : Type} {r : R α} {f : α → Mu → R β} {y : X1 β} (h : r.bind f = some y) : (∃ d m, r = some (.er d m) ∧ y = .er d m) ∨ ∃ a m, r = some (.ok a m) ∧ f a m = some y := by
  unfold R.bind at h
  split at h
  · cases h
  · cases h
    exact .inl ⟨_, _, rfl, rfl⟩
  · exact .inr ⟨_, _, rfl, h⟩
/-- one expression, then more -/
theorem TyE.then {α β : Type} (h : TyE T Φ X a ia) {rep : Hp → List Addr → α → β → Prop} {f : W → Mu → R α} {r : X1 α} {ρ : Env} {μ : Mu} {σ : L2.St} {H F : Hp} {A : List Addr} {Q : VK} {Q2 : β → Hp → Prop} {E : WX}
    (tk : Takes X E) (s : SRel T μ H F A) (er : ERel T ρ σ F A) (e : (evE Φ ia ρ μ).bind f = some r) (p : Post T rep F A Q2 (fun c d h => E c d σ h) r)
    (hQ : ∀ w μ1 v H1 F1 A1, Ext F A F1 A1 → SRel T μ1 H1 F1 A1 → ERel T ρ σ F1 A1 → RepW T F1 A1 w v → f w μ1 = some r → Post T rep F1 A1 Q2 (fun c d h => E c d σ h) r → Q v H1) : wE X a σ H Q := by
  rcases bind_some e with ⟨d, m, e1, rfl⟩ | ⟨w, m, e1, e2⟩
  · exact h ρ μ σ H F A _ Q E tk s er e1 p
  · exact h ρ μ σ H F A _ Q E tk s er e1 fun v H1 F1 A1 x s1 r1 => hQ w m v H1 F1 A1 x s1 (er.mono x) r1 e2 (p.mono x)
theorem TyL.then {α β : Type} {es : List Expr} {is : List IE} (h : TyL T Φ X es is) {rep : Hp → List Addr → α → β → Prop} {f : List W → Mu → R α} {r : X1 α} {ρ : Env} {μ : Mu} {σ : L2.St} {H F : Hp} {A : List Addr} {Q : List V → Hp → Prop} {Q2 : β → Hp → Prop} {E : WX}
    (tk : Takes X E) (s : SRel T μ H F A) (er : ERel T ρ σ F A) (e : (evL Φ is ρ μ).bind f = some r) (p : Post T rep F A Q2 (fun c d h => E c d σ h) r)
    (hQ : ∀ w μ1 v H1 F1 A1, Ext F A F1 A1 → SRel T μ1 H1 F1 A1 → ERel T ρ σ F1 A1 → RepWs T F1 A1 w v → f w μ1 = some r → Post T rep F1 A1 Q2 (fun c d h => E c d σ h) r → Q v H1) : wL X es σ H Q := by
  rcases bind_some e with ⟨d, m, e1, rfl⟩ | ⟨w, m, e1, e2⟩
  · exact h ρ μ σ H F A _ Q E tk s er e1 p
  · exact h ρ μ σ H F A _ Q E tk s er e1 fun v H1 F1 A1 x s1 r1 => hQ w m v H1 F1 A1 x s1 (er.mono x) r1 e2 (p.mono x)
theorem TyB.then {α β : Type} (h : TyB T Φ X a ia) {rep : Hp → List Addr → α → β → Prop} {f : Bool → Mu → R α} {r : X1 α} {ρ : Env} {μ : Mu} {σ : L2.St} {H F : Hp} {A : List Addr} {Q : Bool → Hp → Prop} {Q2 : β → Hp → Prop} {E : WX}
    (tk : Takes X E) (s : SRel T μ H F A) (er : ERel T ρ σ F A) (e : (evB Φ ia ρ μ).bind f = some r) (p : Post T rep F A Q2 (fun c d h => E c d σ h) r)
    (hQ : ∀ w μ1 H1 F1 A1, Ext F A F1 A1 → SRel T μ1 H1 F1 A1 → ERel T ρ σ F1 A1 → f w μ1 = some r → Post T rep F1 A1 Q2 (fun c d h => E c d σ h) r → Q w H1) : wT X a σ H Q := by
  rcases bind_some e with ⟨d, m, e1, rfl⟩ | ⟨w, m, e1, e2⟩
  · exact h ρ μ σ H F A _ Q E tk s er e1 p
  · exact h ρ μ σ H F A _ Q E tk s er e1 fun v H1 F1 A1 x s1 r1 => by
      subst r1
      exact hQ w m H1 F1 A1 x s1 (er.mono x) e2 (p.mono x)
/-- data comes out -/
theorem PQ.of {d : D} {Q : VK} {E : XK} {μ : Mu} {H F : Hp} {A : List Addr} (s : SRel T μ H F A) (p : PostW T F A Q E (.ok (.d d) μ)) : PQ T F H d Q :=
  fun v F' H' g r => p v H' F' A (g.ext A) (g.srel s) r

theorem ty_var {i : Nat} {x : Str} (hN : X.N[i]? = some x) (hv : Vis X.env.scope x) (h1 : (x == ("__debug__" : Str)) = false) (h2 : (x == ("__classdict__" : Str)) = false) : TyE T Φ X (.Name x pos) (.var i) := by
  intro ρ μ σ H F A r Q E tk s er e p
  simp only [evE] at e
  split at e
  · rename_i w hw
    cases e
    obtain ⟨v, h3, h4⟩ := er.2 i w hw
    exact wE_of (pe_var hN hv h1 h2) ⟨v, h3, p v H F A (.refl F A) s h4⟩
  · cases e
theorem ty_cst {e : Expr} {d : D} {v : V} (h : PE X e (tC v)) (hr : ∀ F, Rep T F d v) : TyE T Φ X e (.cst d) := by
  intro ρ μ σ H F A r Q E tk s er e p
  simp only [evE] at e
  cases e
  exact wE_of h (p v H F A (.refl F A) s (hr F))
theorem ty_nil : TyL T Φ X [] [] := by
  intro ρ μ σ H F A r Q E tk s er e p
  simp only [evL] at e
  cases e
  exact wL_of pa_nil (p [] H F A (.refl F A) s .nil)
theorem ty_cons {es : List Expr} {is : List IE} (h : TyE T Φ X a ia) (t : TyL T Φ X es is) (hs : starEach (a :: es) X.env = (false, eval a X.env) :: starEach es X.env) : TyL T Φ X (a :: es) (ia :: is) := by
  intro ρ μ σ H F A r Q E tk s er e p
  simp only [evL] at e
  refine wL_of (pa_cons pe_w pl_w hs) ?_
  refine h.then tk s er e p fun w μ1 v H1 F1 A1 x s1 er1 r1 e1 p1 => ?_
  refine t.then tk s1 er1 e1 p1 fun ws μ2 vs H2 F2 A2 x2 s2 er2 r2 e2 p2 => ?_
  cases e2
  exact p2 (v :: vs) H2 F2 A2 (.refl _ _) s2 (.cons (r1.mono x2) r2)
/-- a two-place operation -/
theorem op2_go {o : Op} {f : Value → Value → Sem Value} (ho : Op2 T X f (fun x y => sem o [x, y])) (ha : TyE T Φ X a ia) (hb : TyE T Φ X b ib) {ρ : Env} {μ : Mu} {σ : L2.St} {H F : Hp} {A : List Addr} {r : X1 W} {Q : VK} {E : WX}
    (tk : Takes X E) (s : SRel T μ H F A) (er : ERel T ρ σ F A) (e : evE Φ (.op o [ia, ib]) ρ μ = some r) (p : PostW T F A Q (fun c d h => E c d σ h) r) :
    tOp (fun x y H Q => ∃ F d1 d2 d, Sub F H ∧ RepV T F H d1 x ∧ RepV T F H d2 y ∧ sem o [d1, d2] = some d ∧ PQ T F H d Q) (wE X a) (wE X b) σ H Q := by
  simp only [evE, evL] at e
  have e' : (evE Φ ia ρ μ).bind (fun w μ1 => (evE Φ ib ρ μ1).bind fun u μ2 => (match views μ2 [w, u] with
      | none => none
      | some ds => match sem o ds with
        | none => none
        | some d => rok (.d d) μ2 : R W)) = some r := by
    rw [← e]
    unfold R.bind
    cases evE Φ ia ρ μ with
    | none => rfl
    | some x1 =>
      cases x1 with
      | er d m => rfl
      | ok w m =>
        dsimp only
        cases evE Φ ib ρ m with
        | none => rfl
        | some x2 => cases x2 <;> rfl
  refine ha.then tk s er e' p fun w μ1 v H1 F1 A1 x s1 er1 r1 e1 p1 => ?_
  refine hb.then tk s1 er1 e1 p1 fun u μ2 y H2 F2 A2 x2 s2 er2 r2 e2 p2 => ?_
  split at e2
  · cases e2
  · rename_i ds hd
    split at e2
    · cases e2
    · rename_i d hs
      cases e2
      have pr := s2.views (.cons (r1.mono x2) (.cons r2 .nil)) hd
      cases pr with
      | cons q1 q =>
        cases q with
        | cons q2 q =>
          cases q
          exact ⟨F2, _, _, d, s2.sub, q1, q2, hs, .of s2 p2⟩
theorem ty_bin {o : Op} {op : Operator} (ho : Op2 T X (binaryOp op) (fun x y => sem o [x, y])) (ha : TyE T Φ X a ia) (hb : TyE T Φ X b ib) : TyE T Φ X (.BinOp a op b pos) (.op o [ia, ib]) := by
  intro ρ μ σ H F A r Q E tk s er e p
  exact wE_of (pe_op ho pe_w pe_w) (op2_go ho ha hb tk s er e p)
theorem ty_cmp {o : Op} {op : CmpOp} (ho : Op2 T X (compareOp op) (fun x y => sem o [x, y])) (ha : TyE T Φ X a ia) (hb : TyE T Φ X b ib) (hm : behindInMarks op b = false) : TyE T Φ X (.Compare a [op] [b] pos) (.op o [ia, ib]) := by
  intro ρ μ σ H F A r Q E tk s er e p
  exact wE_of (pe_cmpR ho pe_w pe_w hm) (op2_go ho ha hb tk s er e p)

/-! ### built-in functions -/
theorem opn_go {o : Op} {f : Value} {es : List Expr} {is : List IE} (ho : OpC T X f o) (hs : TyL T Φ X es is) {ρ : Env} {μ : Mu} {σ : L2.St} {H F : Hp} {A : List Addr} {r : X1 W} {Q : VK} {E : WX}
    (tk : Takes X E) (s : SRel T μ H F A) (er : ERel T ρ σ F A) (e : evE Φ (.op o is) ρ μ = some r) (p : PostW T F A Q (fun c d h => E c d σ h) r) :
    tCB (fun xs H Q => ∃ F ds d, Sub F H ∧ Paired (fun x d => RepV T F H d x) xs ds ∧ sem o ds = some d ∧ PQ T F H d Q) (wL X es) σ H Q := by
  simp only [evE] at e
  refine hs.then tk s er e p fun ws μ1 vs H1 F1 A1 x s1 er1 r1 e1 p1 => ?_
  split at e1
  · cases e1
  · rename_i ds hd
    split at e1
    · cases e1
    · rename_i d hsm
      cases e1
      exact ⟨F1, ds, d, s1.sub, s1.views r1 hd, hsm, .of s1 p1⟩
theorem ty_callB {o : Op} {id : String} {x : Str} {p : Pos} {es : List Expr} {is : List IE} (ho : OpC T X (.builtin id) o) (hg : Gl X x) (hm : X.mg x = none) (hv : bootBuiltins x = some (.builtin id)) (hs : TyL T Φ X (a :: es) is)
    (hn : x ≠ "__name__") (hdb : (x == ("__debug__" : Str)) = false) (he : starEach (a :: es) X.env = (false, eval a X.env) :: starEach es X.env) (hpl : (backTo pos (starEach es X.env)).any (·.1) = false) : TyE T Φ X (.Call (.Name x p) (a :: es) [] pos) (.op o is) := by
  intro ρ μ σ H F A r Q E tk s er e p
  exact wE_of (pe_callB ho hg hm hv pl_w hn hdb he hpl) (opn_go ho hs tk s er e p)
theorem ty_callTy {o : Op} {n : String} {x : Str} {p : Pos} {es : List Expr} {is : List IE} (ho : OpC T X (.type n) o) (hg : Gl X x) (hm : X.mg x = none) (hv : bootBuiltins x = some (.type n)) (hs : TyL T Φ X (a :: es) is)
    (hn : x ≠ "__name__") (hdb : (x == ("__debug__" : Str)) = false) (he : starEach (a :: es) X.env = (false, eval a X.env) :: starEach es X.env) (hpl : (backTo pos (starEach es X.env)).any (·.1) = false) : TyE T Φ X (.Call (.Name x p) (a :: es) [] pos) (.op o is) := by
  intro ρ μ σ H F A r Q E tk s er e p
  exact wE_of (pe_callTy ho hg hm hv pl_w hn hdb he hpl) (opn_go ho hs tk s er e p)
/-- a one-place operation -/
theorem op1_go {o : Op} (ha : TyE T Φ X a ia) {ρ : Env} {μ : Mu} {σ : L2.St} {H F : Hp} {A : List Addr} {r : X1 W} {Q2 : VK} {Q : VK} {E : WX}
    (tk : Takes X E) (s : SRel T μ H F A) (er : ERel T ρ σ F A) (e : evE Φ (.op o [ia]) ρ μ = some r) (p : PostW T F A Q (fun c d h => E c d σ h) r)
    (hQ : ∀ v H1 F1 d1 d, Sub F1 H1 → RepV T F1 H1 d1 v → sem o [d1] = some d → PQ T F1 H1 d Q → Q2 v H1) : wE X a σ H Q2 := by
  have e' : (evE Φ ia ρ μ).bind (fun w μ1 => (match views μ1 [w] with
      | none => none
      | some ds => match sem o ds with
        | none => none
        | some d => rok (.d d) μ1 : R W)) = some r := by
    simp only [evE, evL] at e
    rw [← e]
    unfold R.bind
    cases evE Φ ia ρ μ with
    | none => rfl
    | some x1 => cases x1 <;> rfl
  refine ha.then tk s er e' p fun w μ1 v H1 F1 A1 x s1 er1 r1 e1 p1 => ?_
  split at e1
  · cases e1
  · rename_i ds hd
    split at e1
    · cases e1
    · rename_i d hsm
      cases e1
      have pr := s1.views (.cons r1 .nil) hd
      cases pr with
      | cons q1 q =>
        cases q
        exact hQ v H1 F1 _ d s1.sub q1 hsm (.of s1 p1)
theorem ty_neg (ha : TyE T Φ X a ia) : TyE T Φ X (.UnaryOp .USub a pos) (.op .neg [ia]) := by
  intro ρ μ σ H F A r Q E tk s er e p
  refine wE_of (pe_un un_neg pe_w) (op1_go ha tk s er e p fun v H1 F1 d1 d sb q1 hs pq => ?_)
  cases d1 with
  | int i =>
    simp only [sem] at hs
    cases hs
    cases q1.int
    exact ⟨i, rfl, pq.int sb⟩
  | _ => simp only [sem] at hs; cases hs
theorem ty_not (hK : X.K = T.K) (ha : TyE T Φ X a ia) : TyE T Φ X (.UnaryOp .Not a pos) (.op .not [ia]) := by
  intro ρ μ σ H F A r Q E tk s er e p
  refine wE_of (pe_notT pe_w) (op1_go ha tk s er e p fun v H1 F1 d1 d sb q1 hs pq => ?_)
  simp only [sem] at hs
  obtain ⟨k, hk, rfl⟩ := Option.map_eq_some_iff.mp hs
  exact ⟨k, truV_of hK sb q1 hk, pq.bl sb⟩
theorem ty_isN {j : Nat} {p' : Pos} (ha : TyE T Φ X a ia) : TyE T Φ X (.Compare a [.Is] [.Constant .none j p'] pos) (.op .isN [ia]) := by
  intro ρ μ σ H F A r Q E tk s er e p
  refine wE_of (pe_cmp (pc_isN pe_w) rfl) (op1_go ha tk s er e p fun v H1 F1 d1 d sb q1 hs pq => ?_)
  simp only [sem] at hs
  cases hs
  have := pq.bl sb
  cases d1 with
  | non => cases q1.non; exact this
  | bl b => cases q1.bl; exact this
  | int b => cases q1.int; exact this
  | str b => cases q1.str; exact this
  | tup ds => obtain ⟨a, vs, rfl, _⟩ := q1.tup; exact this
  | lst ds => obtain ⟨a, vs, rfl, _⟩ := q1.lst; exact this
  | scr ds => obtain ⟨a, vs, rfl, _⟩ := q1.scr; exact this
  | dic ks ds => obtain ⟨a, vs, rfl, _⟩ := q1; exact this
  | ins c ns ds => simp only [RepV, Rep] at q1; obtain ⟨a, C, dx, vs, rfl, _⟩ := q1; exact this
  | exc c ns ds => simp only [RepV, Rep] at q1; obtain ⟨a, C, dx, vs, rfl, _⟩ := q1; exact this
  | fn f => simp only [RepV, Rep] at q1; obtain ⟨a, rfl, _⟩ := q1; exact this
theorem ty_isnotN {j : Nat} {p' : Pos} (ha : TyE T Φ X a ia) : TyE T Φ X (.Compare a [.IsNot] [.Constant .none j p'] pos) (.op .isnotN [ia]) := by
  intro ρ μ σ H F A r Q E tk s er e p
  refine wE_of (pe_cmp (pc_notN pe_w) rfl) (op1_go ha tk s er e p fun v H1 F1 d1 d sb q1 hs pq => ?_)
  simp only [sem] at hs
  cases hs
  have := pq.bl sb
  cases d1 with
  | non => cases q1.non; exact this
  | bl b => cases q1.bl; exact this
  | int b => cases q1.int; exact this
  | str b => cases q1.str; exact this
  | tup ds => obtain ⟨a, vs, rfl, _⟩ := q1.tup; exact this
  | lst ds => obtain ⟨a, vs, rfl, _⟩ := q1.lst; exact this
  | scr ds => obtain ⟨a, vs, rfl, _⟩ := q1.scr; exact this
  | dic ks ds => obtain ⟨a, vs, rfl, _⟩ := q1; exact this
  | ins c ns ds => simp only [RepV, Rep] at q1; obtain ⟨a, C, dx, vs, rfl, _⟩ := q1; exact this
  | exc c ns ds => simp only [RepV, Rep] at q1; obtain ⟨a, C, dx, vs, rfl, _⟩ := q1; exact this
  | fn f => simp only [RepV, Rep] at q1; obtain ⟨a, rfl, _⟩ := q1; exact this
theorem ty_ix (hK : X.K = T.K) (ha : TyE T Φ X a ia) (hb : TyE T Φ X b ib) (hp : PlainIx b) : TyE T Φ X (.Subscript a b pos) (.op .ix [ia, ib]) := by
  intro ρ μ σ H F A r Q E tk s er e p
  refine wE_of (pe_ix (o_ix hK) pe_w pe_w hp) ?_
  have hsem : ∀ x y, sem .ix [x, y] = dIx x y := fun x y => rfl
  simp only [evE, evL] at e
  have e' : (evE Φ ia ρ μ).bind (fun w μ1 => (evE Φ ib ρ μ1).bind fun u μ2 => (match views μ2 [w, u] with
      | none => none
      | some ds => match sem .ix ds with
        | none => none
        | some d => rok (.d d) μ2 : R W)) = some r := by
    rw [← e]
    unfold R.bind
    cases evE Φ ia ρ μ with
    | none => rfl
    | some x1 =>
      cases x1 with
      | er d m => rfl
      | ok w m =>
        dsimp only
        cases evE Φ ib ρ m with
        | none => rfl
        | some x2 => cases x2 <;> rfl
  refine ha.then tk s er e' p fun w μ1 v H1 F1 A1 x s1 er1 r1 e1 p1 => ?_
  refine hb.then tk s1 er1 e1 p1 fun u μ2 y H2 F2 A2 x2 s2 er2 r2 e2 p2 => ?_
  split at e2
  · cases e2
  · rename_i ds hd
    split at e2
    · cases e2
    · rename_i d hs
      cases e2
      have pr := s2.views (.cons (r1.mono x2) (.cons r2 .nil)) hd
      cases pr with
      | cons q1 q =>
        cases q with
        | cons q2 q =>
          cases q
          exact ⟨F2, _, _, d, s2.sub, q1, q2, hs, .of s2 p2⟩

/-- displays -/
theorem ty_tup {es : List Expr} {is : List IE} {k : Nat} (hs : TyL T Φ X es is) : TyE T Φ X (.Tuple es k pos) (.tup is) := by
  intro ρ μ σ H F A r Q E tk s er e p
  simp only [evE] at e
  refine wE_of (pe_tup pl_w) (hs.then tk s er e p fun ws μ1 vs H1 F1 A1 x s1 er1 r1 e1 p1 => ?_)
  split at e1
  · cases e1
  · rename_i ds μ2 hd
    split at e1
    · rename_i hz
      cases e1
      obtain ⟨F2, s2, sb, rp⟩ := s1.toDs r1 hd
      refine ⟨by rw [← rp.len]; exact lim_le hz, fun q hq => ?_⟩
      exact (PQ.of s2 (p1.mono ⟨sb, List.prefix_refl A1⟩)).tup s2.sub rp hq
    · cases e1
theorem ty_lst {es : List Expr} {is : List IE} (hs : TyL T Φ X es is) : TyE T Φ X (.List es pos) (.lst is) := by
  intro ρ μ σ H F A r Q E tk s er e p
  simp only [evE] at e
  refine wE_of (pe_lst pl_w) (hs.then tk s er e p fun ws μ1 vs H1 F1 A1 x s1 er1 r1 e1 p1 => ?_)
  split at e1
  · cases e1
  · rename_i ds μ2 hd
    split at e1
    · rename_i hz
      cases e1
      obtain ⟨F2, s2, sb, rp⟩ := s1.toDs r1 hd
      refine ⟨by rw [← rp.len]; exact lim_le hz, fun q hq => ?_⟩
      exact (PQ.of s2 (p1.mono ⟨sb, List.prefix_refl A1⟩)).lst s2.sub rp hq
    · cases e1

/-! ### and, or, if else -/
theorem ty_one {op : BoolOp} (ha : TyE T Φ X a ia) : TyE T Φ X (.BoolOp op [a] pos) ia := by
  intro ρ μ σ H F A r Q E tk s er e p
  exact wE_of (pe_one pe_w) (ha ρ μ σ H F A r Q E tk s er e p)
theorem ty_and {rest : List Expr} (hK : X.K = T.K) (ha : TyE T Φ X a ia) (hb : TyE T Φ X (.BoolOp .And (b :: rest) pos) ib) : TyE T Φ X (.BoolOp .And (a :: b :: rest) pos) (.and ia ib) := by
  intro ρ μ σ H F A r Q E tk s er e p
  simp only [evE] at e
  refine wE_of (pe_andT pe_w pe_w) (ha.then tk s er e p fun w μ1 v H1 F1 A1 x s1 er1 r1 e1 p1 => ?_)
  split at e1
  · cases e1
  · rename_i hk
    obtain ⟨d, hv, ht⟩ := Option.bind_eq_some_iff.mp hk
    refine ⟨true, truV_of hK s1.sub (s1.view r1 hv) ht, ?_⟩
    rw [if_pos rfl]
    exact hb ρ μ1 σ H1 F1 A1 r Q E tk s1 er1 e1 p1
  · rename_i hk
    obtain ⟨d, hv, ht⟩ := Option.bind_eq_some_iff.mp hk
    refine ⟨false, truV_of hK s1.sub (s1.view r1 hv) ht, ?_⟩
    rw [if_neg Bool.false_ne_true]
    cases e1
    exact p1 v H1 F1 A1 (.refl _ _) s1 r1
theorem ty_or {rest : List Expr} (hK : X.K = T.K) (ha : TyE T Φ X a ia) (hb : TyE T Φ X (.BoolOp .Or (b :: rest) pos) ib) : TyE T Φ X (.BoolOp .Or (a :: b :: rest) pos) (.or ia ib) := by
  intro ρ μ σ H F A r Q E tk s er e p
  simp only [evE] at e
  refine wE_of (pe_orT pe_w pe_w) (ha.then tk s er e p fun w μ1 v H1 F1 A1 x s1 er1 r1 e1 p1 => ?_)
  split at e1
  · cases e1
  · rename_i hk
    obtain ⟨d, hv, ht⟩ := Option.bind_eq_some_iff.mp hk
    refine ⟨true, truV_of hK s1.sub (s1.view r1 hv) ht, ?_⟩
    rw [if_pos rfl]
    cases e1
    exact p1 v H1 F1 A1 (.refl _ _) s1 r1
  · rename_i hk
    obtain ⟨d, hv, ht⟩ := Option.bind_eq_some_iff.mp hk
    refine ⟨false, truV_of hK s1.sub (s1.view r1 hv) ht, ?_⟩
    rw [if_neg Bool.false_ne_true]
    exact hb ρ μ1 σ H1 F1 A1 r Q E tk s1 er1 e1 p1

/-! ### tests -/
theorem evB_of {e : IE} {ρ : Env} {μ : Mu} {r : X1 Bool} (h : evB Φ e ρ μ = some r) : (evE Φ e ρ μ).bind (fun w μ1 => R.of ((view μ1 w).bind truth) μ1) = some r := h
theorem of_some {α : Type} {o : Option α} {μ : Mu} {r : X1 α} (h : R.of o μ = some r) : ∃ a, o = some a ∧ r = .ok a μ := by
  cases o with
  | none => cases h
  | some a =>
    cases h
    exact ⟨a, rfl, rfl⟩
/-- a value as a test -/
theorem tb_val (hK : X.K = T.K) (ha : TyE T Φ X a ia) (he : ∀ whole, isTrue a X.env whole = (do let v ← whole; standAt a.pos; holding [v] (truthy v))) : TyB T Φ X a ia := by
  intro ρ μ σ H F A r Q E tk s er e p
  refine wT_of (pt_truth pe_w he) (ha.then tk s er (evB_of e) p fun w μ1 v H1 F1 A1 x s1 er1 r1 e1 p1 => ?_)
  obtain ⟨k, hk, rfl⟩ := of_some e1
  obtain ⟨d, hv, ht⟩ := Option.bind_eq_some_iff.mp hk
  exact ⟨k, truV_of hK s1.sub (s1.view r1 hv) ht, p1 k H1 F1 A1 (.refl _ _) s1 rfl⟩
theorem evB_not {ρ : Env} {μ : Mu} : evB Φ (.op .not [ia]) ρ μ = (evB Φ ia ρ μ).bind fun b μ1 => rok (!b) μ1 := by
  unfold evB
  simp only [evE, evL]
  cases evE Φ ia ρ μ with
  | none => rfl
  | some x1 =>
    cases x1 with
    | er d m => rfl
    | ok w m =>
      simp only [R.bind, views]
      cases hv : view m w with
      | none => rfl
      | some d =>
        simp only [sem]
        cases ht : truth d with
        | none => simp [R.of, ht]
        | some k =>
          have z : (view m (.d (.bl (!k)))).bind truth = some (!k) := rfl
          simp [R.of, ht, z]
theorem tb_not (ha : TyB T Φ X a ia) : TyB T Φ X (.UnaryOp .Not a pos) (.op .not [ia]) := by
  intro ρ μ σ H F A r Q E tk s er e p
  rw [evB_not] at e
  refine wT_of (pt_not pt_w) (ha.then tk s er e p fun b μ1 H1 F1 A1 x s1 er1 e1 p1 => ?_)
  cases e1
  exact p1 (!b) H1 F1 A1 (.refl _ _) s1 rfl
theorem evB_and {ρ : Env} {μ : Mu} : evB Φ (.and ia ib) ρ μ = (evB Φ ia ρ μ).bind fun b μ1 => if b = true then evB Φ ib ρ μ1 else rok false μ1 := by
  unfold evB
  simp only [evE]
  cases evE Φ ia ρ μ with
  | none => rfl
  | some x1 =>
    cases x1 with
    | er d m => rfl
    | ok w m =>
      simp only [R.bind]
      cases hk : (view m w).bind truth with
      | none => rfl
      | some k =>
        cases k with
        | true => simp [R.of]
        | false => simp [R.of, hk]
theorem evB_or {ρ : Env} {μ : Mu} : evB Φ (.or ia ib) ρ μ = (evB Φ ia ρ μ).bind fun b μ1 => if b = true then rok true μ1 else evB Φ ib ρ μ1 := by
  unfold evB
  simp only [evE]
  cases evE Φ ia ρ μ with
  | none => rfl
  | some x1 =>
    cases x1 with
    | er d m => rfl
    | ok w m =>
      simp only [R.bind]
      cases hk : (view m w).bind truth with
      | none => rfl
      | some k =>
        cases k with
        | true => simp [R.of, hk]
        | false => simp [R.of]
/-- .. whatever its whole is -/
def wP (X : Cx) (e : Expr) : TT := fun σ H Q => ∀ (whole : Sem Value) (pins : List (Addr × Obj)) (s : Shared), Inv X pins σ H s → wpAny (model X.prog X.w) X.A (isTrue e X.env whole) (TP X pins σ Q) X.xe s
theorem pw_w {e : Expr} : PW X e (wP X e) := ⟨fun whole pins s σ H Q I h => h whole pins s I⟩
theorem wP_of {e : Expr} {t : TT} (h : PW X e t) {σ : L2.St} {H : Hp} {Q : Bool → Hp → Prop} (q : t σ H Q) : wP X e σ H Q := fun whole pins s I => h.run whole pins s σ H Q I q
def TyP (T : Tb) (Φ : Phi) (X : Cx) (e : Expr) (ie : IE) : Prop := ∀ (ρ : Env) (μ : Mu) (σ : L2.St) (H F : Hp) (A : List Addr) (r : X1 Bool) (Q : Bool → Hp → Prop) (E : WX),
  Takes X E → SRel T μ H F A → ERel T ρ σ F A → evB Φ ie ρ μ = some r → PostB T F A Q (fun c d h => E c d σ h) r → wP X e σ H Q
theorem TyP.toB {e : Expr} {ie : IE} (h : TyP T Φ X e ie) : TyB T Φ X e ie := fun ρ μ σ H F A r Q E tk s er e p pins st I => h ρ μ σ H F A r Q E tk s er e p _ pins st I
theorem tp_and1 (ha : TyB T Φ X a ia) : TyP T Φ X (.BoolOp .And [a] pos) ia := fun ρ μ σ H F A r Q E tk s er e p => wP_of (pw_and1 pt_w) (ha ρ μ σ H F A r Q E tk s er e p)
theorem tp_or1 (ha : TyB T Φ X a ia) : TyP T Φ X (.BoolOp .Or [a] pos) ia := fun ρ μ σ H F A r Q E tk s er e p => wP_of (pw_or1 pt_w) (ha ρ μ σ H F A r Q E tk s er e p)
theorem tp_and {rest : List Expr} (ha : TyB T Φ X a ia) (hb : TyP T Φ X (.BoolOp .And (b :: rest) pos) ib) : TyP T Φ X (.BoolOp .And (a :: b :: rest) pos) (.and ia ib) := by
  intro ρ μ σ H F A r Q E tk s er e p
  rw [evB_and] at e
  refine wP_of (pw_and pt_w pw_w) (ha.then tk s er e p fun k μ1 H1 F1 A1 x s1 er1 e1 p1 => ?_)
  cases k with
  | true => rw [if_pos rfl] at e1 ⊢; exact hb ρ μ1 σ H1 F1 A1 r Q E tk s1 er1 e1 p1
  | false => rw [if_neg Bool.false_ne_true] at e1 ⊢; cases e1; exact p1 false H1 F1 A1 (.refl _ _) s1 rfl
theorem tp_or {rest : List Expr} (ha : TyB T Φ X a ia) (hb : TyP T Φ X (.BoolOp .Or (b :: rest) pos) ib) : TyP T Φ X (.BoolOp .Or (a :: b :: rest) pos) (.or ia ib) := by
  intro ρ μ σ H F A r Q E tk s er e p
  rw [evB_or] at e
  refine wP_of (pw_or pt_w pw_w) (ha.then tk s er e p fun k μ1 H1 F1 A1 x s1 er1 e1 p1 => ?_)
  cases k with
  | true => rw [if_pos rfl] at e1 ⊢; cases e1; exact p1 true H1 F1 A1 (.refl _ _) s1 rfl
  | false => rw [if_neg Bool.false_ne_true] at e1 ⊢; exact hb ρ μ1 σ H1 F1 A1 r Q E tk s1 er1 e1 p1
/-- a comparison as a test -/
theorem tb_cmp {o : Op} {op : CmpOp} (hc : ∀ x y d, sem o [x, y] = some d → ∃ k, d = .bl k) (ho : Op2 T X (compareOp op) (fun x y => sem o [x, y])) (ha : TyE T Φ X a ia) (hb : TyE T Φ X b ib) (hm : behindInMarks op b = false) : TyB T Φ X (.Compare a [op] [b] pos) (.op o [ia, ib]) := by
  intro ρ μ σ H F A r Q E tk s er e p
  refine wT_of (pt_cmpR ho pe_w pe_w hm) ?_
  have e' : (evE Φ ia ρ μ).bind (fun w μ1 => (evE Φ ib ρ μ1).bind fun u μ2 => (match views μ2 [w, u] with
      | none => none
      | some ds => match sem o ds with
        | none => none
        | some d => R.of (truth d) μ2 : R Bool)) = some r := by
    rw [← e]
    unfold evB
    simp only [evE, evL]
    unfold R.bind
    cases evE Φ ia ρ μ with
    | none => rfl
    | some x1 =>
      cases x1 with
      | er d m => rfl
      | ok w m =>
        dsimp only
        cases evE Φ ib ρ m with
        | none => rfl
        | some x2 =>
          cases x2 with
          | er d m => rfl
          | ok u m2 =>
            dsimp only
            cases views m2 [w, u] with
            | none => rfl
            | some ds =>
              dsimp only
              cases sem o ds <;> rfl
  refine ha.then tk s er e' p fun w μ1 v H1 F1 A1 x s1 er1 r1 e1 p1 => ?_
  refine hb.then tk s1 er1 e1 p1 fun u μ2 y H2 F2 A2 x2 s2 er2 r2 e2 p2 => ?_
  split at e2
  · cases e2
  · rename_i ds hd
    split at e2
    · cases e2
    · rename_i d hs
      have pr := s2.views (.cons (r1.mono x2) (.cons r2 .nil)) hd
      cases pr with
      | cons q1 q =>
        cases q with
        | cons q2 q =>
          cases q
          obtain ⟨c, rfl⟩ := hc _ _ _ hs
          cases e2
          refine ⟨F2, _, _, .bl c, s2.sub, q1, q2, hs, fun v F' H' g rv => ⟨c, by simpa only [Rep] using rv, ?_⟩⟩
          exact p2 c H' F' A2 (g.ext A2) (g.srel s2) rfl
end
end PI
/-! PI5: calls, slices, isinstance, what is walked, comprehensions. -/
namespace PI
open PySem PySem.Spec PyProof.Rows L2

section
variable {T : Tb} {Φ : Phi} {X : Cx} {pos : Pos} {a b c : Expr} {ia ib ic : IE}

theorem ty_ite (hc : TyB T Φ X c ic) (ha : TyE T Φ X a ia) (hb : TyE T Φ X b ib) : TyE T Φ X (.IfExp c a b pos) (.ite ic ia ib) := by
  intro ρ μ σ H F A r Q E tk s er e p
  have e' : (evB Φ ic ρ μ).bind (fun k μ1 => if k = true then evE Φ ia ρ μ1 else evE Φ ib ρ μ1) = some r := by
    rw [← e]
    unfold evB
    simp only [evE]
    cases evE Φ ic ρ μ with
    | none => rfl
    | some x1 =>
      cases x1 with
      | er d m => rfl
      | ok w m =>
        simp only [R.bind]
        cases hk : (view m w).bind truth with
        | none => rfl
        | some k => cases k <;> simp [R.of]
  refine wE_of (pe_ifExp pt_w pe_w pe_w) (hc.then tk s er e' p fun k μ1 H1 F1 A1 x s1 er1 e1 p1 => ?_)
  cases k with
  | true => rw [if_pos rfl] at e1 ⊢; exact ha ρ μ1 σ H1 F1 A1 r Q E tk s1 er1 e1 p1
  | false => rw [if_neg Bool.false_ne_true] at e1 ⊢; exact hb ρ μ1 σ H1 F1 A1 r Q E tk s1 er1 e1 p1

/-! ### slices -/
/-- what is wanted of a part of a slice -/
def wO (X : Cx) (e : Option Expr) : TO := match e with
  | none => tNoPart
  | some e => tPart (wE X e)
theorem po_w {e : Option Expr} : PO X e (wO X e) := by
  cases e with
  | none => exact po_none
  | some e => exact po_some pe_w
/-- what a part of a slice gives -/
def evP (Φ : Phi) (f : Bool) (e : IE) (ρ : Env) (μ : Mu) : R (Option Int) := if f = true then (evE Φ e ρ μ).bind toI else rok none μ
def TyO (T : Tb) (Φ : Phi) (X : Cx) (f : Bool) (e : Option Expr) (ie : IE) : Prop := ∀ (ρ : Env) (μ : Mu) (σ : L2.St) (H F : Hp) (A : List Addr) (r : X1 (Option Int)) (Q : Option Int → Hp → Prop) (E : WX),
  Takes X E → SRel T μ H F A → ERel T ρ σ F A → evP Φ f ie ρ μ = some r → Post (α := Option Int) (β := Option Int) T (fun _ _ w v => w = v) F A Q (fun c d h => E c d σ h) r → wO X e σ H Q
theorem to_none : TyO T Φ X false none ia := by
  intro ρ μ σ H F A r Q E tk s er e p
  simp only [evP, Bool.false_eq_true, if_false] at e
  cases e
  exact p none H F A (.refl _ _) s rfl
theorem to_some (ha : TyE T Φ X a ia) : TyO T Φ X true (some a) ia := by
  intro ρ μ σ H F A r Q E tk s er e p
  have e' : (evE Φ ia ρ μ).bind toI = some r := e
  refine ha.then tk s er e' p fun w μ1 v H1 F1 A1 x s1 er1 r1 e1 p1 => ?_
  unfold toI at e1
  split at e1
  · cases e1
    simp only [RepW, Rep] at r1
    exact ⟨_, r1, p1 _ H1 F1 A1 (.refl _ _) s1 rfl⟩
  · cases e1
theorem TyO.then {α β : Type} {f : Bool} {o : Option Expr} (h : TyO T Φ X f o ia) {rep : Hp → List Addr → α → β → Prop} {g : Option Int → Mu → R α} {r : X1 α} {ρ : Env} {μ : Mu} {σ : L2.St} {H F : Hp} {A : List Addr} {Q : Option Int → Hp → Prop} {Q2 : β → Hp → Prop} {E : WX}
    (tk : Takes X E) (s : SRel T μ H F A) (er : ERel T ρ σ F A) (e : (evP Φ f ia ρ μ).bind g = some r) (p : Post T rep F A Q2 (fun c d h => E c d σ h) r)
    (hQ : ∀ w μ1 H1 F1 A1, Ext F A F1 A1 → SRel T μ1 H1 F1 A1 → ERel T ρ σ F1 A1 → g w μ1 = some r → Post T rep F1 A1 Q2 (fun c d h => E c d σ h) r → Q w H1) : wO X o σ H Q := by
  rcases bind_some e with ⟨d, m, e1, rfl⟩ | ⟨w, m, e1, e2⟩
  · exact h ρ μ σ H F A _ Q E tk s er e1 p
  · exact h ρ μ σ H F A _ Q E tk s er e1 fun v H1 F1 A1 x s1 r1 => by
      subst r1
      exact hQ w m H1 F1 A1 x s1 (er.mono x) e2 (p.mono x)
theorem ty_sl {fl fh : Bool} {lo hi : Option Expr} {il ih : IE} {p2 : Pos} (hK : X.K = T.K) (ha : TyE T Φ X a ia) (hl : TyO T Φ X fl lo il) (hh : TyO T Φ X fh hi ih) : TyE T Φ X (.Subscript a (.Slice lo hi none p2) pos) (.sl fl fh ia il ih) := by
  intro ρ μ σ H F A r Q E tk s er e p
  simp only [evE] at e
  refine wE_of (pe_slice (o_slice hK) pe_w po_w po_w) (ha.then tk s er e p fun w μ1 v H1 F1 A1 x s1 er1 r1 e1 p1 => ?_)
  refine hl.then tk s1 er1 e1 p1 fun l μ2 H2 F2 A2 x2 s2 er2 e2 p2 => ?_
  refine hh.then tk s2 er2 e2 p2 fun h μ3 H3 F3 A3 x3 s3 er3 e3 p3 => ?_
  obtain ⟨w', hw, rfl⟩ := of_some e3
  obtain ⟨d, hd, rfl⟩ := Option.map_eq_some_iff.mp hw
  obtain ⟨d0, hv, hc⟩ := Option.bind_eq_some_iff.mp hd
  exact ⟨F3, d0, d, s3.sub, s3.view (r1.mono (x2.trans x3)) hv, hc, .of s3 p3⟩

/-! ### a call of a def of the text -/
/-- what a def promises, by what Φ does -/
def spF (T : Tb) (Φ : Phi) (f : Str) (np : Nat) : Sp := fun vs H Q E => vs.length = np ∧ ∃ ws μ F A r, RepWs T F A ws vs ∧ SRel T μ H F A ∧ Φ f ws μ = some r ∧ PostW T F A Q E r
/-- how the call of the object at fa with these arguments does what Φ does with vs -/
def RunAt (T : Tb) (Φ : Phi) (X : Cx) (fa : Addr) (x : Str) (np : Nat) (us : List Value) (kw : List (Str × Value)) (vs : List V) : Prop := ∀ (pins : List (Addr × Obj)) (σ : L2.St) (H : Hp) (s : Shared) (Q : VK) (E : WX),
  Takes X E → Inv X pins σ H s → spF T Φ x np vs H Q (fun c d h => E c d σ h) → wpAny (model X.prog X.w) X.A (call (.ref fa) us kw) (EP X pins σ Q) X.xe s
/-- the same program, the same module -/
structure Sim (X Y : Cx) : Prop where
  prog : Y.prog = X.prog
  w : Y.w = X.w
  K : Y.K = X.K
  mg : Y.mg = X.mg
  base : Y.base = X.base
theorem Sim.refl {X : Cx} : Sim X X := ⟨rfl, rfl, rfl, rfl, rfl⟩
theorem Sim.trans {X Y Z : Cx} (a : Sim X Y) (b : Sim Y Z) : Sim X Z := ⟨b.prog.trans a.prog, b.w.trans a.w, b.K.trans a.K, b.mg.trans a.mg, b.base.trans a.base⟩
/-- what is called x is what Φ says; kf: how its keywords are put in order -/
structure Callee (T : Tb) (Φ : Phi) (kf : Str → List Str → Option (List Nat)) (X : Cx) (x : Str) (np : Nat) : Prop where
  len : ∀ ws μ r, Φ x ws μ = some r → ws.length = np
  ex : ∃ fa k, X.mg x = some (.ref fa) ∧ PySem.W.keepIn X.K (.ref fa) = true ∧ Room k X.A ∧ ∀ Y, Sim X Y → Room k Y.A → (∀ us vs, Vals vs us → RunAt T Φ Y fa x np us [] vs) ∧
    ∀ ks pm ws zs vs, kf x ks = some pm → Vals zs ws → zs.length = ks.length → permL pm zs = some vs → RunAt T Φ Y fa x np [] (ks.zip ws) vs
theorem Callee.at {kf : Str → List Str → Option (List Nat)} {x : Str} {np : Nat} (h : Callee T Φ kf X x np) : ∃ fa, X.mg x = some (.ref fa) ∧ PySem.W.keepIn X.K (.ref fa) = true ∧ (∀ us vs, Vals vs us → RunAt T Φ X fa x np us [] vs) ∧
    ∀ ks pm ws zs vs, kf x ks = some pm → Vals zs ws → zs.length = ks.length → permL pm zs = some vs → RunAt T Φ X fa x np [] (ks.zip ws) vs := by
  obtain ⟨fa, k, h1, h2, h3, h4⟩ := h.ex
  exact ⟨fa, h1, h2, h4 X .refl h3⟩
theorem Callee.sim {kf : Str → List Str → Option (List Nat)} {Y : Cx} {x : Str} {np : Nat} (h : Callee T Φ kf X x np) (e : Sim X Y) (hA : ∀ k, Room k X.A → Room k Y.A) : Callee T Φ kf Y x np := by
  obtain ⟨fa, k, h1, h2, h3, h4⟩ := h.ex
  exact ⟨h.len, fa, k, by rw [e.mg]; exact h1, by rw [e.K]; exact h2, hA k h3, fun Z z hz => h4 Z (e.trans z) hz⟩
variable {kf : Str → List Str → Option (List Nat)}
theorem ty_call {x : Str} {np : Nat} {p : Pos} {es : List Expr} {is : List IE} (hf : Callee T Φ kf X x np) (hg : Gl X x) (hs : TyL T Φ X (a :: es) is) (hdb : (x == ("__debug__" : Str)) = false) (he : starEach (a :: es) X.env = (false, eval a X.env) :: starEach es X.env)
    (hpl : (backTo pos (starEach es X.env)).any (·.1) = false) : TyE T Φ X (.Call (.Name x p) (a :: es) [] pos) (.call x is) := by
  intro ρ μ σ H F A r Q E tk s er e p
  obtain ⟨fa, hm, hk, run, _⟩ := hf.at
  simp only [evE] at e
  intro pins st I
  refine wpAny_Call_Name_kw (ld_glob I hg hm ?_ hdb)
  refine PySem.W.callWith_K (h₀ := X.base) I.ok.mod.kin hk ?_ he hpl
  refine wpAny_mono (hs.then (Q := fun vs H1 => spF T Φ x np vs H1 Q (fun c d h => E c d σ h)) tk s er e p (fun ws μ1 vs H1 F1 A1 x s1 er1 r1 e1 p1 => ?_) pos pins st I) (fun us s1 hh => ?_) fun _ _ z => z
  · exact ⟨by rw [← Paired.length r1]; exact hf.len _ _ _ e1, ws, μ1, F1, A1, r, r1, s1, e1, p1⟩
  · obtain ⟨vs, H1, I1, rv, q⟩ := hh
    exact ⟨I1.kIn, run us vs rv pins σ H1 s1 Q E tk I1 q⟩

/-! ### in, isinstance -/
theorem o_in (hK : X.K = T.K) (hu : X.A.units + 65 < cLine) : Op2 T X (compareOp .In) (fun x y => sem .in_ [x, y]) := by
  intro pins s σ H x y v u Q I rx ry h
  obtain ⟨F, d1, d2, d, sF, r1, r2, e, q⟩ := h
  simp only [sem] at e
  obtain ⟨k, hk, rfl⟩ := Option.map_eq_some_iff.mp e
  exact (o_inV hK hu I rx ry sF r1 r2 hk).1 (q.bl sF)
theorem o_notin (hK : X.K = T.K) (hu : X.A.units + 65 < cLine) : Op2 T X (compareOp .NotIn) (fun x y => sem .notin [x, y]) := by
  intro pins s σ H x y v u Q I rx ry h
  obtain ⟨F, d1, d2, d, sF, r1, r2, e, q⟩ := h
  simp only [sem] at e
  obtain ⟨k, hk, rfl⟩ := Option.map_eq_some_iff.mp e
  exact (o_inV hK hu I rx ry sF r1 r2 hk).2 (q.bl sF)

/-- a built-in type by its name -/
def tyS : Str → Option Ty := fun x => if x = "int" then some .tint else if x = "bool" then some .tbool else if x = "str" then some .tstr else if x = "list" then some .tlist else if x = "tuple" then some .ttuple else if x = "dict" then some .tdict else none
theorem tyS_ok {x : Str} {t : Ty} (h : tyS x = some t) : ∃ n, tyN t = some n ∧ bootBuiltins x = some (.type n) ∧ x ≠ "__name__" ∧ (x == ("__debug__" : Str)) = false := by
  unfold tyS at h
  split at h
  · rename_i e; subst e; cases h; exact ⟨_, rfl, by decide +kernel, by decide, by decide⟩
  split at h
  · rename_i e; subst e; cases h; exact ⟨_, rfl, by decide +kernel, by decide, by decide⟩
  split at h
  · rename_i e; subst e; cases h; exact ⟨_, rfl, by decide +kernel, by decide, by decide⟩
  split at h
  · rename_i e; subst e; cases h; exact ⟨_, rfl, by decide +kernel, by decide, by decide⟩
  split at h
  · rename_i e; subst e; cases h; exact ⟨_, rfl, by decide +kernel, by decide, by decide⟩
  split at h
  · rename_i e; subst e; cases h; exact ⟨_, rfl, by decide +kernel, by decide, by decide⟩
  · cases h
theorem pe_ty {x : Str} {n : String} {p : Pos} (hg : Gl X x) (hm : X.mg x = none) (hv : bootBuiltins x = some (.type n)) (hn : x ≠ "__name__") (hd : (x == ("__debug__" : Str)) = false) : PE X (.Name x p) (tC (.ty n)) := pe_bltn hg hm hv rfl hn hd
theorem dTys_one {d : D} {t : Ty} : dTys d [t] = (dTy d t).map fun a => a || false := by
  simp only [dTys]
  cases dTy d t <;> rfl
/-- isinstance(a, T) -/
theorem ty_isi1 {x : Str} {p p' : Pos} {t : Ty} (hK : X.K = T.K) (hg : Gl X "isinstance") (hm : X.mg "isinstance" = none) (ht : tyS x = some t) (hgx : Gl X x) (hmx : X.mg x = none) (ha : TyE T Φ X a ia)
    (hs : starEach (a :: [.Name x p']) X.env = (false, eval a X.env) :: starEach [.Name x p'] X.env) : TyE T Φ X (.Call (.Name "isinstance" p) [a, .Name x p'] [] pos) (.op (.isi [t]) [ia]) := by
  intro ρ μ σ H F A r Q E tk s er e p
  obtain ⟨n, hn, hv, h1, h2⟩ := tyS_ok ht
  refine wE_of (pe_callB call_isi hg hm (by decide +kernel) (pa_cons pe_w (pa_cons (pe_ty hgx hmx hv h1 h2) pa_nil) hs) (by decide) (by decide) hs (by rfl)) ?_
  refine op1_go ha tk s er e p fun v H1 F1 d1 d sb q1 hsm pq => ?_
  simp only [sem] at hsm
  obtain ⟨k, hk, rfl⟩ := Option.map_eq_some_iff.mp hsm
  rw [dTys_one] at hk
  obtain ⟨k', hk', e2⟩ := Option.map_eq_some_iff.mp hk
  rw [Bool.or_false] at e2
  subst e2
  obtain ⟨u, hx, hb, _⟩ := tyX_of hK sb q1 hk' hn
  exact ⟨v, .ty n, .type u, .type n, k', rfl, .ty n, hx, kit_ty hb, pq.bl sb⟩
/-- the names of a tuple of types -/
def tyNames : List Expr → Option (List (Str × Ty))
  | [] => some []
  | .Name x _ :: r => match tyS x, tyNames r with
    | some t, some l => some ((x, t) :: l)
    | _, _ => none
  | _ => none
theorem pa_tys : ∀ {es : List Expr} {l : List (Str × Ty)}, tyNames es = some l → (∀ p ∈ l, Gl X p.1 ∧ X.mg p.1 = none) → ∃ ns : List String, l.map (fun p => tyN p.2) = ns.map some ∧ PA X es (fun _ H Q => Q (ns.map V.ty) H)
  | [], l, h, _ => by
    simp only [tyNames] at h
    cases h
    exact ⟨[], rfl, pa_nil⟩
  | .Name x p :: r, l, h, hl => by
    simp only [tyNames] at h
    split at h
    · rename_i t l' h1 h2
      cases h
      obtain ⟨n, hn, hv, h3, h4⟩ := tyS_ok h1
      obtain ⟨ns, h5, h6⟩ := pa_tys h2 fun q hq => hl q (List.mem_cons_of_mem _ hq)
      obtain ⟨g1, g2⟩ := hl (x, t) List.mem_cons_self
      refine ⟨n :: ns, by simp [hn, h5], ?_⟩
      exact pa_cons (pe_ty g1 g2 hv h3 h4) h6
    · cases h
  | .BoolOp .. :: r, l, h, hl => by cases h
  | .NamedExpr .. :: r, l, h, hl => by cases h
  | .BinOp .. :: r, l, h, hl => by cases h
  | .UnaryOp .. :: r, l, h, hl => by cases h
  | .Lambda .. :: r, l, h, hl => by cases h
  | .IfExp .. :: r, l, h, hl => by cases h
  | .Dict .. :: r, l, h, hl => by cases h
  | .Set .. :: r, l, h, hl => by cases h
  | .ListComp .. :: r, l, h, hl => by cases h
  | .SetComp .. :: r, l, h, hl => by cases h
  | .DictComp .. :: r, l, h, hl => by cases h
  | .GeneratorExp .. :: r, l, h, hl => by cases h
  | .Await .. :: r, l, h, hl => by cases h
  | .Yield .. :: r, l, h, hl => by cases h
  | .YieldFrom .. :: r, l, h, hl => by cases h
  | .Compare .. :: r, l, h, hl => by cases h
  | .Call .. :: r, l, h, hl => by cases h
  | .FormattedValue .. :: r, l, h, hl => by cases h
  | .JoinedStr .. :: r, l, h, hl => by cases h
  | .Constant .. :: r, l, h, hl => by cases h
  | .Attribute .. :: r, l, h, hl => by cases h
  | .Subscript .. :: r, l, h, hl => by cases h
  | .Starred .. :: r, l, h, hl => by cases h
  | .List .. :: r, l, h, hl => by cases h
  | .Tuple .. :: r, l, h, hl => by cases h
  | .Slice .. :: r, l, h, hl => by cases h
theorem kit_tys {d : D} {u : String} (hb : ∀ t' k' n', dTy d t' = some k' → tyN t' = some n' → kitB u n' = some k') : ∀ {ts : List Ty} {ns : List String} {k : Bool}, ts.map tyN = ns.map some → dTys d ts = some k → PySem.W.kitAny T.K (.type u) (ns.map Value.type) = some k
  | [], ns, k, h, e => by
    cases ns with
    | nil => simp only [dTys] at e; cases e; exact kitAny_nil
    | cons n ns => cases h
  | t :: ts, ns, k, h, e => by
    cases ns with
    | nil => cases h
    | cons n ns =>
      simp only [List.map_cons, List.cons.injEq] at h
      simp only [dTys] at e
      split at e
      · rename_i k1 k2 h1 h2
        cases e
        have ih := kit_tys hb h.2 h2
        refine kitAny_cons (kit_ty (hb t k1 n h1 h.1)) (fun z => ?_) fun z => ?_
        · rw [z, Bool.false_or]; exact ih
        · rw [z]; rfl
      · cases e
theorem cls_tys : ∀ ns : List String, Paired ClsV (ns.map V.ty) (ns.map Value.type)
  | [] => .nil
  | n :: ns => .cons (.ty n) (cls_tys ns)
/-- isinstance(a, (T1, T2, ..)) -/
theorem ty_isiN {p p' : Pos} {es : List Expr} {l : List (Str × Ty)} {kt : Nat} (hK : X.K = T.K) (hg : Gl X "isinstance") (hm : X.mg "isinstance" = none) (hl : tyNames es = some l) (hz : l.length ≤ 100) (hgl : ∀ p ∈ l, Gl X p.1 ∧ X.mg p.1 = none) (ha : TyE T Φ X a ia)
    (hne : l ≠ []) (hs : starEach (a :: [.Tuple es kt p']) X.env = (false, eval a X.env) :: starEach [.Tuple es kt p'] X.env) : TyE T Φ X (.Call (.Name "isinstance" p) [a, .Tuple es kt p'] [] pos) (.op (.isi (l.map (·.2))) [ia]) := by
  intro ρ μ σ H F A r Q E tk s er e p
  obtain ⟨ns, h1, h2⟩ := pa_tys hl hgl
  refine wE_of (pe_callB call_isiT hg hm (by decide +kernel) (pa_cons pe_w (pa_cons (pe_tup h2) pa_nil) hs) (by decide) (by decide) hs (by rfl)) ?_
  refine op1_go ha tk s er e p fun v H1 F1 d1 d sb q1 hsm pq => ?_
  simp only [sem] at hsm
  obtain ⟨k, hk, rfl⟩ := Option.map_eq_some_iff.mp hsm
  have hlen : ns.length = l.length := by
    have := congrArg List.length h1
    simpa using this.symm
  refine ⟨by rw [List.length_map]; exact Nat.le_trans (by omega : ns.length ≤ 100) (by decide), fun q hq => ?_⟩
  obtain ⟨t, ts, hts⟩ : ∃ t ts, l.map (·.2) = t :: ts := by
    cases l with
    | nil => exact absurd rfl hne
    | cons x y => exact ⟨x.2, y.map (·.2), rfl⟩
  have hk0 := hk
  rw [hts] at hk0
  simp only [dTys] at hk0
  split at hk0
  · rename_i k1 k2 z1 z2
    obtain ⟨n, hn⟩ : ∃ n, tyN t = some n := by
      cases ns with
      | nil =>
        cases l with
        | nil => exact absurd rfl hne
        | cons x y => simp at hlen
      | cons n ns =>
        cases l with
        | nil => cases hts
        | cons x y =>
          simp only [List.map_cons, List.cons.injEq] at h1 hts
          exact ⟨n, by rw [← hts.1]; exact h1.1⟩
    have g0 : Same H1 (upd H1 q (.tup (ns.map V.ty))) := fun b u z => by
      rw [upd_ne (ne_of_none z hq)]
      exact z
    have q2 : RepV T F1 (upd H1 q (.tup (ns.map V.ty))) d1 v := by
      cases d1 with
      | lst ds => obtain ⟨a, vs, e1, e2, e3⟩ := q1; exact ⟨a, vs, e1, g0 _ _ e2, e3⟩
      | dic ks ds => obtain ⟨a, vs, e1, e2, kl, e3, e4, e5⟩ := q1; exact ⟨a, vs, e1, e2, kl, e3, e4, g0 _ _ e5⟩
      | _ => exact q1
    obtain ⟨u, hx2, _, hall⟩ := tyX_of hK (sb.trans g0) q2 z1 hn
    have kt := kit_tys (T := T) hall (ts := l.map (·.2)) (ns := ns) (by rw [List.map_map]; exact h1) hk
    refine ⟨v, q, ns.map V.ty, .type u, ns.map Value.type, k, rfl, upd_same, cls_tys ns, hx2, hK ▸ kt, ?_⟩
    have g := Grow.new (o := .tup (ns.map V.ty)) sb hq
    exact pq (.bl k) _ _ g (by simp only [Rep])
  · cases hk0
end
end PI
/-! PI6: what is walked; comprehensions. -/
namespace PI
open PySem PySem.Spec PyProof.Rows L2

def wI (X : Cx) (tg iter : Expr) : TI := fun σ H R => ∀ (pins : List (Addr × Obj)) (s : Shared), Inv X pins σ H s →
  wpAny (model X.prog X.w) X.A (eval iter X.env) (fun v s1 => wpAny (model X.prog X.w) X.A (pyIter v) (PIE X pins σ tg R) X.xe s1) X.xe s
theorem pi_w {X : Cx} {tg iter : Expr} : PI X tg iter (wI X tg iter) := ⟨fun pins s σ H R I h => h pins s I⟩
theorem wI_of {X : Cx} {tg iter : Expr} {t : TI} (h : L2.PI X tg iter t) {σ : L2.St} {H : Hp} {R : It → Hp → Prop} (q : t σ H R) : wI X tg iter σ H R := fun pins s I => h.run pins s σ H R I q

/-- J walks the data xs, while the objects of F stand -/
structure WalkD (T : Tb) (F : Hp) (J : It) (xs : List D) : Prop where
  goes : ∀ i H, i < xs.length → Sub F H → J.go i H
  stops : ∀ H, Sub F H → J.stop xs.length H
  yields : ∀ i H F1 x H', i < xs.length → Sub F F1 → Sub F1 H → J.yld i H x H' → ∃ d F2, xs[i]? = some d ∧ Grow F1 H F2 H' ∧ Rep T F2 d x
abbrev PostI (T : Tb) := Post (α := List D) (β := It) T (fun F _ xs J => WalkD T F J xs)
def TyI (T : Tb) (Φ : Phi) (X : Cx) (tg iter : Expr) (it : IT) : Prop := ∀ (ρ : Env) (μ : Mu) (σ : L2.St) (H F : Hp) (A : List Addr) (r : X1 (List D)) (R : It → Hp → Prop) (E : WX),
  Takes X E → SRel T μ H F A → ERel T ρ σ F A → evT Φ it ρ μ = some r → PostI T F A R (fun c d h => E c d σ h) r → wI X tg iter σ H R

section
variable {T : Tb} {Φ : Phi} {X : Cx} {pos : Pos} {a b c tg : Expr} {ia ib ic : IE} {F H : Hp} {K : PySem.W.Frag}
theorem walkD_list {ad : Addr} {xs : List D} {vs : List V} (h : F ad = some (.lst vs)) (r : Reps T F xs vs) : WalkD T F (Itl K ad) xs := by
  have sq : ∀ {H : Hp}, Sub F H → SqL K H ad vs := fun s => .of (s _ _ h)
  refine ⟨fun i H hi s => ?_, fun H s => ⟨vs, sq s, by rw [r.len]; exact Nat.le_refl _⟩, fun i H F1 x H' hi s1 s2 y => ?_⟩
  · obtain ⟨v, h1, _⟩ := r.get (i := i) (d := xs[i]) (by simp [hi])
    exact ⟨vs, v, sq s, h1⟩
  · obtain ⟨e, y⟩ := y
    subst e
    obtain ⟨v, h1, h2⟩ := r.get (i := i) (d := xs[i]) (by simp [hi])
    have := y vs (sq (s1.trans s2))
    rw [h1] at this
    cases this
    exact ⟨xs[i], F1, by simp [hi], .refl s2, h2.mono s1⟩
theorem walkD_tup {ad : Addr} {xs : List D} {vs : List V} (h : SqT K F ad vs) (r : Reps T F xs vs) : WalkD T F (Itt K ad) xs := by
  have sq : ∀ {H : Hp}, Sub F H → SqT K H ad vs := fun s => sub_sqT s h
  refine ⟨fun i H hi s => ?_, fun H s => ⟨vs, sq s, by rw [r.len]; exact Nat.le_refl _⟩, fun i H F1 x H' hi s1 s2 y => ?_⟩
  · obtain ⟨v, h1, _⟩ := r.get (i := i) (d := xs[i]) (by simp [hi])
    exact ⟨vs, v, sq s, h1⟩
  · obtain ⟨e, y⟩ := y
    subst e
    obtain ⟨v, h1, h2⟩ := r.get (i := i) (d := xs[i]) (by simp [hi])
    have := y vs (sq (s1.trans s2))
    rw [h1] at this
    cases this
    exact ⟨xs[i], F1, by simp [hi], .refl s2, h2.mono s1⟩
theorem walkD_range {lo : Int} {n : Nat} : WalkD T F (Itr lo n) ((List.range n).map fun i => .int (lo + (i : Nat))) := by
  refine ⟨fun i H hi s => (by simpa using hi : i < n), fun H s => by simp [Itr], fun i H F1 x H' hi s1 s2 y => ?_⟩
  obtain ⟨e, y⟩ := y
  subst e y
  have hi' : i < n := by simpa using hi
  exact ⟨.int (lo + i), F1, by simp [hi'], .refl s2, by simp only [Rep]⟩
theorem walkD_str {z : Str} : WalkD T F (Its z) (z.cps.toList.map fun c => .str ⟨#[c]⟩) := by
  have hl : (z.cps.toList.map fun c => (D.str ⟨#[c]⟩ : D)).length = z.cps.size := by simp
  refine ⟨fun i H hi s => by rw [hl] at hi; exact hi, fun H s => by rw [hl]; exact Nat.le_refl _, fun i H F1 x H' hi s1 s2 y => ?_⟩
  obtain ⟨e, c, hc, rfl⟩ := y
  subst e
  refine ⟨.str ⟨#[c]⟩, F1, ?_, .refl s2, by simp only [Rep]⟩
  rw [List.getElem?_map]
  have : z.cps.toList[i]? = some c := by simpa using hc
  rw [this]
  rfl
theorem zipWith_get {α β γ : Type} {f : α → β → γ} : ∀ {xs : List α} {ys : List β} {i : Nat} {x : α} {y : β}, xs[i]? = some x → ys[i]? = some y → (xs.zipWith f ys)[i]? = some (f x y)
  | [], _, _, _, _, h, _ => by simp at h
  | _ :: _, [], _, _, _, _, h => by simp at h
  | x :: xs, y :: ys, 0, _, _, h1, h2 => by simp at h1 h2; subst h1 h2; rfl
  | x :: xs, y :: ys, i + 1, _, _, h1, h2 => by
    simp only [List.getElem?_cons_succ] at h1 h2
    simp only [List.zipWith_cons_cons, List.getElem?_cons_succ]
    exact zipWith_get h1 h2
theorem walkD_enum {ad : Addr} {xs : List D} {vs : List V} (h : F ad = some (.lst vs)) (r : Reps T F xs vs) : WalkD T F (Ite K ad) ((List.range xs.length).zipWith (fun i x => .tup [.int (i : Nat), x]) xs) := by
  have sq : ∀ {H : Hp}, Sub F H → SqL K H ad vs := fun s => .of (s _ _ h)
  have hl : ((List.range xs.length).zipWith (fun i x => (D.tup [.int (i : Nat), x] : D)) xs).length = xs.length := by simp
  refine ⟨fun i H hi s => ?_, fun H s => ⟨vs, sq s, by rw [hl, r.len]; exact Nat.le_refl _⟩, fun i H F1 x H' hi s1 s2 y => ?_⟩
  · rw [hl] at hi
    obtain ⟨v, h1, _⟩ := r.get (i := i) (d := xs[i]) (by simp [hi])
    exact ⟨vs, v, sq s, h1⟩
  · rw [hl] at hi
    obtain ⟨p, v, rfl, hp, rfl, y⟩ := y
    obtain ⟨v', h1, h2⟩ := r.get (i := i) (d := xs[i]) (by simp [hi])
    have := y vs (sq (s1.trans s2))
    rw [h1] at this
    cases this
    have g := Grow.new (o := .tup [.int (i : Nat), v]) s2 hp
    refine ⟨_, _, zipWith_get (x := i) (y := xs[i]) (by simp [hi]) (by simp [hi]), g, ?_⟩
    simp only [Rep]
    exact ⟨p, _, rfl, .of upd_same, .cons (by simp only [Rep]) (.cons (h2.mono (s1.trans g.fs)) .nil)⟩
theorem zip_len {α β γ : Type} {f : α → β → γ} {xs : List α} {ys : List β} : (xs.zipWith f ys).length = min xs.length ys.length := by simp
theorem walkD_zip {a1 a2 : Addr} {xs ys : List D} {vs us : List V} (h : F a1 = some (.lst vs)) (r : Reps T F xs vs) (h2 : F a2 = some (.lst us)) (r2 : Reps T F ys us) : WalkD T F (Itz K a1 a2) (xs.zipWith (fun x y => .tup [x, y]) ys) := by
  have sq : ∀ {H : Hp}, Sub F H → SqL K H a1 vs := fun s => .of (s _ _ h)
  have sq2 : ∀ {H : Hp}, Sub F H → SqL K H a2 us := fun s => .of (s _ _ h2)
  have l1 := r.len
  have l2 := r2.len
  refine ⟨fun i H hi s => ?_, fun H s => ⟨vs, us, sq s, sq2 s, by rw [zip_len]; omega⟩, fun i H F1 x H' hi s1 s2 y => ?_⟩
  · rw [zip_len] at hi
    obtain ⟨v, q1, _⟩ := r.get (i := i) (d := xs[i]'(by omega)) (by rw [List.getElem?_eq_getElem])
    obtain ⟨u, q2, _⟩ := r2.get (i := i) (d := ys[i]'(by omega)) (by rw [List.getElem?_eq_getElem])
    exact ⟨vs, us, v, u, sq s, sq2 s, q1, q2⟩
  · rw [zip_len] at hi
    obtain ⟨p, v, u, rfl, hp, rfl, y1, y2⟩ := y
    obtain ⟨v', q1, q1'⟩ := r.get (i := i) (d := xs[i]'(by omega)) (by rw [List.getElem?_eq_getElem])
    obtain ⟨u', q2, q2'⟩ := r2.get (i := i) (d := ys[i]'(by omega)) (by rw [List.getElem?_eq_getElem])
    have z1 := y1 vs (sq (s1.trans s2))
    have z2 := y2 us (sq2 (s1.trans s2))
    rw [q1] at z1
    rw [q2] at z2
    cases z1
    cases z2
    have g := Grow.new (o := .tup [v, u]) s2 hp
    refine ⟨_, _, zipWith_get (x := xs[i]'(by omega)) (y := ys[i]'(by omega)) (by rw [List.getElem?_eq_getElem]) (by rw [List.getElem?_eq_getElem]), g, ?_⟩
    simp only [Rep]
    exact ⟨p, _, rfl, .of upd_same, .cons (q1'.mono (s1.trans g.fs)) (.cons (q2'.mono (s1.trans g.fs)) .nil)⟩
theorem walkD_zipT {a1 a2 : Addr} {xs ys : List D} {vs us : List V} (h : SqT K F a1 vs) (r : Reps T F xs vs) (h2 : SqT K F a2 us) (r2 : Reps T F ys us) : WalkD T F (RZ.ItzT K a1 a2) (xs.zipWith (fun x y => .tup [x, y]) ys) := by
  have sq : ∀ {H : Hp}, Sub F H → SqT K H a1 vs := fun s => sub_sqT s h
  have sq2 : ∀ {H : Hp}, Sub F H → SqT K H a2 us := fun s => sub_sqT s h2
  have l1 := r.len
  have l2 := r2.len
  refine ⟨fun i H hi s => ?_, fun H s => ⟨vs, us, sq s, sq2 s, by rw [zip_len]; omega⟩, fun i H F1 x H' hi s1 s2 y => ?_⟩
  · rw [zip_len] at hi
    obtain ⟨v, q1, _⟩ := r.get (i := i) (d := xs[i]'(by omega)) (by rw [List.getElem?_eq_getElem])
    obtain ⟨u, q2, _⟩ := r2.get (i := i) (d := ys[i]'(by omega)) (by rw [List.getElem?_eq_getElem])
    exact ⟨vs, us, v, u, sq s, sq2 s, q1, q2⟩
  · rw [zip_len] at hi
    obtain ⟨p, v, u, rfl, hp, rfl, y1, y2⟩ := y
    obtain ⟨v', q1, q1'⟩ := r.get (i := i) (d := xs[i]'(by omega)) (by rw [List.getElem?_eq_getElem])
    obtain ⟨u', q2, q2'⟩ := r2.get (i := i) (d := ys[i]'(by omega)) (by rw [List.getElem?_eq_getElem])
    have z1 := y1 vs (sq (s1.trans s2))
    have z2 := y2 us (sq2 (s1.trans s2))
    rw [q1] at z1
    rw [q2] at z2
    cases z1
    cases z2
    have g := Grow.new (o := .tup [v, u]) s2 hp
    refine ⟨_, _, zipWith_get (x := xs[i]'(by omega)) (y := ys[i]'(by omega)) (by rw [List.getElem?_eq_getElem]) (by rw [List.getElem?_eq_getElem]), g, ?_⟩
    simp only [Rep]
    exact ⟨p, _, rfl, .of upd_same, .cons (q1'.mono (s1.trans g.fs)) (.cons (q2'.mono (s1.trans g.fs)) .nil)⟩

/-! ### the rules -/
/-- a list, a tuple, a text: whichever it is -/
def iSeq (K : PySem.W.Frag) (te : TE) : TI := fun σ H R => te σ H fun x H1 => (∃ a, x = .ref a ∧ (∃ xs, SqL K H1 a xs) ∧ R (Itl K a) H1) ∨ (∃ a, x = .ref a ∧ (∃ xs, SqT K H1 a xs) ∧ R (Itt K a) H1) ∨ ∃ z, x = .str z ∧ R (Its z) H1
theorem pi_seq {l : Expr} {tl : TE} (hl : PE X l tl) : L2.PI X tg l (iSeq X.K tl) := by
  refine ⟨fun pins s σ H R I h => ?_⟩
  refine thn (hl.run pins s σ H _ I h) fun v s1 ⟨x, H1, I1, r1, q1⟩ => ?_
  rcases q1 with ⟨a, e, ⟨xs, hq⟩, q⟩ | ⟨a, e, ⟨xs, hq⟩, q⟩ | ⟨z, e, q⟩
  · subst e
    cases r1
    obtain ⟨its, rv, p, hz⟩ := I1.list hq
    refine wpAny_pyIter_list p.isList ?_
    refine ⟨s1.heap.objs.size, [s1.heap.objs.size], _, _, H1, rfl, I1.kept (t' := s1.toks) fun b o e => Heap.get?_push_of_some _ e, turn_list a _, ⟨_, Heap.get?_push_size _ rfl, rfl, rfl⟩, fun b hb => ?_, q⟩
    have e : b = s1.heap.objs.size := by simpa using hb
    subst e
    exact I1.fpOk (Nat.le_refl _) (I1.hok.fresh (Nat.le_refl _))
  · subst e
    cases r1
    obtain ⟨its, rv, p, hz⟩ := I1.tuple hq
    refine wpAny_pyIter_tuple (show s1.heap.IsTuple a its.toArray from p) ?_
    refine ⟨s1.heap.objs.size, [s1.heap.objs.size], _, _, H1, rfl, I1.kept (t' := s1.toks) fun b o e => Heap.get?_push_of_some _ e, turn_tuple a _, ⟨_, Heap.get?_push_size _ rfl, rfl, rfl⟩, fun b hb => ?_, q⟩
    have e : b = s1.heap.objs.size := by simpa using hb
    subst e
    exact I1.fpOk (Nat.le_refl _) (I1.hok.fresh (Nat.le_refl _))
  · subst e
    obtain ⟨t, rfl⟩ := r1
    cases ha : z.cps.all (· < 128)
    · exact wpAny_pyIter_wide ha (pi_one (tk := s1.toks) I1 _ (turn_str _ z t "str_iterator" (.inr rfl)) ⟨_, Heap.get?_push_size _ rfl, rfl, rfl⟩ q)
    · exact wpAny_pyIter_ascii ha (pi_one (tk := s1.toks) I1 _ (turn_str _ z t "str_ascii_iterator" (.inl rfl)) ⟨_, Heap.get?_push_size _ rfl, rfl, rfl⟩ q)
theorem ti_seq (hK : X.K = T.K) (ha : TyE T Φ X a ia) : TyI T Φ X tg a (.seq ia) := by
  intro ρ μ σ H F A r R E tk s er e po
  simp only [evT] at e
  refine wI_of (pi_seq pe_w) (ha.then tk s er e po fun w μ1 v H1 F1 A1 x s1 er1 r1 e1 p1 => ?_)
  split at e1
  · cases e1
  · rename_i d μ2 hd
    obtain ⟨xs, hx, rfl⟩ := of_some e1
    obtain ⟨F2, s2, sb, rp⟩ := s1.toD r1 hd
    have x2 : Ext F1 A1 F2 A1 := ⟨sb, List.prefix_refl _⟩
    cases d with
    | lst ds =>
      simp only [dSeq] at hx
      cases hx
      simp only [Rep] at rp
      obtain ⟨ad, vs, rfl, h1, h2⟩ := rp
      exact .inl ⟨ad, rfl, ⟨vs, .of (s2.sub _ _ h1)⟩, p1 _ H1 F2 A1 x2 s2 (walkD_list h1 h2)⟩
    | tup ds =>
      simp only [dSeq] at hx
      cases hx
      simp only [Rep] at rp
      obtain ⟨ad, vs, rfl, h1, h2⟩ := rp
      exact .inr (.inl ⟨ad, rfl, ⟨vs, hK ▸ sub_sqT s2.sub h1⟩, p1 _ H1 F2 A1 x2 s2 (walkD_tup (hK ▸ h1) h2)⟩)
    | str z =>
      simp only [dSeq] at hx
      split at hx
      · cases hx
        simp only [Rep] at rp
        subst rp
        exact .inr (.inr ⟨z, rfl, p1 _ H1 F2 A1 x2 s2 walkD_str⟩)
      · cases hx
    | _ => simp only [dSeq] at hx; cases hx
theorem tl1 (ha : TyE T Φ X a ia) (hs : starEach [a] X.env = (false, eval a X.env) :: starEach [] X.env) : TyL T Φ X [a] [ia] := ty_cons ha ty_nil hs
theorem ti_rng1 {p : Pos} (hg : Gl X "range") (hm : X.mg "range" = none) (ha : TyE T Φ X a ia) (he : starEach [a] X.env = (false, eval a X.env) :: starEach [] X.env) : TyI T Φ X tg (.Call (.Name "range" p) [a] [] pos) (.rng1 ia) := by
  intro ρ μ σ H F A r R E tk s er e po
  simp only [evT] at e
  refine wI_of (pi_range1 hg hm (pa_cons pe_w pa_nil he) he) (ha.then tk s er e po fun w μ1 v H1 F1 A1 x s1 er1 r1 e1 p1 => ?_)
  split at e1
  · split at e1
    · rename_i j hz
      cases e1
      simp only [RepW, Rep] at r1
      subst r1
      exact ⟨j, rfl, hz.1, hz.2, p1 _ H1 F1 A1 (.refl _ _) s1 walkD_range⟩
    · cases e1
  · cases e1
theorem ti_rng2 {p : Pos} (hg : Gl X "range") (hm : X.mg "range" = none) (ha : TyE T Φ X a ia) (hb : TyE T Φ X b ib) (he : starEach (a :: [b]) X.env = (false, eval a X.env) :: starEach [b] X.env) (he2 : starEach (b :: []) X.env = (false, eval b X.env) :: starEach [] X.env) : TyI T Φ X tg (.Call (.Name "range" p) [a, b] [] pos) (.rng2 ia ib) := by
  intro ρ μ σ H F A r R E tk s er e po
  simp only [evT] at e
  refine wI_of (pi_range2 hg hm (pa_cons pe_w (pa_cons pe_w pa_nil he2) he) (by rw [he, he2]; rfl) he2) (ha.then tk s er e po fun w μ1 v H1 F1 A1 x s1 er1 r1 e1 p1 => ?_)
  refine hb.then tk s1 er1 e1 p1 fun u μ2 v2 H2 F2 A2 x2 s2 er2 r2 e2 p2 => ?_
  split at e2
  · split at e2
    · rename_i i j hz
      cases e2
      simp only [RepW, Rep] at r1 r2
      subst r1 r2
      exact ⟨i, j, rfl, ⟨hz.1.1, hz.1.2, hz.2.1, hz.2.2⟩, p2 _ H2 F2 A2 (.refl _ _) s2 walkD_range⟩
    · cases e2
  · cases e2
theorem ti_enu {p tpos : Pos} {elts : List Expr} {kk : Nat} (hg : Gl X "enumerate") (hm : X.mg "enumerate" = none) (ha : TyE T Φ X a ia) (he : starEach [a] X.env = (false, eval a X.env) :: starEach [] X.env) : TyI T Φ X (.Tuple elts kk tpos) (.Call (.Name "enumerate" p) [a] [] pos) (.enu ia) := by
  intro ρ μ σ H F A r R E tk s er e po
  simp only [evT] at e
  refine wI_of (pi_enum hg hm (pa_cons pe_w pa_nil he) he) (ha.then tk s er e po fun w μ1 v H1 F1 A1 x s1 er1 r1 e1 p1 => ?_)
  split at e1
  · cases e1
  · rename_i d μ2 hd
    obtain ⟨F2, s2, sb, rp⟩ := s1.toD r1 hd
    have x2 : Ext F1 A1 F2 A1 := ⟨sb, List.prefix_refl _⟩
    split at e1
    · rename_i xs
      cases e1
      simp only [Rep] at rp
      obtain ⟨ad, vs, rfl, h1, h2⟩ := rp
      exact ⟨ad, vs, rfl, .of (s2.sub _ _ h1), p1 _ H1 F2 A1 x2 s2 (walkD_enum h1 h2)⟩
    · cases e1
theorem ti_zip {p tpos : Pos} {elts : List Expr} {kk : Nat} (hK : X.K = T.K) (hg : Gl X "zip") (hm : X.mg "zip" = none) (ha : TyE T Φ X a ia) (hb : TyE T Φ X b ib) (he : starEach (a :: [b]) X.env = (false, eval a X.env) :: starEach [b] X.env) (he2 : starEach (b :: []) X.env = (false, eval b X.env) :: starEach [] X.env)
    (hpl : (backTo pos (starEach [b] X.env)).any (·.1) = false) : TyI T Φ X (.Tuple elts kk tpos) (.Call (.Name "zip" p) [a, b] [] pos) (.zip ia ib) := by
  intro ρ μ σ H F A r R E tk s er e po
  simp only [evT] at e
  refine wI_of (RZ.pi_zipA hg hm (pa_cons pe_w (pa_cons pe_w pa_nil he2) he) he hpl) (ha.then tk s er e po fun w μ1 v H1 F1 A1 x s1 er1 r1 e1 p1 => ?_)
  refine hb.then tk s1 er1 e1 p1 fun u μ2 v2 H2 F2 A2 x2 s2 er2 r2 e2 p2 => ?_
  split at e2
  · cases e2
  · rename_i d μ3 hd
    obtain ⟨F3, s3, sb3, rp3⟩ := s2.toD (r1.mono x2) hd
    have x3 : Ext F2 A2 F3 A2 := ⟨sb3, List.prefix_refl _⟩
    split at e2
    · cases e2
    · rename_i d' μ4 hd'
      obtain ⟨F4, s4, sb4, rp4⟩ := s3.toD (r2.mono x3) hd'
      have x4 : Ext F2 A2 F4 A2 := x3.trans ⟨sb4, List.prefix_refl _⟩
      have rp3' := Rep.mono sb4 _ _ rp3
      split at e2
      · cases e2
        simp only [Rep] at rp3' rp4
        obtain ⟨a1, vs, rfl, h1, h2⟩ := rp3'
        obtain ⟨a2, us, rfl, h3, h4⟩ := rp4
        exact ⟨a1, a2, vs, us, rfl, .inl ⟨.of (s4.sub _ _ h1), .of (s4.sub _ _ h3), p2 _ H2 F4 A2 x4 s4 (walkD_zip h1 h2 h3 h4)⟩⟩
      · cases e2
        simp only [Rep] at rp3' rp4
        obtain ⟨a1, vs, rfl, h1, h2⟩ := rp3'
        obtain ⟨a2, us, rfl, h3, h4⟩ := rp4
        exact ⟨a1, a2, vs, us, rfl, .inr ⟨hK ▸ sub_sqT s4.sub h1, hK ▸ sub_sqT s4.sub h3, p2 _ H2 F4 A2 x4 s4 (walkD_zipT (hK ▸ h1) h2 (hK ▸ h3) h4)⟩⟩
      · cases e2
end
end PI
/-! PI7: targets, comprehensions. -/
namespace PI
open PySem PySem.Spec PyProof.Rows L2

/-! ### targets -/
def gS : List Nat → TGs
  | [] => gNil
  | i :: r => gCons (gName i) (gS r)
def gT (K : PySem.W.Frag) : Tg → TG
  | .one i => gName i
  | .tup is => gTup K is.length (gS is)
section
variable {T : Tb} {F F' H H' : Hp} {A A' : List Addr} {ρ ρ' : Env} {σ : L2.St}
theorem gS_ok : ∀ {is : List Nat} {xs : List D} {vs : List V} {ρ ρ' : Env} {σ : L2.St} {Q : L2.St → Hp → Prop}, putL is xs ρ = some ρ' → Reps T F xs vs → ERel T ρ σ F A →
    (∀ σ', ERel T ρ' σ' F A → (∀ ws, (∀ i ∈ is, i ∈ ws) → L2.wipe σ' ws = L2.wipe σ ws) → Q σ' H) → (∀ (i : Nat) (x : Option V) (s : L2.St) ws, i ∈ ws → L2.wipe (s.set i x) ws = L2.wipe s ws) → gS is vs σ H Q
  | [], [], vs, ρ, ρ', σ, Q, e, r, er, h, hw => by
    simp only [putL] at e
    cases e
    simp only [Reps] at r
    exact ⟨r, h σ er fun _ _ => rfl⟩
  | [], x :: xs, vs, ρ, ρ', σ, Q, e, r, er, h, hw => by simp only [putL] at e; cases e
  | i :: is, [], vs, ρ, ρ', σ, Q, e, r, er, h, hw => by simp only [putL] at e; cases e
  | i :: is, x :: xs, vs, ρ, ρ', σ, Q, e, r, er, h, hw => by
    simp only [putL] at e
    simp only [Reps] at r
    obtain ⟨v, r', rfl, h1, h2⟩ := r
    refine ⟨v, r', rfl, ?_⟩
    refine gS_ok e h2 (er.set (w := .d x) h1) (fun σ' er' hws => h σ' er' fun ws hm => ?_) hw
    rw [hws ws fun j hj => hm j (List.mem_cons_of_mem _ hj)]
    exact hw i _ σ ws (hm i List.mem_cons_self)
theorem wipe_set : ∀ {ws : List Nat} {i : Nat} {x : Option V} {s : L2.St}, i ∈ ws → L2.wipe (s.set i x) ws = L2.wipe s ws
  | v :: ws, i, x, s, h => by
    simp only [L2.wipe]
    by_cases hi : i ∈ ws
    · rw [wipe_set hi]
    · have e : i = v := by
        rcases List.mem_cons.mp h with z | z
        · exact z
        · exact absurd z hi
      subst e
      have key : ∀ (ws : List Nat) (s : L2.St), i ∉ ws → L2.wipe (s.set i x) ws = (L2.wipe s ws).set i x := by
        intro ws
        induction ws with
        | nil => intro s _; rfl
        | cons u us ih =>
          intro s hn
          simp only [L2.wipe]
          rw [ih s (fun z => hn (List.mem_cons_of_mem _ z)), List.set_comm _ _ (fun z => hn (by rw [z]; exact List.mem_cons_self))]
      rw [key ws s hi, List.set_set]
theorem wipe_wipe : ∀ (ws : List Nat) (s : L2.St), L2.wipe (L2.wipe s ws) ws = L2.wipe s ws := by
  intro ws s
  have key : ∀ (us : List Nat) (s : L2.St), (∀ u ∈ us, u ∈ ws) → L2.wipe (L2.wipe s us) ws = L2.wipe s ws := by
    intro us
    induction us with
    | nil => intro s _; rfl
    | cons u us ih =>
      intro s hm
      simp only [L2.wipe]
      rw [wipe_set (hm u List.mem_cons_self)]
      exact ih s fun v hv => hm v (List.mem_cons_of_mem _ hv)
  exact key ws s fun _ h => h
theorem gT_ok {t : Tg} {d : D} {v : V} {Q : L2.St → Hp → Prop} (e : t.put d ρ = some ρ') (r : Rep T F d v) (sb : Sub F H) (er : ERel T ρ σ F A) {K : PySem.W.Frag} (hK : K = T.K)
    (h : ∀ σ', ERel T ρ' σ' F A → (∀ ws, (∀ i ∈ (match t with | .one i => [i] | .tup is => is), i ∈ ws) → L2.wipe σ' ws = L2.wipe σ ws) → Q σ' H) : gT K t v σ H Q := by
  cases t with
  | one i =>
    simp only [Tg.put] at e
    cases e
    exact h _ (er.set (w := .d d) r) fun ws hm => wipe_set (hm i (by simp))
  | tup is =>
    simp only [Tg.put] at e
    split at e
    · rename_i xs
      simp only [Rep] at r
      obtain ⟨a, vs, rfl, h1, h2⟩ := r
      refine ⟨a, vs, rfl, hK ▸ sub_sqT sb h1, ?_, gS_ok e h2 er h fun _ _ _ _ hm => wipe_set hm⟩
      rw [← h2.len]
      clear h h2 h1 er
      induction is generalizing xs ρ with
      | nil => cases xs <;> simp_all [putL]
      | cons i is ih =>
        cases xs with
        | nil => simp [putL] at e
        | cons x xs =>
          simp only [putL] at e
          simp [ih _ e]
    · cases e
theorem ERel.forget2 {i : Nat} {x : Option V} (h : ERel T ρ σ F A) : ERel T (ρ.set i none) (σ.set i x) F A := by
  refine ⟨by simp [h.1], fun j u q => ?_⟩
  by_cases hj : i = j
  · subst hj
    by_cases hi : i < ρ.length
    · rw [List.getElem?_set_self hi] at q; cases q
    · rw [List.getElem?_eq_none (by simpa using hi)] at q; cases q
  · rw [List.getElem?_set_ne hj] at q
    rw [List.getElem?_set_ne hj]
    exact h.2 j u q
theorem ERel.wipe (er : ERel T ρ σ F A) : ∀ ws : List Nat, ERel T (wipeE ρ ws) (L2.wipe σ ws) F A
  | [] => er
  | v :: ws => by
    simp only [wipeE, L2.wipe]
    exact (ERel.wipe er ws).forget2
end

/-! ### the tests of a comprehension -/
def wC (X : Cx) (cs : List Expr) : TT := fun σ H Q => ∀ (pins : List (Addr × Obj)) (s : Shared), Inv X pins σ H s → wpAny (model X.prog X.w) X.A (forIn cs true fun c r => if r = true then do let ok ← isTrue c X.env (eval c X.env); pure (ForInStep.yield ok) else pure (ForInStep.yield r)) (TP X pins σ Q) X.xe s
theorem pc_w {X : Cx} {cs : List Expr} : PTs X cs (wC X cs) := ⟨fun pins s σ H Q I h => h pins s I⟩
def TyC (T : Tb) (Φ : Phi) (X : Cx) (cs : List Expr) (is : List IE) : Prop := ∀ (ρ : Env) (μ : Mu) (σ : L2.St) (H F : Hp) (A : List Addr) (r : X1 Bool) (Q : Bool → Hp → Prop) (E : WX),
  Takes X E → SRel T μ H F A → ERel T ρ σ F A → evC Φ is ρ μ = some r → PostB T F A Q (fun c d h => E c d σ h) r → wC X cs σ H Q
section
variable {T : Tb} {Φ : Phi} {X : Cx} {c : Expr} {ic : IE}
theorem tc_nil : TyC T Φ X [] [] := by
  intro ρ μ σ H F A r Q E tk s er e p pins st I
  simp only [evC] at e
  cases e
  exact (pts_nil (X := X)).run pins st σ H Q I (p true H F A (.refl _ _) s rfl)
theorem tc_one (hc : TyB T Φ X c ic) : TyC T Φ X [c] [ic] := by
  intro ρ μ σ H F A r Q E tk s er e p pins st I
  refine (pts_one (pt_w (X := X) (e := c))).run pins st σ H Q I ?_
  have e' : evB Φ ic ρ μ = some r := by
    rw [← e]
    unfold evB
    simp only [evC]
    cases evE Φ ic ρ μ with
    | none => rfl
    | some x1 =>
      cases x1 with
      | er d m => rfl
      | ok w m =>
        simp only [R.bind]
        cases hk : (view m w).bind truth with
        | none => rfl
        | some k => cases k <;> rfl
  exact hc ρ μ σ H F A r Q E tk s er e' p
end

/-- in a block nothing is raised -/
theorem takes0 {X : Cx} : Takes X fun _ _ _ _ => False := fun u s' ⟨a, B, sI, pins, σ, H, cls, d, e, I, nb, up, sky, na, os, ag, w⟩ => w.elim

section
variable {T : Tb} {Φ : Phi} {X : Cx} {pos : Pos} {elt iter tg : Expr} {cs : List Expr} {ie : IE} {it : IT} {ics : List IE}
/-- [e for t in it if ..] -/
theorem ty_lc {scope : Scope} {own : List (Str × Nat)} {t : Tg} (hK : X.K = T.K) (hc : X.calm = true) (hN : X.N.Nodup) (hi : TyI T Φ X tg iter it) (ok : BlkOk X.N X.env.scope scope own)
    (hv : ∀ i ∈ (match t with | .one i => [i] | .tup is => is), i ∈ own.map (·.2))
    (hg : ∀ (s : Shared) (H : Hp) (C : Addr) (cl : List (Str × Addr)) (fp : List Addr), PG (X.blk s H scope (compEnvC scope cl C X.env) fp) tg (gT X.K t))
    (ht : ∀ (s : Shared) (H : Hp) (C : Addr) (cl : List (Str × Addr)) (fp : List Addr), TyC T Φ (X.blk s H scope (compEnvC scope cl C X.env) fp) cs ics)
    (he : ∀ (s : Shared) (H : Hp) (C : Addr) (cl : List (Str × Addr)) (fp : List Addr), TyE T Φ (X.blk s H scope (compEnvC scope cl C X.env) fp) elt ie)
    (ρ : Env) (μ : Mu) (σ : L2.St) (H F : Hp) (A : List Addr) (r : X1 W) (Q : VK) (E : WX) (tk : Takes X E) (s : SRel T μ H F A) (er : ERel T ρ σ F A) (e : evE Φ (.lc (own.map (·.2)) t it ics ie) ρ μ = some r) (p : PostW T F A Q (fun c d h => E c d σ h) r) :
    tLc (wI X tg iter) (gT X.K t) (fun σ H Q => ∀ s H0 C cl fp, wC (X.blk s H0 scope (compEnvC scope cl C X.env) fp) cs σ H Q) (fun σ H Q => ∀ s H0 C cl fp, wE (X.blk s H0 scope (compEnvC scope cl C X.env) fp) elt σ H Q) (own.map (·.2)) σ H Q := by
  simp only [evE] at e
  rcases bind_some e with ⟨d, m, e1, rfl⟩ | ⟨xs, μ1, e1, e2⟩
  · exact hi ρ μ σ H F A _ _ E tk s er e1 p
  refine hi ρ μ σ H F A _ _ E tk s er e1 fun J H1 F1 A1 x1 s1 wk D hD => ?_
  split at e2
  · cases e2
  rename_i μ2 hcol
  split at e2
  · rename_i ys hys
    cases e2
    have hk : A1.length = μ1.length := s1.len
    have s1' : SRel T (μ1 ++ [.lst []]) (upd H1 D (.lst [])) F1 (A1 ++ [D]) := s1.alloc (ob := .lst []) hD ⟨s1.sub.free hD, [], upd_same, .nil⟩
    refine ⟨fun i m H' => m = xs.length - i ∧ i ≤ xs.length ∧ ∃ F' μi, Sub F1 F' ∧ SRel T μi H' F' (A1 ++ [D]) ∧ collect _ μ1.length (xs.drop i) μi = some μ2, ⟨_, rfl, Nat.zero_le _, F1, _, Same.refl F1, s1', by rw [List.drop_zero]; exact hcol⟩, ?_⟩
    rintro i m H' ⟨rfl, hle, F', μi, sb, si, hcl⟩
    by_cases hlt : i < xs.length
    · refine .inr ⟨wk.goes i H' hlt (sb.trans si.sub), _, fun H'' z => ⟨xs.length - (i + 1), by omega, rfl, by omega, z⟩, fun x H2 hy => ?_⟩
      obtain ⟨d, F2, hd, g2, rd⟩ := wk.yields i H' F' x H2 hlt sb si.sub hy
      have s2 := g2.srel si
      have hdrop : xs.drop i = d :: xs.drop (i + 1) := by
        have hg : xs[i] = d := by
          rw [List.getElem?_eq_getElem hlt] at hd
          exact Option.some.inj hd
        rw [← hg]
        exact List.drop_eq_getElem_cons hlt
      rw [hdrop] at hcl
      unfold collect at hcl
      -- the turn
      have x12 : Ext F A F2 (A1 ++ [D]) := ⟨(x1.sub.trans sb).trans g2.fs, x1.pre.trans (List.prefix_append _ _)⟩
      have er2 : ERel T (wipeE ρ (own.map (·.2))) (L2.wipe σ (own.map (·.2))) F2 (A1 ++ [D]) := (er.mono x12).wipe _
      cases hput : t.put d (wipeE ρ (own.map (·.2))) with
      | none => rw [hput] at hcl; cases hcl
      | some ρ1 =>
        rw [hput] at hcl
        refine gT_ok hput rd s2.sub er2 hK fun σ2 er3 hw => ⟨(hw _ hv).trans (wipe_wipe _ _), ?_⟩
        -- the tests
        dsimp only at hcl
        cases hC : evC Φ ics ρ1 μi with
        | none => rw [hC] at hcl; cases hcl
        | some rc =>
          rw [hC] at hcl
          cases rc with
          | er dd mm => cases hcl
          | ok bb m1 =>
            intro sS H0 C cl fp
            refine ht sS H0 C cl fp ρ1 μi σ2 H2 F2 (A1 ++ [D]) _ _ _ takes0 s2 er3 hC fun v H3 F3 A3 x3 s3 ev => ?_
            subst ev
            simp only [R.bind] at hcl
            -- what stands behind a turn
            have cutA : ∀ {A' : List Addr}, (A1 ++ [D]) <+: A' → A'.take (μ1.length + 1) = A1 ++ [D] := fun {A'} h => by
              obtain ⟨B, rfl⟩ := h
              rw [List.take_append_of_le_length (by simp [hk])]
              rw [List.take_of_length_le (by simp [hk])]
            cases bb with
            | true =>
              simp only [if_true] at hcl ⊢
              cases hE : evE Φ ie ρ1 m1 with
              | none => rw [hE] at hcl; cases hcl
              | some re =>
                rw [hE] at hcl
                cases re with
                | er dd mm => cases hcl
                | ok w m2 =>
                  dsimp only at hcl
                  cases hT : toD w m2 with
                  | none => rw [hT] at hcl; cases hcl
                  | some pr =>
                    obtain ⟨y, m3⟩ := pr
                    rw [hT] at hcl
                    dsimp only at hcl
                    intro sS H0 C cl fp
                    refine he sS H0 C cl fp ρ1 m1 σ2 H3 F3 A3 _ _ _ takes0 s3 (er3.mono x3) hE fun v4 H4 F4 A4 x4 s4 rw4 => ?_
                    obtain ⟨F5, s5, sb5, rp5⟩ := s4.toD rw4 hT
                    split at hcl
                    · rename_i acc hacc
                      split at hcl
                      · rename_i hz
                        -- the list at D
                        have pre4 : (A1 ++ [D]) <+: A4 := x3.pre.trans x4.pre
                        have hDk : A4[μ1.length]? = some D := by
                          obtain ⟨B, rfl⟩ := pre4
                          rw [List.getElem?_append_left (by simp [hk])]
                          rw [← hk]
                          simp
                        obtain ⟨hF5, vs, hHD, rvs⟩ := s5.obj μ1.length D _ hDk hacc
                        refine ⟨vs, hHD, by rw [← rvs.len]; exact Nat.lt_of_lt_of_le hz (by decide), ?_⟩
                        refine ⟨F5, _, (sb.trans (g2.fs.trans (x3.sub.trans (x4.sub.trans sb5)))), ?_, hcl⟩
                        have s6 := s5.cut (μ1.length + 1)
                        rw [cutA pre4] at s6
                        refine s6.write (k := μ1.length) (a := D) (o := .lst (vs ++ [v4])) (ob := .lst acc) (ob' := .lst (acc ++ [y])) ?_ ?_ (fun x z => nomatch z) ⟨hF5, _, upd_same, rvs.app (.cons rp5 .nil)⟩
                        · rw [← hk]; simp
                        · rw [List.getElem?_take, if_pos (Nat.lt_succ_self _)]; exact hacc
                      · cases hcl
                    · cases hcl
            | false =>
              simp only [Bool.false_eq_true, if_false] at hcl ⊢
              refine ⟨F3, _, sb.trans (g2.fs.trans x3.sub), ?_, hcl⟩
              have s6 := s3.cut (μ1.length + 1)
              rw [cutA x3.pre] at s6
              exact s6
    · have hi' : i = xs.length := by omega
      subst hi'
      refine .inl ⟨wk.stops H' (sb.trans si.sub), ?_⟩
      rw [List.drop_length] at hcl
      simp only [collect] at hcl
      cases hcl
      have hDk : (A1 ++ [D])[μ1.length]? = some D := by rw [← hk]; simp
      obtain ⟨hFD, vs, hHD, rvs⟩ := si.obj μ1.length D _ hDk hys
      have sbD : Sub F' (upd F' D (.lst vs)) := fun b u q => by
        rw [upd_ne (ne_of_none q hFD)]
        exact q
      have rp : Rep T (upd F' D (.lst vs)) (.lst ys) (.ref D) := by
        simp only [Rep]
        exact ⟨D, vs, rfl, upd_same, rvs.mono sbD⟩
      obtain ⟨sf, _⟩ := si.freeze (x := .lst ys) hDk hys (fun x z => nomatch z) hHD rp
      have s7 := sf.cut μ1.length
      have ec : (A1 ++ [D]).take μ1.length = A1 := by rw [← hk]; simp
      rw [ec] at s7
      have em : (List.set μ2 μ1.length (O.fz (.lst ys))).take μ1.length = μ2.take μ1.length := by
        rw [List.take_set, List.set_eq_of_length_le (by rw [List.length_take]; exact Nat.min_le_left _ _)]
      rw [em] at s7
      exact p (.ref D) H' (upd F' D (.lst vs)) A1 ⟨(x1.sub.trans sb).trans sbD, x1.pre⟩ s7 rp
  · cases e2
end
end PI
/-! PI8: new lists that may change; statements. -/
namespace PI
open PySem PySem.Spec PyProof.Rows L2

section
variable {T : Tb} {Φ : Phi} {X : Cx} {pos : Pos} {a b c : Expr} {ia ib ic : IE}
/-- as a value -/
theorem ty_lcE {elt iter tg : Expr} {cs : List Expr} {ie : IE} {it : IT} {ics : List IE} {scope : Scope} {own : List (Str × Nat)} {t : Tg} (hK : X.K = T.K) (hc : X.calm = true) (hN : X.N.Nodup) (hi : TyI T Φ X tg iter it) (ok : BlkOk X.N X.env.scope scope own)
    (hv : ∀ i ∈ (match t with | .one i => [i] | .tup is => is), i ∈ own.map (·.2))
    (hg : ∀ (s : Shared) (H : Hp) (C : Addr) (cl : List (Str × Addr)) (fp : List Addr), PG (X.blk s H scope (compEnvC scope cl C X.env) fp) tg (gT X.K t))
    (ht : ∀ (s : Shared) (H : Hp) (C : Addr) (cl : List (Str × Addr)) (fp : List Addr), TyC T Φ (X.blk s H scope (compEnvC scope cl C X.env) fp) cs ics)
    (he : ∀ (s : Shared) (H : Hp) (C : Addr) (cl : List (Str × Addr)) (fp : List Addr), TyE T Φ (X.blk s H scope (compEnvC scope cl C X.env) fp) elt ie) (hs : ∀ x, foldedSetIterable iter X.env x = pure x) :
    TyE T Φ X (.ListComp elt [⟨tg, iter, cs, 0⟩] scope pos) (.lc (own.map (·.2)) t it ics ie) := by
  intro ρ μ σ H F A r Q E tk s er e p
  refine wE_of (pe_lc (g := gT X.K t) (tt := fun σ H Q => ∀ s H0 C cl fp, wC (X.blk s H0 scope (compEnvC scope cl C X.env) fp) cs σ H Q) (te := fun σ H Q => ∀ s H0 C cl fp, wE (X.blk s H0 scope (compEnvC scope cl C X.env) fp) elt σ H Q)
    hc hN pi_w ok hg (fun s H C cl fp => ⟨fun pins st σ H' Q I h => h s H C cl fp pins st I⟩) (fun s H C cl fp => ⟨fun pins st σ H' Q I h => h s H C cl fp pins st I⟩) hs) ?_
  exact ty_lc hK hc hN hi ok hv hg ht he ρ μ σ H F A r Q E tk s er e p

/-! ### new lists -/
/-- what is to be shown of a list that has just been made and is nobody's -/
def PostF (T : Tb) (F : Hp) (A : List Addr) (Q : VK) (E : XK) : X1 W → Prop
  | .ok (.d (.lst xs)) μ' => ∀ p vs H' F' A', Ext F A F' A' → SRel T μ' H' F' A' → F' p = none → p ∉ A' → H' p = some (.lst vs) → Reps T F' xs vs → Q (.ref p) H'
  | .ok w μ' => ∀ v H' F' A', Ext F A F' A' → SRel T μ' H' F' A' → RepW T F' A' w v → Q v H'
  | .er d μ' => ∀ cls dd H' F' A', Ext F A F' A' → SRel T μ' H' F' A' → XRep T F' d cls dd → E cls dd H'
def TyF (T : Tb) (Φ : Phi) (X : Cx) (e : Expr) (ie : IE) : Prop := ∀ (ρ : Env) (μ : Mu) (σ : L2.St) (H F : Hp) (A : List Addr) (r : X1 W) (Q : VK) (E : WX),
  Takes X E → SRel T μ H F A → ERel T ρ σ F A → evE Φ ie ρ μ = some r → PostF T F A Q (fun c d h => E c d σ h) r → wE X e σ H Q
theorem PostF.mono {F F1 : Hp} {A A1 : List Addr} {Q : VK} {E : XK} {r : X1 W} (e : Ext F A F1 A1) (h : PostF T F A Q E r) : PostF T F1 A1 Q E r := by
  unfold PostF at h ⊢
  split
  · exact fun p vs H' F' A' x => h p vs H' F' A' (e.trans x)
  · rename_i w m hw
    cases w with
    | r k => exact fun v H' F' A' x => h v H' F' A' (e.trans x)
    | d y =>
      cases y with
      | lst ys => exact absurd rfl (hw ys)
      | _ => exact fun v H' F' A' x => h v H' F' A' (e.trans x)
  · exact fun c dd H' F' A' x => h c dd H' F' A' (e.trans x)
/-- the error's part -/
theorem PostF.er {F : Hp} {A : List Addr} {Q : VK} {E : XK} {d : D} {m : Mu} (h : PostF T F A Q E (.er d m)) {α β : Type} {rep : Hp → List Addr → α → β → Prop} {Q2 : β → Hp → Prop} : Post (α := α) (β := β) T rep F A Q2 E (.er d m) := h
/-- what bind gives, with the ends of PostF -/
theorem TyE.thenF (h : TyE T Φ X a ia) {f : W → Mu → R W} {r : X1 W} {ρ : Env} {μ : Mu} {σ : L2.St} {H F : Hp} {A : List Addr} {Q : VK} {Q2 : VK} {E : WX}
    (tk : Takes X E) (s : SRel T μ H F A) (er : ERel T ρ σ F A) (e : (evE Φ ia ρ μ).bind f = some r) (p : PostF T F A Q2 (fun c d h => E c d σ h) r)
    (hQ : ∀ w μ1 v H1 F1 A1, Ext F A F1 A1 → SRel T μ1 H1 F1 A1 → ERel T ρ σ F1 A1 → RepW T F1 A1 w v → f w μ1 = some r → PostF T F1 A1 Q2 (fun c d h => E c d σ h) r → Q v H1) : wE X a σ H Q := by
  rcases bind_some e with ⟨d, m, e1, rfl⟩ | ⟨w, m, e1, e2⟩
  · exact h ρ μ σ H F A _ Q E tk s er e1 p.er
  · exact h ρ μ σ H F A _ Q E tk s er e1 fun v H1 F1 A1 x s1 r1 => hQ w m v H1 F1 A1 x s1 (er.mono x) r1 e2 (p.mono x)
theorem TyL.thenF {es : List Expr} {is : List IE} (h : TyL T Φ X es is) {f : List W → Mu → R W} {r : X1 W} {ρ : Env} {μ : Mu} {σ : L2.St} {H F : Hp} {A : List Addr} {Q : List V → Hp → Prop} {Q2 : VK} {E : WX}
    (tk : Takes X E) (s : SRel T μ H F A) (er : ERel T ρ σ F A) (e : (evL Φ is ρ μ).bind f = some r) (p : PostF T F A Q2 (fun c d h => E c d σ h) r)
    (hQ : ∀ w μ1 v H1 F1 A1, Ext F A F1 A1 → SRel T μ1 H1 F1 A1 → ERel T ρ σ F1 A1 → RepWs T F1 A1 w v → f w μ1 = some r → PostF T F1 A1 Q2 (fun c d h => E c d σ h) r → Q v H1) : wL X es σ H Q := by
  rcases bind_some e with ⟨d, m, e1, rfl⟩ | ⟨w, m, e1, e2⟩
  · exact h ρ μ σ H F A _ Q E tk s er e1 p.er
  · exact h ρ μ σ H F A _ Q E tk s er e1 fun v H1 F1 A1 x s1 r1 => hQ w m v H1 F1 A1 x s1 (er.mono x) r1 e2 (p.mono x)
theorem SRel.side {μ : Mu} {H F : Hp} {A : List Addr} (s : SRel T μ H F A) {p : Addr} {o : HO} (hp : H p = none) : SRel T μ (upd H p o) F A ∧ F p = none ∧ p ∉ A := by
  have hF : F p = none := s.sub.free hp
  have hA : p ∉ A := fun z => s.thr p z hp
  refine ⟨⟨fun b u q => ?_, s.len, s.nod, fun a ha z => ?_, fun k a ob h1 h2 => ?_⟩, hF, hA⟩
  · rw [upd_ne (ne_of_none q hF)]
    exact s.sub _ _ q
  · have ne : a ≠ p := fun e => hA (by rw [← e]; exact ha)
    rw [upd_ne ne] at z
    exact s.thr a ha z
  · have ne : a ≠ p := fun e => hA (by rw [← e]; exact List.mem_of_getElem? h1)
    exact (s.obj k a ob h1 h2).mono (Same.refl F) fun ho => ⟨(s.obj k a ob h1 h2).nF ho, upd_ne ne⟩
theorem tf_lst {es : List Expr} {is : List IE} (hs : TyL T Φ X es is) : TyF T Φ X (.List es pos) (.lst is) := by
  intro ρ μ σ H F A r Q E tk s er e p
  simp only [evE] at e
  refine wE_of (pe_lst pl_w) (hs.thenF tk s er e p fun ws μ1 vs H1 F1 A1 x s1 er1 r1 e1 p1 => ?_)
  split at e1
  · cases e1
  · rename_i ds μ2 hd
    split at e1
    · rename_i hz
      cases e1
      obtain ⟨F2, s2, sb, rp⟩ := s1.toDs r1 hd
      refine ⟨by rw [← rp.len]; exact lim_le hz, fun q hq => ?_⟩
      obtain ⟨s3, hF, hA⟩ := s2.side (o := .lst vs) hq
      exact p1 q vs _ F2 A1 ⟨sb, List.prefix_refl _⟩ s3 hF hA upd_same rp
    · cases e1
/-- list(a) -/
theorem tf_list {x : Str} {p : Pos} (hK : X.K = T.K) (hx : x = "list") (hg : Gl X x) (hm : X.mg x = none) (ha : TyE T Φ X a ia) (he : starEach (a :: []) X.env = (false, eval a X.env) :: starEach [] X.env) : TyF T Φ X (.Call (.Name x p) [a] [] pos) (.op .list [ia]) := by
  subst hx
  intro ρ μ σ H F A r Q E tk s er e po
  have e' : (evE Φ ia ρ μ).bind (fun w μ1 => (match views μ1 [w] with
      | none => none
      | some ds => match sem .list ds with
        | none => none
        | some d => rok (.d d) μ1 : R W)) = some r := by
    simp only [evE, evL] at e
    rw [← e]
    unfold R.bind
    cases evE Φ ia ρ μ with
    | none => rfl
    | some x1 => cases x1 <;> rfl
  refine wE_of (pe_callTy (T := "list") call_list_of hg hm (by decide +kernel) (pa_cons pe_w pa_nil he) (by decide) (by decide) he (by rfl)) (ha.thenF tk s er e' po fun w μ1 v H1 F1 A1 x s1 er1 r1 e1 p1 => ?_)
  split at e1
  · cases e1
  · rename_i ds hd
    split at e1
    · cases e1
    · rename_i d hsm
      cases e1
      have pr := s1.views (.cons r1 .nil) hd
      cases pr with
      | cons q1 q =>
        cases q
        rename_i dd
        cases dd with
        | lst ys =>
          simp only [sem] at hsm
          cases hsm
          obtain ⟨ad, vs, rfl, h1, h2⟩ := q1.lst
          refine ⟨ad, vs, rfl, .inl (.of h1), fun l hl => ?_⟩
          obtain ⟨s3, hF, hA⟩ := s1.side (o := .lst vs) hl
          exact p1 l vs _ F1 A1 (.refl _ _) s3 hF hA upd_same h2
        | tup ys =>
          simp only [sem] at hsm
          cases hsm
          obtain ⟨ad, vs, rfl, h1, h2⟩ := q1.tup
          refine ⟨ad, vs, rfl, .inr (hK ▸ sub_sqT s1.sub h1), fun l hl => ?_⟩
          obtain ⟨s3, hF, hA⟩ := s1.side (o := .lst vs) hl
          exact p1 l vs _ F1 A1 (.refl _ _) s3 hF hA upd_same h2
        | _ => simp only [sem] at hsm; cases hsm
theorem tf_one {op : BoolOp} (ha : TyF T Φ X a ia) : TyF T Φ X (.BoolOp op [a] pos) ia := by
  intro ρ μ σ H F A r Q E tk s er e p
  exact wE_of (pe_one pe_w) (ha ρ μ σ H F A r Q E tk s er e p)
theorem tf_or {rest : List Expr} (hK : X.K = T.K) (ha : TyF T Φ X a ia) (hb : TyF T Φ X (.BoolOp .Or (b :: rest) pos) ib) : TyF T Φ X (.BoolOp .Or (a :: b :: rest) pos) (.or ia ib) := by
  intro ρ μ σ H F A r Q E tk s er e p
  simp only [evE] at e
  refine wE_of (pe_orT pe_w pe_w) ?_
  rcases bind_some e with ⟨d, m, e1, rfl⟩ | ⟨w, m, e1, e2⟩
  · exact ha ρ μ σ H F A _ _ E tk s er e1 p
  · -- what the first one is worth, behind it
    have post : ∀ (Q' : VK), (∀ v H1 F1 A1, Ext F A F1 A1 → SRel T m H1 F1 A1 → (∀ d k, view m w = some d → truth d = some k → TruV X.K v H1 k) → (∀ (z : PostF T F A Q (fun c d h => E c d σ h) (.ok w m)), Q v H1) → Q' v H1) → PostF T F A Q' (fun c d h => E c d σ h) (.ok w m) := by
      intro Q' h
      cases w with
      | r k => exact fun v H1 F1 A1 x s1 r1 => h v H1 F1 A1 x s1 (fun d k hv ht => truV_of hK s1.sub (s1.view r1 hv) ht) fun z => z v H1 F1 A1 x s1 r1
      | d y =>
        cases y with
        | lst ys =>
          exact fun pp vs H1 F1 A1 x s1 hF hA hH rp => h (.ref pp) H1 F1 A1 x s1 (fun d k hv ht => by
            simp only [view] at hv
            cases hv
            exact truV_of (F := F1) (d := .lst ys) hK s1.sub (show RepV T F1 H1 (.lst ys) (.ref pp) from ⟨pp, vs, rfl, hH, rp⟩) ht) fun z => z pp vs H1 F1 A1 x s1 hF hA hH rp
        | _ => exact fun v H1 F1 A1 x s1 r1 => h v H1 F1 A1 x s1 (fun d k hv ht => truV_of hK s1.sub (s1.view r1 hv) ht) fun z => z v H1 F1 A1 x s1 r1
    refine ha ρ μ σ H F A _ _ E tk s er e1 (post _ fun v H1 F1 A1 x s1 ht hq => ?_)
    split at e2
    · cases e2
    · rename_i hk
      obtain ⟨d, hv, htr⟩ := Option.bind_eq_some_iff.mp hk
      refine ⟨true, ht d true hv htr, ?_⟩
      rw [if_pos rfl]
      cases e2
      exact hq p
    · rename_i hk
      obtain ⟨d, hv, htr⟩ := Option.bind_eq_some_iff.mp hk
      refine ⟨false, ht d false hv htr, ?_⟩
      rw [if_neg Bool.false_ne_true]
      exact hb ρ m σ H1 F1 A1 r Q E tk s1 (er.mono x) e2 (p.mono x)
end
end PI
/-! PI9: statements. -/
namespace PI
open PySem PySem.Spec PyProof.Rows L2

def wS (X : Cx) (st : Stmt) : TS := fun D σ H => ∀ (pins : List (Addr × Obj)) (s : Shared), Inv X pins σ H s → wpAny (model X.prog X.w) X.A (exec st X.env) (SP X pins D) X.xe s
def wB (X : Cx) (st : List Stmt) : TS := fun D σ H => ∀ (pins : List (Addr × Obj)) (s : Shared), Inv X pins σ H s → wpAny (model X.prog X.w) X.A (execs st X.env) (SP X pins D) X.xe s
theorem ps_w {X : Cx} {st : Stmt} : PS X st (wS X st) := ⟨fun pins s σ H D I h => h pins s I⟩
theorem pb_w {X : Cx} {st : List Stmt} : PSs X st (wB X st) := ⟨fun pins s σ H D I h => h pins s I⟩
theorem wS_of {X : Cx} {st : Stmt} {t : TS} (h : PS X st t) {D : Ends} {σ : L2.St} {H : Hp} (q : t D σ H) : wS X st D σ H := fun pins s I => h.run pins s σ H D I q
theorem wB_of {X : Cx} {st : List Stmt} {t : TS} (h : PSs X st t) {D : Ends} {σ : L2.St} {H : Hp} (q : t D σ H) : wB X st D σ H := fun pins s I => h.run pins s σ H D I q

def PostS (T : Tb) (F : Hp) (A : List Addr) (D : Ends) (E : WX) : Fl × Mu → Prop
  | (.nx ρ', μ') => ∀ σ' H' F' A', Ext F A F' A' → SRel T μ' H' F' A' → ERel T ρ' σ' F' A' → D.nx σ' H'
  | (.bk ρ', μ') => ∀ σ' H' F' A', Ext F A F' A' → SRel T μ' H' F' A' → ERel T ρ' σ' F' A' → D.bk σ' H'
  | (.ct ρ', μ') => ∀ σ' H' F' A', Ext F A F' A' → SRel T μ' H' F' A' → ERel T ρ' σ' F' A' → D.ct σ' H'
  | (.rt w, μ') => ∀ v H' F' A', Ext F A F' A' → SRel T μ' H' F' A' → RepW T F' A' w v → D.rt v H'
  | (.xc d ρ', μ') => ∀ cls dd σ' H' F' A', Ext F A F' A' → SRel T μ' H' F' A' → ERel T ρ' σ' F' A' → XRep T F' d cls dd → E cls dd σ' H'
theorem PostS.mono {T : Tb} {F F1 : Hp} {A A1 : List Addr} {D : Ends} {E : WX} {r : Fl × Mu} (e : Ext F A F1 A1) (h : PostS T F A D E r) : PostS T F1 A1 D E r := by
  obtain ⟨fl, m⟩ := r
  cases fl with
  | nx ρ => exact fun s H' F' A' x => h s H' F' A' (e.trans x)
  | bk ρ => exact fun s H' F' A' x => h s H' F' A' (e.trans x)
  | ct ρ => exact fun s H' F' A' x => h s H' F' A' (e.trans x)
  | rt w => exact fun v H' F' A' x => h v H' F' A' (e.trans x)
  | xc d ρ => exact fun c dd s H' F' A' x => h c dd s H' F' A' (e.trans x)
def TyS (T : Tb) (Φ : Phi) (X : Cx) (st : Stmt) (is : IS) : Prop := ∀ (ρ : Env) (μ : Mu) (σ : L2.St) (H F : Hp) (A : List Addr) (r : Fl × Mu) (D : Ends) (E : WX),
  Takes X E → SRel T μ H F A → ERel T ρ σ F A → exS Φ is ρ μ = some r → PostS T F A D E r → wS X st D σ H
def TyBl (T : Tb) (Φ : Phi) (X : Cx) (st : List Stmt) (is : List IS) : Prop := ∀ (ρ : Env) (μ : Mu) (σ : L2.St) (H F : Hp) (A : List Addr) (r : Fl × Mu) (D : Ends) (E : WX),
  Takes X E → SRel T μ H F A → ERel T ρ σ F A → exB Φ is ρ μ = some r → PostS T F A D E r → wB X st D σ H

section
variable {T : Tb} {Φ : Phi} {X : Cx} {pos : Pos} {a b c : Expr} {ia ib ic : IE}
theorem st_some {α : Type} {r : R α} {ρ : Env} {f : α → Mu → RS} {y : Fl × Mu} (h : r.st ρ f = some y) : (∃ d m, r = some (.er d m) ∧ y = (.xc d ρ, m)) ∨ ∃ a m, r = some (.ok a m) ∧ f a m = some y := by
  unfold R.st at h
  split at h
  · cases h
  · cases h
    exact .inl ⟨_, _, rfl, rfl⟩
  · exact .inr ⟨_, _, rfl, h⟩
/-- an expression of a statement, then more -/
theorem TyE.st (h : TyE T Φ X a ia) {f : W → Mu → RS} {r : Fl × Mu} {ρ : Env} {μ : Mu} {σ : L2.St} {H F : Hp} {A : List Addr} {Q : VK} {D : Ends} {E : WX}
    (tk : Takes X E) (s : SRel T μ H F A) (er : ERel T ρ σ F A) (e : (evE Φ ia ρ μ).st ρ f = some r) (p : PostS T F A D E r)
    (hQ : ∀ w μ1 v H1 F1 A1, Ext F A F1 A1 → SRel T μ1 H1 F1 A1 → ERel T ρ σ F1 A1 → RepW T F1 A1 w v → f w μ1 = some r → PostS T F1 A1 D E r → Q v H1) : wE X a σ H Q := by
  rcases st_some e with ⟨d, m, e1, rfl⟩ | ⟨w, m, e1, e2⟩
  · exact h ρ μ σ H F A _ Q E tk s er e1 fun cls dd H' F' A' x s' xr => p cls dd σ H' F' A' x s' (er.mono x) xr
  · exact h ρ μ σ H F A _ Q E tk s er e1 fun v H1 F1 A1 x s1 r1 => hQ w m v H1 F1 A1 x s1 (er.mono x) r1 e2 (p.mono x)
/-- a list that was just made -/
theorem TyF.st (h : TyF T Φ X a ia) {f : W → Mu → RS} {r : Fl × Mu} {ρ : Env} {μ : Mu} {σ : L2.St} {H F : Hp} {A : List Addr} {Q : VK} {D : Ends} {E : WX}
    (tk : Takes X E) (s : SRel T μ H F A) (er : ERel T ρ σ F A) (e : (evE Φ ia ρ μ).st ρ f = some r) (p : PostS T F A D E r) (hf : ∀ w m, (∀ xs, w ≠ .d (.lst xs)) → f w m = none)
    (hQ : ∀ xs μ1 q vs H1 F1 A1, Ext F A F1 A1 → SRel T μ1 H1 F1 A1 → ERel T ρ σ F1 A1 → F1 q = none → q ∉ A1 → H1 q = some (.lst vs) → Reps T F1 xs vs → f (.d (.lst xs)) μ1 = some r → PostS T F1 A1 D E r → Q (.ref q) H1) : wE X a σ H Q := by
  rcases st_some e with ⟨d, m, e1, rfl⟩ | ⟨w, m, e1, e2⟩
  · exact h ρ μ σ H F A _ Q E tk s er e1 fun cls dd H' F' A' x s' xr => p cls dd σ H' F' A' x s' (er.mono x) xr
  · cases w with
    | r k => rw [hf (.r k) m (fun xs z => nomatch z)] at e2; cases e2
    | d y =>
      cases y with
      | lst xs => exact h ρ μ σ H F A _ Q E tk s er e1 fun q vs H1 F1 A1 x s1 h1 h2 h3 h4 => hQ xs m q vs H1 F1 A1 x s1 (er.mono x) h1 h2 h3 h4 e2 (p.mono x)
      | _ => rw [hf _ m (fun xs z => by cases z)] at e2; cases e2
/-- .. is an object of the store from now on -/
theorem SRel.adopt {μ : Mu} {H F : Hp} {A : List Addr} (s : SRel T μ H F A) {q : Addr} {vs : List V} {xs : List D} (h1 : F q = none) (h2 : q ∉ A) (h3 : H q = some (.lst vs)) (h4 : Reps T F xs vs) : SRel T (μ ++ [.lst xs]) H F (A ++ [q]) := by
  refine ⟨s.sub, by simp [s.len], ?_, fun a ha z => ?_, fun k a o ha ho => ?_⟩
  · rw [List.nodup_append]
    exact ⟨s.nod, by simp, fun a ha b hb => by
      have : b = q := by simpa using hb
      subst this
      exact fun z => h2 (z ▸ ha)⟩
  · rcases List.mem_append.mp ha with z' | z'
    · exact s.thr a z' z
    · have : a = q := by simpa using z'
      subst this
      rw [h3] at z
      cases z
  · by_cases hk : k < μ.length
    · rw [List.getElem?_append_left (by rw [s.len]; exact hk)] at ha
      rw [List.getElem?_append_left hk] at ho
      exact s.obj k a o ha ho
    · have hk' : k = μ.length := by
        have := (List.getElem?_eq_some_iff.mp ho).1
        simp at this
        omega
      subst hk'
      rw [List.getElem?_append_right (Nat.le_refl _)] at ho
      simp at ho
      subst ho
      rw [List.getElem?_append_right (by rw [s.len]; exact Nat.le_refl _), s.len] at ha
      simp at ha
      subst ha
      exact ⟨h1, vs, h3, h4⟩

/-! ### small statements -/
theorem ty_set {i : Nat} {x : Str} {p' : Pos} (hN : X.N.Nodup) (hi : X.N[i]? = some x) (hx : Loc X.env.scope x) (ha : TyE T Φ X a ia) (hs : swapsWith a (some (.Name x p')) pos.line X.env = pure false) (hf : X.fn x = true ∨ X.env.scope.names.lookup x = some .local) :
    TyS T Φ X (.Assign [.Name x p'] a pos) (.set (.one i) ia) := by
  intro ρ μ σ H F A r D E tk s er e p
  simp only [exS] at e
  refine wS_of (ps_set hN hi hx pe_w hs hf) (ha.st tk s er e p fun w μ1 v H1 F1 A1 x s1 er1 r1 e1 p1 => ?_)
  cases e1
  exact p1 _ H1 F1 A1 (.refl _ _) s1 (er1.set r1)
theorem ty_setm {i : Nat} {x : Str} {p' : Pos} (hN : X.N.Nodup) (hi : X.N[i]? = some x) (hx : Loc X.env.scope x) (ha : TyF T Φ X a ia) (hs : swapsWith a (some (.Name x p')) pos.line X.env = pure false) (hf : X.fn x = true ∨ X.env.scope.names.lookup x = some .local) :
    TyS T Φ X (.Assign [.Name x p'] a pos) (.setm i ia) := by
  intro ρ μ σ H F A r D E tk s er e p
  simp only [exS] at e
  refine wS_of (ps_set hN hi hx pe_w hs hf) (ha.st tk s er e p (fun w m hw => ?_) fun xs μ1 q vs H1 F1 A1 x s1 er1 h1 h2 h3 h4 e1 p1 => ?_)
  · cases w with
    | r k => rfl
    | d y =>
      cases y with
      | lst ys => exact absurd rfl (hw ys)
      | _ => rfl
  · cases e1
    have s2 := s1.adopt h1 h2 h3 h4
    have x2 : Ext F1 A1 F1 (A1 ++ [q]) := ⟨Same.refl _, List.prefix_append _ _⟩
    exact p1 _ H1 F1 _ x2 s2 ((er1.mono x2).set ⟨q, by rw [← s1.len]; simp, rfl⟩)
theorem ty_retm (ha : TyF T Φ X a ia) : TyS T Φ X (.Return (some a) pos) (.retm ia) := by
  intro ρ μ σ H F A r D E tk s er e p
  simp only [exS] at e
  refine wS_of (ps_ret pe_w) (ha.st tk s er e p (fun w m hw => ?_) fun xs μ1 q vs H1 F1 A1 x s1 er1 h1 h2 h3 h4 e1 p1 => ?_)
  · cases w with
    | r k => rfl
    | d y =>
      cases y with
      | lst ys => exact absurd rfl (hw ys)
      | _ => rfl
  · cases e1
    have s2 := s1.adopt h1 h2 h3 h4
    have x2 : Ext F1 A1 F1 (A1 ++ [q]) := ⟨Same.refl _, List.prefix_append _ _⟩
    exact p1 _ H1 F1 _ x2 s2 ⟨q, by rw [← s1.len]; simp, rfl⟩
theorem ty_set2 {i j : Nat} {x y : Str} {px py pt pt2 : Pos} {kt k2 : Nat} (hc : X.calm = true) (hN : X.N.Nodup) (hi : X.N[i]? = some x) (hj : X.N[j]? = some y) (hij : i ≠ j) (hx : X.env.scope.names.lookup x = some .local) (hy : X.env.scope.names.lookup y = some .local)
    (ha : TyE T Φ X a ia) (hb : TyE T Φ X b ib) (he : starEach (a :: [b]) X.env = (false, eval a X.env) :: starEach [b] X.env) (he2 : starEach (b :: []) X.env = (false, eval b X.env) :: starEach [] X.env)
    (hw : swappedStores [.Tuple [.Name x px, .Name y py] kt pt] (.Tuple [a, b] k2 pt2) X.env = pure (some [x, y])) :
    TyS T Φ X (.Assign [.Tuple [.Name x px, .Name y py] kt pt] (.Tuple [a, b] k2 pt2) pos) (.set2 i j ia ib) := by
  intro ρ μ σ H F A r D E tk s er e p
  simp only [exS] at e
  refine wS_of (ps_par hc hN hi hj hij hx hy (pa_cons pe_w (pa_cons pe_w pa_nil he2) he) hw) (ha.st tk s er e p fun w μ1 v H1 F1 A1 x s1 er1 r1 e1 p1 => ?_)
  refine hb.st tk s1 er1 e1 p1 fun u μ2 v2 H2 F2 A2 x2 s2 er2 r2 e2 p2 => ?_
  cases e2
  exact ⟨v, v2, rfl, p2 _ H2 F2 A2 (.refl _ _) s2 ((er2.set (r1.mono x2)).set r2)⟩
theorem ty_expr (ha : TyE T Φ X a ia) (hs : swapsWith a none pos.line X.env = pure false) : TyS T Φ X (.Expr a pos) (.expr ia) := by
  intro ρ μ σ H F A r D E tk s er e p
  simp only [exS] at e
  refine wS_of (ps_expr pe_w hs) (ha.st tk s er e p fun w μ1 v H1 F1 A1 x s1 er1 r1 e1 p1 => ?_)
  cases e1
  exact p1 σ H1 F1 A1 (.refl _ _) s1 er1
theorem ty_ret (ha : TyE T Φ X a ia) : TyS T Φ X (.Return (some a) pos) (.ret ia) := by
  intro ρ μ σ H F A r D E tk s er e p
  simp only [exS] at e
  refine wS_of (ps_ret pe_w) (ha.st tk s er e p fun w μ1 v H1 F1 A1 x s1 er1 r1 e1 p1 => ?_)
  cases e1
  exact p1 v H1 F1 A1 (.refl _ _) s1 r1
theorem ty_retN : TyS T Φ X (.Return none pos) .retN := by
  intro ρ μ σ H F A r D E tk s er e p
  simp only [exS] at e
  cases e
  exact wS_of ps_retN (p .non H F A (.refl _ _) s (by simp only [RepW, Rep]))
theorem ty_brk : TyS T Φ X (.Break pos) .brk := by
  intro ρ μ σ H F A r D E tk s er e p
  simp only [exS] at e
  cases e
  exact wS_of ps_break (p σ H F A (.refl _ _) s er)
theorem ty_cont : TyS T Φ X (.Continue pos) .cont := by
  intro ρ μ σ H F A r D E tk s er e p
  simp only [exS] at e
  cases e
  exact wS_of ps_continue (p σ H F A (.refl _ _) s er)
/-- o[i] = v -/
theorem ty_setix {pos' : Pos} {o i v : Expr} {io ii iv : IE} (ho : TyE T Φ X o io) (hi : TyE T Φ X i ii) (hv : TyE T Φ X v iv)
    (h1 : ∀ u, assign (.Subscript o i pos') X.env u = (do
      let ov ← holding [u] (eval o X.env)
      let iv ← holding [u, ov] (eval i X.env)
      standAt pos'
      holding [u, ov, iv] (setItem ov iv u)
      release [u, ov, iv] []))
    (hs : swapsWithSole [.Subscript o i pos'] v pos.line X.env = pure false) (hw : swappedStores [.Subscript o i pos'] v X.env = pure none) (h3 : (assignEach [.Subscript o i pos'] X.env).map (·.2) = [assign (.Subscript o i pos') X.env]) :
    TyS T Φ X (.Assign [.Subscript o i pos'] v pos) (.setix io ii iv) := by
  intro ρ μ σ H F A r D E tk s er e p
  simp only [exS] at e
  refine wS_of (ps_asg pe_w (pg_sub pe_w pe_w set_list h1) hs hw h3) (hv.st tk s er e p fun wv μ1 vv H1 F1 A1 x1 s1 er1 r1 e1 p1 => ?_)
  refine ho.st tk s1 er1 e1 p1 fun wo μ2 vo H2 F2 A2 x2 s2 er2 r2 e2 p2 => ?_
  refine hi.st tk s2 er2 e2 p2 fun wi μ3 vi H3 F3 A3 x3 s3 er3 r3 e3 p3 => ?_
  cases wo with
  | d y => cases e3
  | r k =>
    simp only at e3
    split at e3
    · cases e3
    · rename_i y μ4 hd
      obtain ⟨F4, s4, sb4, rp4⟩ := s3.toD (r1.mono (x2.trans x3)) hd
      split at e3
      · rename_i xs j hxs
        split at e3
        · rename_i n hn
          cases e3
          obtain ⟨ad, hA, rfl⟩ := r2.mono x3
          obtain ⟨hF, vs, hH, rvs⟩ := s4.obj k ad _ hA hxs
          simp only [RepW, Rep] at r3
          subst r3
          refine ⟨ad, vs, j, n, rfl, rfl, hH, by rw [← rvs.len]; exact hn, ?_⟩
          have s5 := s4.write (o := .lst (vs.set n vv)) (ob' := .lst (xs.set n y)) hA hxs (fun x z => nomatch z) ⟨hF, _, upd_same, rvs.set n rp4⟩
          have x4 : Ext F3 A3 F4 A3 := ⟨sb4, List.prefix_refl _⟩
          exact p3 σ _ F4 A3 x4 s5 (er3.mono x4)
        · cases e3
      · cases e3
/-- o.append(v) -/
theorem ty_app {apos cpos : Pos} {o v : Expr} {io iv : IE} (ho : TyE T Φ X o io) (hv : TyE T Φ X v iv) (hs : swapsWith (.Call (.Attribute o "append" apos) [v] [] cpos) none pos.line X.env = pure false)
    (hpe : ∀ {r : V → List V → Hp → VK → Prop} {to : TE} {t : TA}, MtR X "list.append" r → PE X o to → PA X [v] t → PE X (.Call (.Attribute o "append" apos) [v] [] cpos) (tBM X.K "list" r to t)) (he : starEach (v :: []) X.env = (false, eval v X.env) :: starEach [] X.env) :
    TyS T Φ X (.Expr (.Call (.Attribute o "append" apos) [v] [] cpos) pos) (.app io iv) := by
  intro ρ μ σ H F A r D E tk s er e p
  simp only [exS] at e
  refine wS_of (ps_expr (hpe mt_append pe_w (pa_cons pe_w pa_nil he)) hs) (ho.st tk s er e p fun wo μ1 vo H1 F1 A1 x1 s1 er1 r1 e1 p1 => ?_)
  cases wo with
  | d y => cases e1
  | r k =>
    simp only at e1
    split at e1
    · rename_i xs0 hx0
      obtain ⟨ad, hA, rfl⟩ := r1
      obtain ⟨_, vs0, hH0, _⟩ := s1.obj k ad _ hA hx0
      refine ⟨.inl ⟨rfl, vs0, .of hH0⟩, ?_⟩
      refine hv.st tk s1 er1 e1 p1 fun u μ2 v2 H2 F2 A2 x2 s2 er2 r2 e2 p2 => ?_
      split at e2
      · cases e2
      · rename_i y μ3 hd
        obtain ⟨F3, s3, sb3, rp3⟩ := s2.toD r2 hd
        split at e2
        · rename_i xs hxs
          split at e2
          · rename_i hz
            cases e2
            obtain ⟨B, rfl⟩ := x2.pre
            have hA2 : (A1 ++ B)[k]? = some ad := by rw [List.getElem?_append_left (List.getElem?_eq_some_iff.mp hA).1]; exact hA
            obtain ⟨hF, vs, hH, rvs⟩ := s3.obj k ad _ hA2 hxs
            refine ⟨ad, vs, v2, rfl, rfl, hH, by rw [← rvs.len]; exact Nat.lt_of_lt_of_le hz (by decide), ?_⟩
            have s5 := s3.write (o := .lst (vs ++ [v2])) (ob' := .lst (xs ++ [y])) hA2 hxs (fun x z => nomatch z) ⟨hF, _, upd_same, rvs.app (.cons rp3 .nil)⟩
            have x4 : Ext F2 (A1 ++ B) F3 (A1 ++ B) := ⟨sb3, List.prefix_refl _⟩
            exact p2 σ _ F3 _ x4 s5 (er2.mono x4)
          · cases e2
        · cases e2
    · cases e1

/-! ### blocks, if, for, while -/
theorem tb_nil : TyBl T Φ X [] [] := by
  intro ρ μ σ H F A r D E tk s er e p
  simp only [exB] at e
  cases e
  exact wB_of pss_nil (p σ H F A (.refl _ _) s er)
theorem tb_cons {st : Stmt} {rest : List Stmt} {is : IS} {irest : List IS} (h : TyS T Φ X st is) (t : TyBl T Φ X rest irest) : TyBl T Φ X (st :: rest) (is :: irest) := by
  intro ρ μ σ H F A r D E tk s er e p
  simp only [exB] at e
  refine wB_of (pss_cons ps_w pb_w) ?_
  cases hs : exS Φ is ρ μ with
  | none => rw [hs] at e; cases e
  | some q =>
    obtain ⟨fl, m⟩ := q
    rw [hs] at e
    refine h ρ μ σ H F A _ { D with nx := wB X rest D } E tk s er hs ?_
    cases fl with
    | nx ρ1 => exact fun σ' H' F' A' x s' er' => t ρ1 m σ' H' F' A' r D E tk s' er' e (p.mono x)
    | bk ρ1 => cases e; exact p
    | ct ρ1 => cases e; exact p
    | rt w => cases e; exact p
    | xc d ρ1 => cases e; exact p
theorem ty_if {bt be : List Stmt} {it ie : List IS} (hc : TyB T Φ X c ic) (ha : TyBl T Φ X bt it) (hb : TyBl T Φ X be ie) : TyS T Φ X (.If c bt be pos) (.ife ic it ie) := by
  intro ρ μ σ H F A r D E tk s er e p
  have e' : (evB Φ ic ρ μ).st ρ (fun k μ1 => if k = true then exB Φ it ρ μ1 else exB Φ ie ρ μ1) = some r := by
    rw [← e]
    unfold evB
    simp only [exS]
    cases evE Φ ic ρ μ with
    | none => rfl
    | some x1 =>
      cases x1 with
      | er d m => rfl
      | ok w m =>
        simp only [R.bind, R.st]
        cases hk : (view m w).bind truth with
        | none => rfl
        | some k => cases k <;> simp [R.of]
  refine wS_of (ps_if pt_w pb_w pb_w) ?_
  rcases st_some e' with ⟨d, m, e1, rfl⟩ | ⟨k, m, e1, e2⟩
  · exact hc ρ μ σ H F A _ _ E tk s er e1 fun cls dd H' F' A' x s' xr => p cls dd σ H' F' A' x s' (er.mono x) xr
  · refine hc ρ μ σ H F A _ _ E tk s er e1 fun v H1 F1 A1 x s1 ev => ?_
    subst ev
    cases k with
    | true => rw [if_pos rfl] at e2 ⊢; exact ha ρ m σ H1 F1 A1 r D E tk s1 (er.mono x) e2 (p.mono x)
    | false => rw [if_neg Bool.false_ne_true] at e2 ⊢; exact hb ρ m σ H1 F1 A1 r D E tk s1 (er.mono x) e2 (p.mono x)
theorem TyI.st {tg iter : Expr} {it : IT} (h : TyI T Φ X tg iter it) {f : List PI.D → Mu → RS} {r : Fl × Mu} {ρ : Env} {μ : Mu} {σ : L2.St} {H F : Hp} {A : List Addr} {Q : It → Hp → Prop} {D : Ends} {E : WX}
    (tk : Takes X E) (s : SRel T μ H F A) (er : ERel T ρ σ F A) (e : (evT Φ it ρ μ).st ρ f = some r) (p : PostS T F A D E r)
    (hQ : ∀ xs μ1 J H1 F1 A1, Ext F A F1 A1 → SRel T μ1 H1 F1 A1 → ERel T ρ σ F1 A1 → WalkD T F1 J xs → f xs μ1 = some r → PostS T F1 A1 D E r → Q J H1) : wI X tg iter σ H Q := by
  rcases st_some e with ⟨d, m, e1, rfl⟩ | ⟨w, m, e1, e2⟩
  · exact h ρ μ σ H F A _ Q E tk s er e1 fun cls dd H' F' A' x s' xr => p cls dd σ H' F' A' x s' (er.mono x) xr
  · exact h ρ μ σ H F A _ Q E tk s er e1 fun v H1 F1 A1 x s1 r1 => hQ w m v H1 F1 A1 x s1 (er.mono x) r1 e2 (p.mono x)
theorem ty_for {tg iter : Expr} {it : IT} {t : Tg} {body : List Stmt} {ib : List IS} (hp : PassesOwn (model X.prog X.w) X.A X.env X.xe) (hK : X.K = T.K) (hc : X.calm = true) (hi : TyI T Φ X tg iter it) (hg : PG X tg (gT X.K t)) (hb : TyBl T Φ X body ib) (hs : ∀ x, foldedSetIterable iter X.env x = pure x) :
    TyS T Φ X (.For tg iter body [] pos) (.for_ t it ib) := by
  intro ρ μ σ H F A r D E tk s er e p
  simp only [exS] at e
  refine wS_of (ps_for hp hc pi_w hg pb_w hs) (hi.st tk s er e p fun xs μ1 J H1 F1 A1 x1 s1 er1 wk e1 p1 => ?_)
  refine ⟨fun i m σ' H' => m = xs.length - i ∧ i ≤ xs.length ∧ ∃ ρ' μ' F' A', Ext F1 A1 F' A' ∧ SRel T μ' H' F' A' ∧ ERel T ρ' σ' F' A' ∧ lop _ (xs.drop i) ρ' μ' = some r, ⟨_, rfl, Nat.zero_le _, ρ, μ1, F1, A1, .refl _ _, s1, er1, by rw [List.drop_zero]; exact e1⟩, ?_⟩
  rintro i m σ' H' ⟨rfl, hle, ρ', μ', F', A', x', s', er', hl⟩
  by_cases hlt : i < xs.length
  · refine .inr ⟨wk.goes i H' hlt (x'.sub.trans s'.sub), _, fun σ'' H'' z => ⟨xs.length - (i + 1), by omega, rfl, by omega, z⟩, fun v H2 hy => ?_⟩
    obtain ⟨d, F2, hd, g2, rd⟩ := wk.yields i H' F' v H2 hlt x'.sub s'.sub hy
    have s2 := g2.srel s'
    have x2 : Ext F1 A1 F2 A' := ⟨x'.sub.trans g2.fs, x'.pre⟩
    have er2 := er'.mono (g2.ext A')
    have hdrop : xs.drop i = d :: xs.drop (i + 1) := by
      have hg' : xs[i] = d := by
        rw [List.getElem?_eq_getElem hlt] at hd
        exact Option.some.inj hd
      rw [← hg']
      exact List.drop_eq_getElem_cons hlt
    rw [hdrop] at hl
    unfold lop at hl
    cases hput : t.put d ρ' with
    | none => rw [hput] at hl; cases hl
    | some ρ1 =>
      rw [hput] at hl
      refine gT_ok hput rd s2.sub er2 hK fun σ3 er3 _ => ?_
      dsimp only at hl
      cases hx : exB Φ ib ρ1 μ' with
      | none => rw [hx] at hl; cases hl
      | some q =>
        obtain ⟨fl, m2⟩ := q
        rw [hx] at hl
        refine hb ρ1 μ' σ3 H2 F2 A' _ _ E tk s2 er3 hx ?_
        cases fl with
        | nx ρ2 => exact fun σ4 H4 F4 A4 x4 s4 er4 => ⟨ρ2, m2, F4, A4, x2.trans x4, s4, er4, hl⟩
        | ct ρ2 => exact fun σ4 H4 F4 A4 x4 s4 er4 => ⟨ρ2, m2, F4, A4, x2.trans x4, s4, er4, hl⟩
        | bk ρ2 => cases hl; exact fun σ4 H4 F4 A4 x4 s4 er4 => p1 σ4 H4 F4 A4 (x2.trans x4) s4 er4
        | rt w => cases hl; exact fun v4 H4 F4 A4 x4 s4 r4 => p1 v4 H4 F4 A4 (x2.trans x4) s4 r4
        | xc dd ρ2 => cases hl; exact fun c4 d4 σ4 H4 F4 A4 x4 s4 er4 xr => p1 c4 d4 σ4 H4 F4 A4 (x2.trans x4) s4 er4 xr
  · have hi' : i = xs.length := by omega
    subst hi'
    refine .inl ⟨wk.stops H' (x'.sub.trans s'.sub), ?_⟩
    rw [List.drop_length] at hl
    simp only [lop] at hl
    cases hl
    exact p1 σ' H' F' A' x' s' er'
theorem ty_while {body : List Stmt} {ib : List IS} (hp : PassesOwn (model X.prog X.w) X.A X.env X.xe) (hc : TyB T Φ X c ic) (hb : TyBl T Φ X body ib) : TyS T Φ X (.While c body [] pos) (.while_ ic ib) := by
  intro ρ μ σ H F A r D E tk s er e p
  simp only [exS] at e
  refine wS_of (ps_while hp pt_w pb_w) ?_
  refine ⟨fun n σ' H' => ∃ ρ' μ' F' A', Ext F A F' A' ∧ SRel T μ' H' F' A' ∧ ERel T ρ' σ' F' A' ∧ whl _ n ρ' μ' = some r, ⟨1000000, ρ, μ, F, A, .refl _ _, s, er, e⟩, ?_⟩
  rintro n σ' H' ⟨ρ', μ', F', A', x', s', er', hl⟩
  cases n with
  | zero => simp only [whl] at hl; cases hl
  | succ n =>
    unfold whl at hl
    cases hE : evE Φ ic ρ' μ' with
    | none => rw [hE] at hl; cases hl
    | some x1 =>
      rw [hE] at hl
      cases x1 with
      | er d m =>
        dsimp only at hl
        cases hl
        have hB : evB Φ ic ρ' μ' = some (.er d m) := by unfold evB; rw [hE]; rfl
        exact hc ρ' μ' σ' H' F' A' _ _ E tk s' er' hB fun cls dd H2 F2 A2 x2 s2 xr => p cls dd σ' H2 F2 A2 (x'.trans x2) s2 (er'.mono x2) xr
      | ok w m =>
        dsimp only at hl
        cases hk : (view m w).bind truth with
        | none => rw [hk] at hl; cases hl
        | some k =>
          rw [hk] at hl
          have hB : evB Φ ic ρ' μ' = some (.ok k m) := by unfold evB; rw [hE]; simp [R.bind, hk, R.of]
          refine hc ρ' μ' σ' H' F' A' _ _ E tk s' er' hB fun v H2 F2 A2 x2 s2 ev => ?_
          subst ev
          cases k with
          | false =>
            rw [if_neg Bool.false_ne_true]
            dsimp only at hl
            cases hl
            exact p σ' H2 F2 A2 (x'.trans x2) s2 (er'.mono x2)
          | true =>
            rw [if_pos rfl]
            dsimp only at hl
            cases hx : exB Φ ib ρ' m with
            | none => rw [hx] at hl; cases hl
            | some q =>
              obtain ⟨fl, m2⟩ := q
              rw [hx] at hl
              refine ⟨_, fun σ4 H4 z => ⟨n, Nat.lt_succ_self n, z⟩, hb ρ' m σ' H2 F2 A2 _ _ E tk s2 (er'.mono x2) hx ?_⟩
              cases fl with
              | nx ρ2 => exact fun σ4 H4 F4 A4 x4 s4 er4 => ⟨ρ2, m2, F4, A4, (x'.trans x2).trans x4, s4, er4, hl⟩
              | ct ρ2 => exact fun σ4 H4 F4 A4 x4 s4 er4 => ⟨ρ2, m2, F4, A4, (x'.trans x2).trans x4, s4, er4, hl⟩
              | bk ρ2 => cases hl; exact fun σ4 H4 F4 A4 x4 s4 er4 => p σ4 H4 F4 A4 ((x'.trans x2).trans x4) s4 er4
              | rt w => cases hl; exact fun v4 H4 F4 A4 x4 s4 r4 => p v4 H4 F4 A4 ((x'.trans x2).trans x4) s4 r4
              | xc dd ρ2 => cases hl; exact fun c4 d4 σ4 H4 F4 A4 x4 s4 er4 xr => p c4 d4 σ4 H4 F4 A4 ((x'.trans x2).trans x4) s4 er4 xr
end
end PI
/-! PI14: exceptions as values, over the hand layer. -/
namespace PI
open PySem PySem.Spec PyProof.Rows L2

theorem exAt_ok {P : Program} {w : World} {H : Hp} {h : Heap} {a : Addr} {cls : Value} {d : Option Addr} {oe : Obj} {vs : Array Value} (e : h.get? a = some oe) (z : Zc cls d oe) (q : oe.data = .fields vs) : ObjOk P w H h a (exAt a cls d) :=
  ⟨⟨oe, vs, e, z, q⟩, ⟨oe, e⟩, fun _ _ ⟨o, v, y, r⟩ k => ⟨o, v, k o y, r⟩⟩
theorem exAt_at {P : Program} {w : World} {H : Hp} {h : Heap} {a : Addr} {cls : Value} {d : Option Addr} (hok : HOk P w H h) (e : H a = some (exAt a cls d)) : ∃ (oe : Obj) (vs : Array Value), h.get? a = some oe ∧ Zc cls d oe ∧ oe.data = .fields vs :=
  (hok a _ e).1
section
variable {X : Cx} {pins : List (Addr × Obj)} {σ : L2.St} {H : Hp} {s s' : Shared}
/-- an object that the heap has and the abstract heap hasn't, of ours: it may be tracked -/
theorem inv_lay {a : Addr} {o : HO} (I : Inv X pins σ H s) (k : ∀ b u, s.heap.get? b = some u → s'.heap.get? b = some u) (hp : s.heap.get? a = none) (hn : H a = none) (ho : s'.os = s.os) (hg : AllBare s'.gens) (new : ObjOk X.prog X.w (upd H a o) s'.heap a o) :
    Inv X pins σ (upd H a o) s' := I.call' (ch := []) ho (Un.laidN k hp hn) (I.hok.laidN k hn new) hg (fun b z => absurd z (by simp))
theorem pe_exv {e : Expr} {t : L2.St → Hp → XK → Prop} (h : PMk X e t) : PE X e (fun σ H Q => t σ H fun cls d H' => ∀ a, H' a = none → Q (.ref a) (upd H' a (exAt a cls d))) := by
  refine ⟨fun pins s σ H Q I q => wpAny_mono (h pins s σ H _ I q) (fun u s1 hu => ?_) fun _ _ x => x⟩
  obtain ⟨a, oe, vs, sI, H', cls, d, rfl, J, k, ne, he, hz, hd, h1, na, os, ag, _, q'⟩ := hu
  exact ⟨.ref a, _, inv_lay J k ne na os ag (exAt_ok he hz hd), rfl, q' a na⟩
end

/-- a field of it -/
def tXv (f : Str) (te : TE) (K : PySem.W.Frag) : TE := fun σ H Q => te σ H fun x H1 => ∃ (a C dd : Addr) (fs : List (Str × V)) (v : V), x = .ref a ∧ XfC K C ∧ PySem.W.findIn K (.ref C) f = some none ∧ H1 a = some (exAt a (.ref C) (some dd)) ∧ H1 dd = some (.xd fs) ∧ fs.lookup f = some v ∧ Q v H1
theorem pe_xv {X : Cx} {e : Expr} {te : TE} {pos : Pos} {n : Str} (he : PE X e te) (hb : attributeBase e n X.env (eval e X.env) = eval e X.env) : PE X (.Attribute e n pos) (tXv n te X.K) := by
  refine ⟨fun pins s σ H Q I h => attr_of hb (thn (he.run pins s σ H _ I h) fun u s1 hh => ?_)⟩
  obtain ⟨x, H1, I1, rx, a, C, dd, fs, v, ex, T, hno, hx, hd, l, q⟩ := hh
  cases ex
  cases (show u = Value.ref a from rx)
  obtain ⟨oe, vs, ha, hz, hv⟩ := exAt_at I1.hok hx
  obtain ⟨mA, hns, hr⟩ := (show ObjOk X.prog X.w H1 s1.heap dd (.xd fs) from I1.hok dd _ hd)
  obtain ⟨od, ho, hl⟩ := lookIn_ns hns
  obtain ⟨u, hu, ru⟩ := RelO.some_of (v := v) (o := mA n) (by rw [← l]; exact hr n)
  refine HandSPX.exc_get I1.kIn (od := some od) (ox := oe) ⟨ha, hz.1, ?_, ?_⟩ T.ga T.gg T.exC (PySem.W.findObj_own T.hdC hno rfl (by rw [hl, hu])) (handed_of ru) ⟨v, H1, I1.tok _, ru, q⟩
  · unfold PySem.W.notCls
    rw [hv] <;> rfl
  · rw [hz.2]
    exact ho

/-- isinstance of it -/
theorem exc_kitX {K : PySem.W.Frag} {C a : Addr} {od : Option Obj} (T : ExcC K C) : PySem.W.KitX K (.ref a) (.ref C) (fun h => ∃ ox, PySem.W.InstAt h a ox C od) := by
  have hc : (PySem.W.clsIn K C).isSome = true := by
    obtain ⟨cd, hc, _⟩ := PySem.W.any_some T.hd
    rw [hc]
    rfl
  have Z := fun ox => PySem.W.kitx_exc (x := a) (ox := ox) (od := od) hc T.hg T.hk T.hs T.ha T.hn T.ht T.hm
  exact ⟨fun M h X ⟨ox, q⟩ => (Z ox).ty M h X q, fun M h X ⟨ox, q⟩ => (Z ox).it M h X q, (Z default).ne, fun X ⟨ox, q⟩ k => (Z ox).ca X q k⟩
theorem exc_inst {X : Cx} {pins : List (Addr × Obj)} {σ : L2.St} {H : Hp} {s : Shared} {a C : Addr} {d : Option Addr} (I : Inv X pins σ H s) (ha : H a = some (exAt a (.ref C) d)) (hd : ∀ dd, d = some dd → ∃ fs, H dd = some (.xd fs)) : ∃ od ox, PySem.W.InstAt s.heap a ox C od := by
  obtain ⟨oe, vs, h1, hz, hv⟩ := exAt_at I.hok ha
  have nc : PySem.W.notCls oe = true := by
    unfold PySem.W.notCls
    rw [hv] <;> rfl
  cases d with
  | none => exact ⟨none, oe, h1, hz.1, nc, by rw [hz.2]; trivial⟩
  | some dd =>
    obtain ⟨fs, hf⟩ := hd dd rfl
    obtain ⟨mA, hns, hr⟩ := (show ObjOk X.prog X.w H s.heap dd (.xd fs) from I.hok dd _ hf)
    obtain ⟨od, ho, hl⟩ := lookIn_ns hns
    exact ⟨some od, oe, h1, hz.1, nc, by rw [hz.2]; exact ho⟩
theorem call_isX {X : Cx} {pins : List (Addr × Obj)} {σ : L2.St} {H : Hp} {s : Shared} {a C : Addr} {d : Option Addr} {c : V} {b : Bool} {u cv : Value} {Q : VK} (T : ExcC X.K C) (I : Inv X pins σ H s) (ha : H a = some (exAt a (.ref C) d)) (hd : ∀ dd, d = some dd → ∃ fs, H dd = some (.xd fs))
    (e : PySem.W.kitOne X.K (.ref C) cv = some b) (q : Q (.bl b) H) : wpAny (model X.prog X.w) X.A (call (.builtin "isinstance") [.ref a, cv]) (EP X pins σ Q) X.xe s := by
  obtain ⟨od, ox, J⟩ := exc_inst I ha hd
  exact PySem.W.kia_one (exc_kitX T) I.kIn ⟨ox, J⟩ e (fun z => nomatch z) fun tk => ⟨.bl b, H, I.tok tk, rfl, q⟩
end PI
/-! PI15: an own error made with keywords. -/
namespace PI
open PySem PySem.Spec PyProof.Rows L2
namespace Kwx
open PySem.Calls PySem.HandSPX
section
variable {M : Model} {prog : Program} {w : World} {A : Around} {E : Value → Shared → Prop} {R : Result → Shared → Prop} {hp : Heap} {gs : Array GenState} {dr : Drawn} {tk : Nat} {os : OsState}
variable {cn qn : Str} {C N : Addr} {bs bm bmB : List Value} {hdct : Bool} {sn : List Str} {sub : List Value} {ab : Bool} {col : Option Bool} {dd : Option Addr} {k0 k1 k2 k3 k5 : Option Value} {B newId initId : String}
abbrev clsO (cn qn : Str) (C N : Addr) (bs bm : List Value) (hdct : Bool) (sn : List Str) (sub : List Value) (ab : Bool) (col : Option Bool) (dd : Option Addr) (k0 k1 k2 k3 k5 : Option Value) (newId : String) : Obj := excClassObj cn qn C N bs bm hdct sn sub ab col dd k0 k1 k2 k3 k5 newId

theorem check_new (F : ExcBaseFacts B newId initId bmB) (hT : ∀ X : String, bm.contains (.type X) = bmB.contains (.type X)) {us : List Value} {kw : List (Str × Value)} {Q : Unit → Shared → Prop}
    (gC : hp.get? C = some (clsO cn qn C N bs bm hdct sn sub ab col dd k0 k1 k2 k3 k5 newId)) (q : Q () ⟨hp, gs, dr, tk, os⟩) : wpAny M A (checkBuiltinCall newId ⟨.ref C :: us, kw⟩) Q E ⟨hp, gs, dr, tk, os⟩ := by
  have in1 : (Value.ref C :: bm).contains (.type B) = true := by
    rw [List.contains_cons, hT, F.hasB]
    exact Bool.or_true _
  have st := F.noStar
  simp only [checkBuiltinCall, F.newKind, F.newSplit, F.newRow]
  repeat (first
    | refine wpAny_loadPart_at gC ?_
    | (refine wpAny_isSubtype_exc gC ?_
       rw [in1])
    | refine wpAny_staticBase_exc gC ?_
    | refine wpAny_madeBy_exc gC ?_
    | simp only [bne_self_eq_false, Bool.false_eq_true, if_false]
    | wp_step)
  exact q
theorem new_kw (F : ExcBaseFacts B newId initId bmB) (hT : ∀ X : String, bm.contains (.type X) = bmB.contains (.type X)) {us : List Value} {kw : List (Str × Value)}
    (gC : hp.get? C = some (clsO cn qn C N bs bm hdct sn sub ab col dd k0 k1 k2 k3 k5 newId)) (hus : us.length ≤ sizeLine)
    (q : R (.ok (.ret (.ref (hp.objs.size + 1)))) ⟨(hp.push (PySem.W.kdv_tup us)).push (excO C hp.objs.size), gs, dr, tk, os⟩) :
    codeAny (model prog w) A (.builtin newId ⟨.ref C :: us, kw⟩) R ⟨hp, gs, dr, tk, os⟩ := by
  have in1 : (Value.ref C :: bm).contains (.type B) = true := by
    rw [List.contains_cons, hT, F.hasB]
    exact Bool.or_true _
  have out1 : (Value.ref C :: bm).contains (.type "AttributeError") = false := by
    rw [List.contains_cons, hT, F.noAttr] <;> rfl
  have out2 : (Value.ref C :: bm).contains (.type "NameError") = false := by
    rw [List.contains_cons, hT, F.noName] <;> rfl
  have en := F.ends
  refine codeAny_builtinAt F.entry ?_
  unfold Builtin.«BaseException.__new__»
  refine PySem.wpAt_bind ?_
  show PySem.wpAt _ _ _ (stack >>= _) _ _ _
  refine PySem.wpAt_bind (PySem.wpAt_stack fun p below => ?_)
  refine PySem.wpAt_of_wpAny ?_
  wp_walk
  refine PySem.wpAt_of_wpAny ?_
  rw [F.owner]
  repeat (first
    | with_reducible refine wpAny_madeHere_exc F.canon gC ?_
    | with_reducible refine wpAny_loadPart_at gC ?_
    | (with_reducible refine wpAny_isSubtype_exc gC ?_
       first
         | rw [in1]
         | rw [out1]
         | rw [out2])
    | wp_step)
  show R _ _
  rw [Heap.size_push]
  exact q
theorem tcall_kw (F : ExcBaseFacts B newId initId bmB) (hT : ∀ X : String, bm.contains (.type X) = bmB.contains (.type X)) {us : List Value} {kw : List (Str × Value)} {fI : Addr} {Q : Fin → Shared → Prop}
    (gC : hp.get? C = some (clsO cn qn C N bs bm hdct sn sub ab col dd k0 k1 k2 k3 k5 newId)) (li : PySem.W.Looks (model prog w) hp (typeLookup (.ref C) "__init__") (some (.ref fI)))
    (lb : ∀ self, PySem.W.Looks (model prog w) hp (bindSpecial (.ref fI) self) (.ref fI, [self])) (hus : us.length ≤ sizeLine)
    (q : codeAny (model prog w) A (.call (.ref fI) ⟨.ref (hp.objs.size + 1) :: us, kw⟩) (fun r s' => match r with
        | .ok (.ret v) => v = .none ∧ Q (.done (.ret (.ref (hp.objs.size + 1)))) s'
        | .ok _ => False
        | .error e => E e s') ⟨(hp.push (PySem.W.kdv_tup us)).push (excO C hp.objs.size), gs, dr, tk, os⟩) :
    wpAny (model prog w) A (Builtin.«type.__call__» ⟨.ref C :: us, kw⟩) Q E ⟨hp, gs, dr, tk, os⟩ := by
  repeat (first
    | with_reducible refine wpAny_loadPart_at gC ?_
    | with_reducible refine wpAny_madeBy_exc gC ?_
    | wp_step)
  refine codeAny_call_builtin_code (Code.quiet_builtin _ F.quiet) (check_new F hT gC ?_)
  refine new_kw F hT gC hus ?_
  show wpAny _ _ _ _ _ _
  have up : ∀ b o, hp.get? b = some o → ((hp.push (PySem.W.kdv_tup us)).push (excO C hp.objs.size)).get? b = some o := fun b o e => Heap.get?_push_of_some _ (Heap.get?_push_of_some _ e)
  have gC1 := up _ _ gC
  have gx : ((hp.push (PySem.W.kdv_tup us)).push (excO C hp.objs.size)).get? (hp.objs.size + 1) = some (excO C hp.objs.size) := by heap_get
  have self1 : (Value.ref C :: bm).contains (.ref C) = true := by simp
  have li1 := li.keeps up
  have lb1 := (lb (.ref (hp.objs.size + 1))).keeps up
  unfold isInstance
  repeat (first
    | with_reducible refine wpAny_loadPart_at gx ?_
    | (with_reducible refine wpAny_isSubtype_exc gC1 ?_
       rw [self1])
    | wp_step)
  show wpAny _ _ (typeLookup (.ref C) _) _ _ _
  refine li1.at (wpAny_holding (wpAny_bind (lb1.at ?_)))
  refine wpAny_bind (wpAny_call (codeAny_mono q fun r s' z => ?_))
  rcases r with e | (v | _ | _ | _) <;> first | exact z | exact z.elim | skip
  obtain ⟨rfl, z⟩ := z
  first
    | exact wpAny_pure (wpAny_pure z)
    | (wp_walk; exact z)
theorem call_kw (F : ExcBaseFacts B newId initId bmB) (hT : ∀ X : String, bm.contains (.type X) = bmB.contains (.type X)) {us : List Value} {kw : List (Str × Value)} {fI : Addr}
    (gC : hp.get? C = some (clsO cn qn C N bs bm hdct sn sub ab col dd k0 k1 k2 k3 k5 newId)) (li : PySem.W.Looks (model prog w) hp (typeLookup (.ref C) "__init__") (some (.ref fI)))
    (lb : ∀ self, PySem.W.Looks (model prog w) hp (bindSpecial (.ref fI) self) (.ref fI, [self])) (hus : us.length ≤ sizeLine)
    (q : codeAny (model prog w) (A.under (.builtin "type.__call__" ⟨.ref C :: us, kw⟩)) (.call (.ref fI) ⟨.ref (hp.objs.size + 1) :: us, kw⟩) (PySem.W.InitBack (hp.objs.size + 1) R) ⟨(hp.push (PySem.W.kdv_tup us)).push (excO C hp.objs.size), gs, dr, tk, os⟩) :
    codeAny (model prog w) A (.call (.ref C) ⟨us, kw⟩) R ⟨hp, gs, dr, tk, os⟩ := by
  have t1 := tc_lookup
  have t2 := tc_bind (.ref C)
  have ty : (⟨hp, gs, dr, tk, os⟩ : Shared).TypeIs (.ref C) "type" := ⟨_, gC, rfl⟩
  refine codeAny_of_tree ?_
  show wpAny _ _ (callAny (.ref C) _) _ _ _
  repeat (any_goals (first
    | assumption
    | with_reducible refine wpAny_loadPart_at gC ?_
    | wp_step))
  refine ⟨rfl, ?_⟩
  refine codeAny_call_builtin_at (Code.quiet_builtin _ (by decide +kernel)) entry_typeCall ?_
  refine wpAny_check_type_call_sub gC (tcall_kw F hT gC li lb hus ?_)
  refine codeAny_mono q fun r s' z => ?_
  rcases r with e | (v | _ | _ | _) <;> exact z
end
end Kwx
end PI
/-! PI16: try: .. except C as n: m = n, the error kept. -/
namespace PI
open PySem PySem.Spec PyProof.Rows L2
section
variable {X : Cx} {pins : List (Addr × Obj)} {σ : L2.St} {H : Hp} {s s0 s1 : Shared} {gr : Heap}
/-- on the ground again, its object tracked -/
theorem inv_landX {ea : Addr} {cls : Value} {d : Option Addr} {oe : Obj} {vs : Array Value} (I : Inv X pins σ H s0) (onG : ∀ b o, s0.heap.get? b = some o → b ∉ frs X.stack → gr.get? b = some o) (st : gr.StaysIn s1.heap) (up : s0.heap.UpToSlots s1.heap) (ho : s1.os = s0.os)
    (hg : AllBare s1.gens) (na : H ea = none) (n0 : s0.heap.get? ea = none) (he : s1.heap.get? ea = some oe) (hz : Zc cls d oe) (hv : oe.data = .fields vs) : Inv X pins σ (upd H ea (exAt ea cls d)) s1 := by
  have fr1 : ∀ b ∈ frs X.stack, ∀ o, s0.heap.get? b = some o → ∃ sl, s1.heap.get? b = some { o with slots := sl } := fun b hb o e => by
    obtain ⟨_, o', e', hd⟩ := I.stack.mem hb
    rw [e] at e'
    cases e'
    exact up b o e hd
  have ne0 : ∀ b o, s0.heap.get? b = some o → b ≠ ea := fun b o e z => by
    rw [z, n0] at e
    cases e
  refine I.call' (ch := []) (s' := s1) ho { keep := fun b o e _ hb _ => st b o (onG b o e hb), slot := fun b o e _ hb _ => fr1 b hb o e, free := fun b o e n _ => ?_, there := fun b o e _ => ?_, tups := fun b xs e => ?_, frzs := fun b o v e => ?_, tbls := fun b ps e => ?_ } ?_ hg (fun b z => absurd z (by simp))
  · rw [upd_ne (ne0 b o e)]
    exact n
  · by_cases hb : b ∈ frs X.stack
    · obtain ⟨sl, q⟩ := fr1 b hb o e
      exact ⟨_, q⟩
    · exact ⟨o, st b o (onG b o e hb)⟩
  · rw [upd_ne (ne_of_none e na)]
    exact e
  · rw [upd_ne (ne_of_none e na)]
    exact e
  · refine ⟨#[], ?_⟩
    rw [upd_ne (ne_of_none e na), e]
    simp
  · exact HOk.laidN ((I.inGround onG).kept st) (fun _ _ z => z) na (exAt_ok he hz hv)
theorem inv_suite0 (I : Inv X pins σ H s) (ea : Addr) : Inv (X.suite ea (X.pn ++ pins)) [] σ H s := by
  refine ⟨I.ok.suite _ _, I.os, I.bare, I.base, I.loc, I.cell, I.free, I.freeC, fun p hp => ?_, I.hok, I.len⟩
  rw [List.append_nil] at hp
  exact I.pin p hp
theorem inv_out0 {ea : Addr} {pn' : List (Addr × Obj)} (I : Inv (X.suite ea (X.pn ++ pins)) pn' σ H s) (ok : X.Ok) : Inv X pins σ H s := by
  refine ⟨ok, I.os, I.bare, I.base, I.loc, I.cell, I.free, I.freeC, fun p hp => ?_, I.hok, I.len⟩
  exact I.pin p (List.mem_append_left _ hp)
end

/-- what the clause wishes of an error of the body: slot i is n's, slot j is m's -/
def wKeep (K : PySem.W.Frag) (c : Value) (i j : Nat) (Wout : WX) (D : Ends) : WX := fun cls d σ H =>
  ∃ b, PySem.W.exmOne K cls c = some b ∧ (b = true → ∀ a, H a = none → D.nx (((σ.set i (some (.ref a))).set j (some (.ref a))).set i none) (upd H a (exAt a cls d))) ∧ (b = false → Wout cls d σ H)

section
variable {X : Cx} {x n m : Str} {c : Value} {i j : Nat} {body : List Stmt} {np p1 p2 p3 pos pos' : Pos} {tb : WX → TS} {Wout : WX}
theorem ps_try_keep (hst : X.stack = X.env :: X.outer) (hf : X.env.frame = some X.env.locals) (hN : X.N.Nodup) (hi : X.N[i]? = some n) (hj : X.N[j]? = some m) (hij : i ≠ j) (li : X.env.kindOf n = some .local) (lj : X.env.kindOf m = some .local) (hc : Names X x c) (tk : Takes X Wout) (hd1 : (n == ("__debug__" : Str)) = false) (hd2 : (n == ("__classdict__" : Str)) = false)
    (hb : ∀ (W : WX) (pn : List (Addr × Obj)) (xe : Value → Shared → Prop), Takes (X.tr pn xe) W → PassesOwn (model X.prog X.w) X.A X.env xe → PSs (X.tr pn xe) body (tb W)) :
    PS X (.Try body [.ExceptHandler (some (.Name x np)) (some n) [.Assign [.Name m p1] (.Name n p2) p3] pos'] [] [] pos) (fun D σ H => tb (wKeep X.K c i j Wout D) D σ H) := by
  refine ⟨fun pins s σ H D I h => ?_⟩
  have ok := I.ok
  have hfr : X.A.frames = some (X.env :: X.outer) := by
    rw [ok.frames]
    exact congrArg some hst
  refine wpAny_Try_except (wpAny_mono ((hb (wKeep X.K c i j Wout D) (X.pn ++ pins) (fun e sA => wpAny (model X.prog X.w) X.A (noteFrame e X.env) (fun _ sB => wpAny (model X.prog X.w) X.A (setFlight e none) (fun _ sC =>
    wpAny (model X.prog X.w) X.A (handleBy e X.env [.ExceptHandler (some (.Name x np)) (some n) [.Assign [.Name m p1] (.Name n p2) p3] pos']) (SP X pins D) X.xe sC) X.xe sB) X.xe sA) (fun u s' xx => ?_) PassesOwn.looking).run [] s σ H D (I.toTry _) h) (fun f s1 hsp => ?_) fun e sE z => z)
  · obtain ⟨ea, gr, s0, pins', σ', H', cls, d, rfl, J', onG, up, sky, na, os, ag, b, hb1, yes, no⟩ := xx
    have J : Inv X pins σ' H' s0 := J'.ofTry ok
    have onG' : ∀ b o, s0.heap.get? b = some o → b ∉ frs X.stack → gr.get? b = some o := onG
    have sky' : Sky gr (X.env :: X.outer) ea (Zc cls d) X.env.locals s'.heap := by
      rw [← hst]
      exact sky
    show wpAny (model X.prog X.w) X.A (noteFrame (.ref ea) X.env) _ _ _
    refine Sky.land Zc.steady hfr hf sky' fun h3 fl3 up3 => ?_
    have J3 : Inv X pins σ' H' { s' with heap := h3 } := J.landed onG' fl3.1 (up.trans up3) os ag
    obtain ⟨o3, v3, e3, z3, d3⟩ := fl3.there
    have noFr : ea ∉ frs X.stack := fun hm => by
      rw [hst] at hm
      obtain ⟨_, o', e', hnf⟩ := fl3.2.2.1.mem hm
      rw [e3] at e'
      cases e'
      exact hnf _ d3
    have n0 : s0.heap.get? ea = none := by
      cases q : s0.heap.get? ea with
      | none => rfl
      | some o =>
        have z := onG' ea o q noFr
        rw [fl3.2.1] at z
        cases z
    have S3 := inv_suite0 J3 ea
    refine wpAny_handleBy_cons (codeAny_handlers_test ?_) (by intro q; cases q)
    have LT : PySem.W.Looks (model X.prog X.w) h3 (typeOf (.ref ea)) cls := fun A Q E s k q => wpAny_typeOf_ref (k _ _ e3) (by rw [z3.1]; exact q)
    have LM := PySem.W.exm_one (M := model X.prog X.w) (J3.kIn) LT hb1
    have look : ∀ {Q : Value → Shared → Prop} {E : Value → Shared → Prop}, Q c { s' with heap := h3 } → wpAny (model X.prog X.w) (X.A.mark (some (.ref ea))) (eval (.Name x np) X.env) Q E { s' with heap := h3 } := fun {Q E} q => by
      obtain ⟨hgl, hdb, ⟨hm⟩ | ⟨hm, hv, hnn⟩⟩ := hc
      · exact ld_glob (X := X.suite ea (X.pn ++ pins)) S3 hgl hm q hdb
      · exact ld_blt (X := X.suite ea (X.pn ++ pins)) S3 hgl hm hv q hnn hdb
    refine look (LM.here ?_)
    cases b with
    | true =>
      refine codeAny_handlers_suite_as (HandSPX.lands_againZ fl3 fun h4 fl4 up4 => ?_)
      obtain ⟨o4, v4, e4, z4, d4⟩ := fl4.there
      have J4 : Inv X pins σ' (upd H' ea (exAt ea cls d)) { s' with heap := h4 } := inv_landX J onG' fl4.1 ((up.trans up3).trans up4) os ag na n0 e4 z4 d4
      have S4 := inv_suite0 J4 ea
      refine store_ok (X := X.suite ea (X.pn ++ pins)) (v := .ref ea) S4 hN hi (.inl li) rfl (fun s5 S5 => ?_) (.inr li)
      have hlen : i < σ'.length := by
        have q := S4.len
        rw [q]
        exact (List.getElem?_eq_some_iff.mp hi).1
      have go : PSs (X.suite ea (X.pn ++ pins)) [.Assign [.Name m p1] (.Name n p2) p3] (tAsg (tVar i) (gName j)) := pss_one (ps_set (i := j) hN hj (.inl lj) (pv i hi (.inl li) hd1 hd2) (by rfl) (.inr lj))
      refine wpAny_mono (go.run [] s5 _ _ { nx := fun σ6 H6 => D.nx (σ6.set i none) H6, rt := fun _ _ => False } S5 ⟨.ref ea, List.getElem?_set_self hlen, yes rfl ea na⟩) (fun f s6 hsp => ?_) fun _ _ z => False.elim z
      cases f with
      | next =>
        obtain ⟨σ6, H6, S6, q6⟩ := hsp
        exact gone_ok (inv_out0 S6 ok) hN hi li fun s7 J7 => ⟨_, _, J7, q6⟩
      | brk =>
        obtain ⟨_, _, _, q6⟩ := hsp
        exact False.elim q6
      | cont =>
        obtain ⟨_, _, _, q6⟩ := hsp
        exact False.elim q6
      | ret u =>
        obtain ⟨_, _, _, _, _, q6⟩ := hsp
        exact False.elim q6
    | false =>
      show wpAny _ X.A (handleBy (.ref ea) X.env []) _ _ _
      refine wpAny_handleBy_nil ?_
      obtain ⟨_, _, _, o5, v5, T5, oT5, t5, he5, hz5, hd5, h15, hr5⟩ := id fl3
      unfold PySem.passOn
      refine wpAny_bind (wpAny_field he5 hd5 h15 ?_)
      rw [if_neg (show ¬ ((Value.ref T5 == Value.none) = true) from by simp)]
      have fin : wpAny (model X.prog X.w) X.A (setFlight (.ref ea) X.env.frame) (fun _ s4 => wpAny (model X.prog X.w) X.A (throw (.ref ea) : Sem Flow) (SP X pins D) X.xe s4) X.xe { s' with heap := h3 } := by
        rw [hf]
        refine HandSPX.setFlight_upZ fl3 fun h4 hh4 up4 => wpAny_throw (tk _ _ ?_)
        refine ⟨ea, gr, s0, pins, σ', H', cls, d, rfl, J, onG', (up.trans up3).trans up4, .inr (.inr ?_), na, os, ag, no rfl⟩
        rw [hst]
        exact hh4
      first
        | exact wpAny_bind (wpAny_pure (wpAny_bind fin))
        | exact wpAny_bind fin
  · cases f with
    | next =>
      obtain ⟨σ', H', J', q⟩ := hsp
      exact wpAny_execs_nil ⟨σ', H', J'.ofTry ok, q⟩
    | brk =>
      obtain ⟨σ', H', J', q⟩ := hsp
      exact ⟨_, _, J'.ofTry ok, q⟩
    | cont =>
      obtain ⟨σ', H', J', q⟩ := hsp
      exact ⟨_, _, J'.ofTry ok, q⟩
    | ret u =>
      obtain ⟨v, σ', H', J', r, q⟩ := hsp
      exact ⟨_, _, _, J'.ofTry ok, r, q⟩
end
end PI
/-! PI10: from the text to the small language. -/
namespace PI
open PySem PySem.Spec PyProof.Rows L2

/-! ### two more of expressions -/
section
variable {T : Tb} {Φ : Phi} {X : Cx} {pos : Pos} {a b c : Expr} {ia ib ic : IE}
variable {kf : Str → List Str → Option (List Nat)}
theorem ty_call0 {x : Str} {np : Nat} {p : Pos} (hf : Callee T Φ kf X x np) (hg : Gl X x) (hdb : (x == ("__debug__" : Str)) = false) : TyE T Φ X (.Call (.Name x p) [] [] pos) (.call x []) := by
  intro ρ μ σ H F A r Q E tk s er e po
  obtain ⟨fa, hm, hk, run, _⟩ := hf.at
  simp only [evE, evL] at e
  intro pins st I
  refine wpAny_Call_Name_kw (ld_glob I hg hm ?_ hdb)
  exact PySem.W.callWith_K0 I.kIn hk (run [] [] .nil pins σ H st Q E tk I ⟨by rw [← hf.len _ _ _ e]; rfl, [], μ, F, A, r, .nil, s, e, po⟩)
/-- the values of keywords -/
def wK (X : Cx) (kws : List Keyword) : TA := fun σ H Q => ∀ (pos : Pos) (pins : List (Addr × Obj)) (s : Shared), Inv X pins σ H s → wpAny (model X.prog X.w) X.A (evalAll ((backToKw pos (keywordEach kws X.env)).map (·.2))) (AP X pins σ Q) X.xe s
theorem pk_w {kws : List Keyword} : PK X kws (wK X kws) := ⟨fun pos pins s σ H Q I h => h pos pins s I⟩
theorem wK_of {kws : List Keyword} {t : TA} (h : PK X kws t) {σ : L2.St} {H : Hp} {Q : List V → Hp → Prop} (q : t σ H Q) : wK X kws σ H Q := fun pos pins s I => h.run pos pins s σ H Q I q
def TyK (T : Tb) (Φ : Phi) (X : Cx) (kws : List Keyword) (is : List IE) : Prop := ∀ (ρ : Env) (μ : Mu) (σ : L2.St) (H F : Hp) (A : List Addr) (r : X1 (List W)) (Q : List V → Hp → Prop) (E : WX),
  Takes X E → SRel T μ H F A → ERel T ρ σ F A → evL Φ is ρ μ = some r → PostL T F A Q (fun c d h => E c d σ h) r → wK X kws σ H Q
theorem TyK.then {α β : Type} {es : List Keyword} {is : List IE} (h : TyK T Φ X es is) {rep : Hp → List Addr → α → β → Prop} {f : List W → Mu → R α} {r : X1 α} {ρ : Env} {μ : Mu} {σ : L2.St} {H F : Hp} {A : List Addr} {Q : List V → Hp → Prop} {Q2 : β → Hp → Prop} {E : WX}
    (tk : Takes X E) (s : SRel T μ H F A) (er : ERel T ρ σ F A) (e : (evL Φ is ρ μ).bind f = some r) (p : Post T rep F A Q2 (fun c d h => E c d σ h) r)
    (hQ : ∀ w μ1 v H1 F1 A1, Ext F A F1 A1 → SRel T μ1 H1 F1 A1 → ERel T ρ σ F1 A1 → RepWs T F1 A1 w v → f w μ1 = some r → Post T rep F1 A1 Q2 (fun c d h => E c d σ h) r → Q v H1) : wK X es σ H Q := by
  rcases bind_some e with ⟨d, m, e1, rfl⟩ | ⟨w, m, e1, e2⟩
  · exact h ρ μ σ H F A _ Q E tk s er e1 p
  · exact h ρ μ σ H F A _ Q E tk s er e1 fun v H1 F1 A1 x s1 r1 => hQ w m v H1 F1 A1 x s1 (er.mono x) r1 e2 (p.mono x)
theorem tk_nil : TyK T Φ X [] [] := by
  intro ρ μ σ H F A r Q E tk s er e p
  simp only [evL] at e
  cases e
  exact wK_of pk_nil (p [] H F A (.refl F A) s .nil)
theorem tk_cons {nm : Option Str} {kpos : Pos} {es : List Keyword} {is : List IE} (h : TyE T Φ X a ia) (t : TyK T Φ X es is) : TyK T Φ X (⟨nm, a, kpos⟩ :: es) (ia :: is) := by
  intro ρ μ σ H F A r Q E tk s er e p
  simp only [evL] at e
  refine wK_of (pk_cons pe_w pk_w) ?_
  refine h.then tk s er e p fun w μ1 v H1 F1 A1 x s1 er1 r1 e1 p1 => ?_
  refine t.then tk s1 er1 e1 p1 fun ws μ2 vs H2 F2 A2 x2 s2 er2 r2 e2 p2 => ?_
  cases e2
  exact p2 (v :: vs) H2 F2 A2 (.refl _ _) s2 (.cons (r1.mono x2) r2)
theorem paired_get {α β : Type} {R : α → β → Prop} : ∀ {xs : List α} {ys : List β} {i : Nat} {x : α}, Paired R xs ys → xs[i]? = some x → ∃ y, ys[i]? = some y ∧ R x y
  | [], _, i, x, h, e => by simp at e
  | a :: xs, _, i, x, .cons h t, e => by
    cases i with
    | zero => simp at e; subst e; exact ⟨_, by simp, h⟩
    | succ i =>
      obtain ⟨y, h1, h2⟩ := paired_get t (i := i) (by simpa using e)
      exact ⟨y, by simpa using h1, h2⟩
theorem permL_rep {F : Hp} {A : List Addr} : ∀ {pm : List Nat} {ws us : List W} {vs : List V}, RepWs T F A ws vs → permL pm ws = some us → ∃ zs, permL pm vs = some zs ∧ RepWs T F A us zs
  | [], ws, us, vs, r, e => by
    simp only [permL] at e
    cases e
    exact ⟨[], rfl, .nil⟩
  | i :: pm, ws, us, vs, r, e => by
    simp only [permL] at e
    split at e
    · rename_i w l h1 h2
      cases e
      obtain ⟨v, h3, h4⟩ := paired_get r h1
      obtain ⟨zs, h5, h6⟩ := permL_rep r h2
      exact ⟨v :: zs, by simp only [permL, h3, h5], .cons h4 h6⟩
    · cases e
theorem evL_len : ∀ {is : List IE} {ρ : Env} {μ m : Mu} {ws : List W}, evL Φ is ρ μ = some (.ok ws m) → ws.length = is.length
  | [], ρ, μ, m, ws, e => by
    simp only [evL] at e
    cases e
    rfl
  | i :: is, ρ, μ, m, ws, e => by
    simp only [evL] at e
    rcases bind_some e with ⟨d, m1, e1, z⟩ | ⟨w, m1, e1, e2⟩
    · cases z
    · rcases bind_some e2 with ⟨d, m2, e3, z⟩ | ⟨us, m2, e3, e4⟩
      · cases z
      · cases e4
        simp [evL_len e3]
theorem ty_callK {x : Str} {np : Nat} {p : Pos} {kws : List Keyword} {is : List IE} {ks : List Str} {pm : List Nat} (hf : Callee T Φ kf X x np) (hkf : kf x ks = some pm) (hg : Gl X x) (hs : TyK T Φ X kws is) (hdb : (x == ("__debug__" : Str)) = false)
    (hall : (backToKw pos (keywordEach kws X.env)).all (·.1.isSome) = true) (hks : (backToKw pos (keywordEach kws X.env)).filterMap (·.1) = ks) (hlen : is.length = ks.length)
    (hpl : ((backTo pos (starEach [] X.env)).any (·.1) || (backToKw pos (keywordEach kws X.env)).any (·.1.isNone)) = false) : TyE T Φ X (.Call (.Name x p) [] kws pos) (.callK x pm is) := by
  intro ρ μ σ H F A r Q E tk s er e po
  obtain ⟨fa, hm, hk, _, run⟩ := hf.at
  simp only [evE] at e
  intro pins st I
  refine wpAny_Call_Name_kw (ld_glob I hg hm ?_ hdb)
  refine PySem.W.callWith_KW0 (h₀ := X.base) I.ok.mod.kin hk hall ?_ hpl
  have go : wK X kws σ H (fun zs H1 => zs.length = ks.length ∧ ∃ vs, permL pm zs = some vs ∧ spF T Φ x np vs H1 Q (fun c d h => E c d σ h)) := by
    rcases bind_some e with ⟨d, m, e1, rfl⟩ | ⟨ws, m, e1, e2⟩
    · exact hs ρ μ σ H F A _ _ E tk s er e1 po
    · refine hs ρ μ σ H F A _ _ E tk s er e1 fun vs H1 F1 A1 x1 s1 r1 => ?_
      split at e2
      · cases e2
      · rename_i us hus
        obtain ⟨zs, h1, h2⟩ := permL_rep r1 hus
        refine ⟨?_, zs, h1, by rw [← Paired.length h2]; exact hf.len _ _ _ e2, us, m, F1, A1, r, h2, s1, e2, po.mono x1⟩
        rw [← hlen, ← Paired.length r1]
        exact evL_len e1
  refine wpAny_mono (go pos pins st I) (fun us s1 hh => ?_) fun _ _ z => z
  obtain ⟨zs, H1, I1, rv, hl, vs, hp, q⟩ := hh
  rw [hks]
  exact ⟨I1.kIn, run ks pm us zs vs hkf rv hl hp pins σ H1 s1 Q E tk I1 q⟩
theorem ty_pop0 {o : Expr} {io : IE} {apos : Pos} (ho : TyE T Φ X o io) (hbase : attributeBase o "pop" X.env (eval o X.env) = eval o X.env) (hline : (apos.endLine == pos.line) = true) : TyE T Φ X (.Call (.Attribute o "pop" apos) [] [] pos) (.pop0 io) := by
  intro ρ μ σ H F A r Q E tk s er e p
  simp only [evE] at e
  refine wE_of (pe_bm0 PySem.F.plainAttrs_list PySem.F.slot_list_pop PySem.F.type_list_pop mt_pop pe_w hbase hline) (ho.then tk s er e p fun wo μ1 vo H1 F1 A1 x1 s1 er1 r1 e1 p1 => ?_)
  cases wo with
  | d y => cases e1
  | r k =>
    simp only at e1
    split at e1
    · rename_i xs hxs
      split at e1
      · rename_i y hy
        cases e1
        obtain ⟨ad, hA, rfl⟩ := r1
        obtain ⟨hF, vs, hH, rvs⟩ := s1.obj k ad _ hA hxs
        obtain ⟨v, hv, rv⟩ := rvs.get hy
        rw [rvs.len] at hv
        refine ⟨.inl ⟨rfl, vs, .of hH⟩, ad, vs, v, rfl, rfl, hH, hv, ?_⟩
        have dl : Reps T F1 xs.dropLast vs.dropLast := by
          rw [List.dropLast_eq_take, List.dropLast_eq_take, ← rvs.len]
          exact rvs.take _
        have s5 := s1.write (o := .lst vs.dropLast) (ob' := .lst xs.dropLast) hA hxs (fun x z => nomatch z) ⟨hF, _, upd_same, dl⟩
        exact p1 v _ F1 A1 (.refl _ _) s5 rv
      · cases e1
    · cases e1
theorem ty_pop1 {o i : Expr} {io ii : IE} {apos : Pos} (ho : TyE T Φ X o io) (hi : TyE T Φ X i ii) (hbase : attributeBase o "pop" X.env (eval o X.env) = eval o X.env) (hline : (apos.endLine == pos.line) = true)
    (he : starEach (i :: []) X.env = (false, eval i X.env) :: starEach [] X.env) (hfew : ((backTo pos (starEach (i :: []) X.env)).all (fun x => !x.1) && (backToKw pos (keywordEach [] X.env)).all (fun x => x.1.isSome)
      && decide ((i :: []).length + ([] : List Keyword).length + (if ([] : List Keyword).isEmpty then 0 else 1) < 30)) = true) : TyE T Φ X (.Call (.Attribute o "pop" apos) [i] [] pos) (.pop1 io ii) := by
  intro ρ μ σ H F A r Q E tk s er e p
  simp only [evE] at e
  refine wE_of (pe_bm PySem.F.plainAttrs_list PySem.F.slot_list_pop PySem.F.type_list_pop mt_popAt pe_w (pa_cons pe_w pa_nil he) hbase hfew hline he (by rfl)) (ho.then tk s er e p fun wo μ1 vo H1 F1 A1 x1 s1 er1 r1 e1 p1 => ?_)
  cases wo with
  | d y => cases e1
  | r k =>
    simp only at e1
    split at e1
    · rename_i xs0 hx0
      obtain ⟨ad, hA, rfl⟩ := r1
      obtain ⟨_, vs0, hH0, _⟩ := s1.obj k ad _ hA hx0
      refine ⟨.inl ⟨rfl, vs0, .of hH0⟩, ?_⟩
      refine hi.then tk s1 er1 e1 p1 fun u μ2 v2 H2 F2 A2 x2 s2 er2 r2 e2 p2 => ?_
      split at e2
      · rename_i j xs hxs
        split at e2
        · rename_i hz
          split at e2
          · rename_i n hn
            split at e2
            · rename_i y hy
              cases e2
              obtain ⟨B, rfl⟩ := x2.pre
              have hA2 : (A1 ++ B)[k]? = some ad := by rw [List.getElem?_append_left (List.getElem?_eq_some_iff.mp hA).1]; exact hA
              obtain ⟨hF, vs, hH, rvs⟩ := s2.obj k ad _ hA2 hxs
              simp only [RepW, Rep] at r2
              subst r2
              obtain ⟨v, hv, rv⟩ := rvs.get hy
              rw [rvs.len] at hn
              refine ⟨ad, vs, j, n, v, rfl, rfl, hH, hz.1, hz.2, (ixN_seq hn).1, hv, ?_⟩
              have s5 := s2.write (o := .lst (vs.eraseIdx n)) (ob' := .lst (xs.eraseIdx n)) hA2 hxs (fun x z => nomatch z) ⟨hF, _, upd_same, rvs.erase n⟩
              exact p2 v _ F2 _ (.refl _ _) s5 rv
            · cases e2
          · cases e2
        · cases e2
      · cases e2
    · cases e1
theorem c_min2 (hc : X.calm = true) : OpC T X (.builtin "min") .min2 := by
  intro pins s σ H xs us Q I r h
  obtain ⟨F, ds, d, sF, p, e, q⟩ := h
  match ds, p, e with
  | [.int i, .int j], p, e =>
    obtain ⟨x, y, rfl, rx, ry⟩ := p2 p
    simp only [sem] at e
    cases e
    cases rx.int; cases ry.int
    exact call_min2 hc pins s σ H _ us Q I r ⟨_, _, rfl, q.int sF⟩
theorem c_max2 (hc : X.calm = true) : OpC T X (.builtin "max") .max2 := by
  intro pins s σ H xs us Q I r h
  obtain ⟨F, ds, d, sF, p, e, q⟩ := h
  match ds, p, e with
  | [.int i, .int j], p, e =>
    obtain ⟨x, y, rfl, rx, ry⟩ := p2 p
    simp only [sem] at e
    cases e
    cases rx.int; cases ry.int
    exact call_max2 hc pins s σ H _ us Q I r ⟨_, _, rfl, q.int sF⟩
end

/-! ### what is known of a place of the text -/
structure Cc where
  N : List Str
  sc : Scope
  fnb : Str → Bool
  mv : List Str
  own : Str → Option Nat
  cst : Str → Option D
  keep : Bool
  kf : Str → List Str → Option (List Nat)
  cls : Str → Option (List Str)
  mkr : Str → Bool

def relab (scope sc : Scope) : Scope :=
  { scope with names := scope.names.map fun (n, k) => if (k == .free && sc.kind == .function && sc.names.lookup n == some .cell) then (n, .cell) else (n, k) }
def Cc.blk (cc : Cc) (scope : Scope) : Cc := { cc with sc := relab scope cc.sc, fnb := fun x => scope.names.lookup x == some .cell }

/-- the built-in names that are used -/
def bltNames : List Str := ["len", "list", "tuple", "int", "abs", "all", "any", "min", "max", "isinstance", "range", "enumerate", "zip", "bool", "str", "dict"]
/-- what is known of every class of errors -/
structure ErrC (K : PySem.W.Frag) (C : Addr) (fs : List Str) : Prop where
  xf : XfC K C
  no : ∀ f ∈ fs, PySem.W.findIn K (.ref C) f = some none
def fieldNames : List Str := ["place", "piece", "number", "name", "answer"]
/-- a class by its name, as isinstance and except take it: l are the classes of errors under it -/
structure ClsOk (T : Tb) (X : Cx) (x : Str) (l : List Str) : Prop where
  ex : ∃ cv : Value, (X.mg x = some cv ∨ (X.mg x = none ∧ bootBuiltins x = some cv ∧ x ≠ "__name__")) ∧ (∃ v, RelV v cv ∧ ∀ u, RelV v u → u = cv) ∧ (∀ t ∈ ["NoneType", "bool", "int", "str", "tuple", "list"], PySem.W.kitOne X.K (.type t) cv = some false) ∧
    ∀ c C, T.ca c = some C → ExcC X.K C ∧ PySem.W.kitOne X.K (.ref C) cv = some (l.contains c) ∧ PySem.W.exmOne X.K (.ref C) cv = some (l.contains c)
/-- what is to be shown of an error that is made -/
def PostM (T : Tb) (F : Hp) (A : List Addr) (Q : XK) (E : XK) : X1 W → Prop
  | .ok w μ' => ∃ d, w = .d d ∧ ∀ cls dd H' F' A', Ext F A F' A' → SRel T μ' H' F' A' → XRep T F' d cls dd → Q cls dd H'
  | .er d μ' => ∀ cls dd H' F' A', Ext F A F' A' → SRel T μ' H' F' A' → XRep T F' d cls dd → E cls dd H'
def spM (T : Tb) (Φ : Phi) (x : Str) : List V → Hp → XK → XK → Prop := fun vs H Q E => ∃ ws μ F A r, RepWs T F A ws vs ∧ SRel T μ H F A ∧ Φ x ws μ = some r ∧ PostM T F A Q E r
def MakeAt (T : Tb) (Φ : Phi) (X : Cx) (C : Addr) (x : Str) (us : List Value) (kw : List (Str × Value)) (vs : List V) : Prop := ∀ (pins : List (Addr × Obj)) (σ : L2.St) (H : Hp) (s : Shared) (Q : XK) (E : WX),
  Takes X E → Inv X pins σ H s → spM T Φ x vs H Q (fun c d h => E c d σ h) → wpAny (model X.prog X.w) X.A (call (.ref C) us kw) (MkP X pins σ Q) X.xe s
/-- a class of errors: what a call of it makes -/
structure Maker (T : Tb) (Φ : Phi) (kf : Str → List Str → Option (List Nat)) (X : Cx) (x : Str) : Prop where
  ex : ∃ C k, X.mg x = some (.ref C) ∧ PySem.W.keepIn X.K (.ref C) = true ∧ Room k X.A ∧ ∀ Y, Sim X Y → Room k Y.A → (∀ us vs, Vals vs us → MakeAt T Φ Y C x us [] vs) ∧
    ∀ ks pm ws zs vs, kf x ks = some pm → Vals zs ws → zs.length = ks.length → permL pm zs = some vs → MakeAt T Φ Y C x [] (ks.zip ws) vs
theorem Maker.sim {T : Tb} {Φ : Phi} {kf : Str → List Str → Option (List Nat)} {X Y : Cx} {x : Str} (h : Maker T Φ kf X x) (e : Sim X Y) (hA : ∀ k, Room k X.A → Room k Y.A) : Maker T Φ kf Y x := by
  obtain ⟨C, k, h1, h2, h3, h4⟩ := h.ex
  exact ⟨C, k, by rw [e.mg]; exact h1, by rw [e.K]; exact h2, hA k h3, fun Z z hz => h4 Z (e.trans z) hz⟩
theorem ClsOk.sim {T : Tb} {X Y : Cx} {x : Str} {l : List Str} (h : ClsOk T X x l) (e : Sim X Y) : ClsOk T Y x l := by
  obtain ⟨cv, h1, h2, h3, h4⟩ := h.ex
  refine ⟨cv, by rw [e.mg]; exact h1, h2, ?_, ?_⟩
  · rw [e.K]
    exact h3
  · rw [e.K]
    exact h4
structure CtxOk (T : Tb) (Φ : Phi) (cc : Cc) (X : Cx) : Prop where
  K : X.K = T.K
  N : X.N = cc.N
  nd : X.N.Nodup
  sc : X.env.scope = cc.sc
  fn : ∀ x, X.fn x = cc.fnb x
  calm : X.calm = true
  un : X.A.units + 65 < cLine
  blt : ∀ x ∈ bltNames, X.mg x = none
  own : ∀ x n, cc.own x = some n → Callee T Φ cc.kf X x n
  cst : ∀ x d, cc.cst x = some d → ∃ u v, X.mg x = some u ∧ RelV v u ∧ ∀ F, Rep T F d v
  cls : ∀ x l, cc.cls x = some l → ClsOk T X x l
  mkr : ∀ x, cc.mkr x = true → Maker T Φ cc.kf X x
  err : ∀ c C, T.ca c = some C → ErrC X.K C fieldNames
theorem CtxOk.blk {T : Tb} {Φ : Phi} {cc : Cc} {X : Cx} (h : CtxOk T Φ cc X) (scope : Scope) (s : Shared) (H : Hp) (C : Addr) (cl : List (Str × Addr)) (fp : List Addr) : CtxOk T Φ (cc.blk scope) (X.blk s H scope (compEnvC scope cl C X.env) fp) where
  K := h.K
  N := h.N
  nd := h.nd
  sc := by
    show relabel scope X.env = relab scope cc.sc
    rw [← h.sc]
    rfl
  fn := fun x => rfl
  calm := h.calm
  un := h.un
  blt := h.blt
  own := fun x n hx => (h.own x n hx).sim ⟨rfl, rfl, rfl, rfl, rfl⟩ fun _ z => z
  cst := h.cst
  cls := fun x l hx => (h.cls x l hx).sim ⟨rfl, rfl, rfl, rfl, rfl⟩
  err := h.err
  mkr := fun x hx => (h.mkr x hx).sim ⟨rfl, rfl, rfl, rfl, rfl⟩ fun _ z => z

def okName (x : Str) : Bool := !(x == ("__debug__" : Str)) && !(x == ("__classdict__" : Str)) && !(x == ("__name__" : Str))
def visB (cc : Cc) (x : Str) : Bool := match cc.sc.names.lookup x with
  | some .local => true | some .cell => true | some .free => true | _ => false
def glB (cc : Cc) (x : Str) : Bool := cc.sc.names.lookup x == some .globalImplicit
/-- a name may be stored -/
def locB (cc : Cc) (x : Str) : Bool := (cc.sc.names.lookup x == some .local) || (cc.sc.names.lookup x == some .cell && cc.fnb x)
def ixOf (cc : Cc) (x : Str) : Option Nat := cc.N.findIdx? (· == x)
theorem ixOf_ok {cc : Cc} {x : Str} {i : Nat} (h : ixOf cc x = some i) : cc.N[i]? = some x := by
  unfold ixOf at h
  obtain ⟨h1, h2, _⟩ := List.findIdx?_eq_some_iff_getElem.mp h
  rw [List.getElem?_eq_getElem h1]
  simp at h2
  rw [h2]
section
variable {T : Tb} {Φ : Phi} {cc : Cc} {X : Cx}
theorem CtxOk.vis (h : CtxOk T Φ cc X) {x : Str} (hv : visB cc x = true) : Vis X.env.scope x := by
  unfold visB at hv
  rw [← h.sc] at hv
  unfold Vis
  split at hv <;> simp_all
theorem CtxOk.gl (h : CtxOk T Φ cc X) {x : Str} (hv : glB cc x = true) : Gl X x := by
  unfold glB at hv
  rw [← h.sc] at hv
  have z : X.env.scope.names.lookup x = some .globalImplicit := by simpa using hv
  exact z
theorem CtxOk.loc (h : CtxOk T Φ cc X) {x : Str} (hv : locB cc x = true) : L2.Loc X.env.scope x ∧ (X.fn x = true ∨ X.env.scope.names.lookup x = some .local) := by
  unfold locB at hv
  rw [← h.sc, ← h.fn] at hv
  unfold L2.Loc
  rcases Bool.or_eq_true_iff.mp hv with z | z
  · have z : X.env.scope.names.lookup x = some .local := by simpa using z
    exact ⟨.inl z, .inr z⟩
  · obtain ⟨z1, z2⟩ := Bool.and_eq_true_iff.mp z
    exact ⟨.inr (by simpa using z1), .inl z2⟩
theorem okName_ok {x : Str} (h : okName x = true) : (x == ("__debug__" : Str)) = false ∧ (x == ("__classdict__" : Str)) = false ∧ x ≠ "__name__" := by
  unfold okName at h
  simp only [Bool.and_eq_true, Bool.not_eq_true'] at h
  exact ⟨h.1.1, h.1.2, fun e => by rw [e] at h; simp at h⟩
end

/-! ### the forms of expressions -/
def plainB : Expr → Bool
  | .Starred .. => false
  | _ => true
theorem plain_star {e : Expr} (h : plainB e = true) (rest : List Expr) (env : PySem.Env) : starEach (e :: rest) env = (false, eval e env) :: starEach rest env := by
  cases e <;> first | rfl | (simp [plainB] at h)
theorem plain_any : ∀ {es : List Expr} {env : PySem.Env} {pos : Pos}, es.all plainB = true → (backTo pos (starEach es env)).any (·.1) = false
  | [], _, _, _ => rfl
  | e :: es, env, pos, h => by
    simp only [List.all_cons, Bool.and_eq_true] at h
    rw [plain_star h.1]
    have ih := plain_any (env := env) (pos := pos) h.2
    show (false || (backTo pos (starEach es env)).any (·.1)) = false
    rw [ih]
    rfl
theorem plain_all : ∀ {es : List Expr} {env : PySem.Env} {pos : Pos}, es.all plainB = true → (backTo pos (starEach es env)).all (fun x => !x.1) = true
  | [], _, _, _ => rfl
  | e :: es, env, pos, h => by
    simp only [List.all_cons, Bool.and_eq_true] at h
    rw [plain_star h.1]
    have ih := plain_all (env := env) (pos := pos) h.2
    show (!false && (backTo pos (starEach es env)).all (fun x => !x.1)) = true
    rw [ih]
    rfl
/-- its test is its value's truth -/
def valB : Expr → Bool
  | .UnaryOp .Not .. => false
  | .BoolOp .. => false
  | .IfExp .. => false
  | .Compare .. => false
  | _ => true
theorem valB_ok {e : Expr} {env : PySem.Env} (h : valB e = true) : ∀ whole, isTrue e env whole = (do let v ← whole; standAt e.pos; holding [v] (truthy v)) := by
  intro whole
  cases e <;> first | rfl | (simp [valB] at h; done) | skip
  case UnaryOp op o p => cases op <;> first | rfl | (simp [valB] at h)
def ixB : Expr → Bool
  | .Slice .. => false
  | _ => true
theorem ixB_ok {e : Expr} (h : ixB e = true) : PlainIx e := by
  intro o i
  cases e <;> first | rfl | (simp [ixB] at h)
def attB : Expr → Bool
  | .Call (.Name id _) [] [] _ => id != ("super" : Str)
  | _ => true
theorem attB_ok {e : Expr} (h : attB e = true) (f : Str) (env : PySem.Env) : attributeBase e f env (eval e env) = eval e env := by
  unfold attB at h
  split at h
  · rename_i id p q
    exact abase_call h
  · rename_i hne
    unfold attributeBase
    split
    · rename_i id p q
      exact absurd rfl (hne id p q)
    · rfl
def swB : Expr → Bool
  | .ListComp .. => false
  | .SetComp .. => false
  | .DictComp .. => false
  | _ => true
theorem swB_ok {e : Expr} (h : swB e = true) (t : Option Expr) (l : Nat) (env : PySem.Env) : swapsWith e t l env = pure false := by
  cases e <;> first | rfl | (simp [swB] at h)
def foldB : Expr → Bool
  | .Set .. => false
  | _ => true
theorem foldB_ok {e : Expr} (h : foldB e = true) (env : PySem.Env) : ∀ x, foldedSetIterable e env x = pure x := by
  intro x
  cases e <;> first | rfl | (simp [foldB] at h)
def markB : Expr → Bool := foldB
theorem markB_ok {e : Expr} (h : markB e = true) (op : CmpOp) : behindInMarks op e = false := by
  cases e <;> first | rfl | (simp [markB, foldB] at h)

/-! ### the translation -/
def bop : Operator → Option Op
  | .Add => some .add | .Sub => some .sub | .Mult => some .mul | .FloorDiv => some .fdiv | .Mod => some .mod | .Pow => some .pow
  | _ => none
def cop : CmpOp → Option Op
  | .Eq => some .eq | .NotEq => some .ne | .Lt => some .lt | .LtE => some .le | .Gt => some .gt | .GtE => some .ge | .In => some .in_ | .NotIn => some .notin
  | _ => none
def bltT : Str → Option Op := fun x => if x = "len" then some .len else if x = "list" then some .list else if x = "tuple" then some .tuple else if x = "int" then some .int else if x = "abs" then some .abs
  else if x = "all" then some .all else if x = "any" then some .any else if x = "min" then some .min2 else if x = "max" then some .max2 else none
def compName (cc : Cc) (x : Str) : Option IE := if okName x = true then (if visB cc x = true then (ixOf cc x).map .var else if glB cc x = true then (cc.cst x).map .cst else none) else none
def compConst : Const → Option IE
  | .int i => some (.cst (.int i))
  | .str s => some (.cst (.str s))
  | .bool b => some (.cst (.bl b))
  | .none => some (.cst .non)
  | _ => none
def compBool (f : Expr → Option IE) (op : BoolOp) : List Expr → Option IE
  | [] => none
  | [a] => f a
  | a :: b :: r => match f a, compBool f op (b :: r) with
    | some ia, some ib => some (match op with | .And => .and ia ib | .Or => .or ia ib)
    | _, _ => none
def compL (f : Expr → Option IE) : List Expr → Option (List IE)
  | [] => some []
  | a :: r => match f a, compL f r with
    | some ia, some ir => if plainB a = true then some (ia :: ir) else none
    | _, _ => none
def compCmp (f : Expr → Option IE) (a : Expr) (op : CmpOp) (b : Expr) : Option IE :=
  match cop op with
  | some o => match f a, f b with
    | some ia, some ib => if markB b = true then some (.op o [ia, ib]) else none
    | _, _ => none
  | none => match op, b with
    | .Is, .Constant .none _ _ => (f a).map fun i => .op .isN [i]
    | .IsNot, .Constant .none _ _ => (f a).map fun i => .op .isnotN [i]
    | _, _ => none
def tysB (cc : Cc) (l : List (Str × Ty)) : Bool := l.all fun p => glB cc p.1
def compIsi (cc : Cc) (f : Expr → Option IE) (a t : Expr) : Option IE :=
  match t with
  | .Name y _ => match tyS y with
    | some ty => match f a with
      | some ia => if (glB cc y && plainB a && (bltNames.contains y)) = true then some (.op (.isi [ty]) [ia]) else none
      | none => none
    | none => match cc.cls y, f a with
      | some l, some ia => if (glB cc y && plainB a && okName y) = true then some (.op (.isx l) [ia]) else none
      | _, _ => none
  | .Tuple es _ _ => match tyNames es, f a with
    | some l, some ia => if (tysB cc l && plainB a && (l.all fun p => bltNames.contains p.1) && !l.isEmpty && decide (l.length ≤ 100)) = true then some (.op (.isi (l.map (·.2))) [ia]) else none
    | _, _ => none
  | _ => none
def compCall (cc : Cc) (f : Expr → Option IE) (x : Str) (as : List Expr) : Option IE :=
  if (okName x && glB cc x) = true then
    if x = "isinstance" then match as with
      | [a, t] => compIsi cc f a t
      | _ => none
    else match bltT x with
      | some o => match as with
        | [] => none
        | a :: r => (compL f (a :: r)).map (.op o)
      | none => match cc.own x with
        | some _ => (compL f as).map (.call x)
        | none => none
  else none
def kwNames : List Keyword → Option (List Str)
  | [] => some []
  | ⟨some n, _, _⟩ :: r => (kwNames r).map (n :: ·)
  | _ => none
def compKs (f : Expr → Option IE) : List Keyword → Option (List IE)
  | [] => some []
  | ⟨_, e, _⟩ :: r => match f e, compKs f r with
    | some i, some l => some (i :: l)
    | _, _ => none
def compCallK (cc : Cc) (f : Expr → Option IE) (x : Str) (kws : List Keyword) : Option IE :=
  if (okName x && glB cc x && (cc.own x).isSome) = true then match kwNames kws with
    | some ks => match cc.kf x ks, compKs f kws with
      | some pm, some is => some (.callK x pm is)
      | _, _ => none
    | none => none
  else none
def compMeth (f : Expr → Option IE) (o : Expr) (m : Str) (apos : Pos) (as : List Expr) (pos : Pos) : Option IE :=
  if (attB o && (apos.endLine == pos.line)) = true then
    if m = "pop" then match as with
      | [] => (f o).map .pop0
      | [i] => match f o, f i with
        | some io, some ii => if plainB i = true then some (.pop1 io ii) else none
        | _, _ => none
      | _ => none
    else none
  else none
def compO (f : Expr → Option IE) : Option Expr → Option (Bool × IE)
  | none => some (false, .cst .non)
  | some e => (f e).map fun i => (true, i)
def compIter (cc : Cc) (f : Expr → Option IE) (e : Expr) (tup : Bool) : Option IT :=
  if foldB e = true then
    match e with
    | .Call (.Name x _) as [] _ =>
      if (glB cc x && okName x) = true then
        if x = "range" then match as with
          | [a] => if plainB a = true then (f a).map .rng1 else none
          | [a, b] => match f a, f b with
            | some ia, some ib => if (plainB a && plainB b) = true then some (.rng2 ia ib) else none
            | _, _ => none
          | _ => none
        else if x = "enumerate" then match as with
          | [a] => if (plainB a && tup) = true then (f a).map .enu else none
          | _ => none
        else if x = "zip" then match as with
          | [a, b] => match f a, f b with
            | some ia, some ib => if (plainB a && plainB b && tup) = true then some (.zip ia ib) else none
            | _, _ => none
          | _ => none
        else (f e).map .seq
      else none
    | e => (f e).map .seq
  else none
def namesOf : List Expr → Option (List Str)
  | [] => some []
  | .Name x _ :: r => (namesOf r).map (x :: ·)
  | _ => none
def slotsOf (cc : Cc) : List Str → Option (List Nat)
  | [] => some []
  | x :: r => if locB cc x = true then match ixOf cc x, slotsOf cc r with
    | some i, some l => some (i :: l)
    | _, _ => none else none
def compTg (cc : Cc) : Expr → Option Tg
  | .Name x _ => (slotsOf cc [x]).map fun l => .one (l.headD 0)
  | .Tuple es _ _ => match namesOf es with
    | some xs => (slotsOf cc xs).map .tup
    | none => none
  | _ => none
def tgNames : Expr → List Str
  | .Name x _ => [x]
  | .Tuple es _ _ => (namesOf es).getD []
  | _ => []
def isTup : Expr → Bool
  | .Tuple .. => true
  | _ => false
/-- the own names of a comprehension with their slots -/
def ownOf (cc : Cc) : List Str → Option (List (Str × Nat))
  | [] => some []
  | x :: r => match ixOf cc x, ownOf cc r with
    | some i, some l => some ((x, i) :: l)
    | _, _ => none
def compE : Nat → Cc → Expr → Option IE
  | 0, _, _ => none
  | n + 1, cc, e => match e with
    | .Name x _ => compName cc x
    | .Constant k _ _ => compConst k
    | .BinOp a op b _ => match bop op, compE n cc a, compE n cc b with
      | some o, some ia, some ib => some (.op o [ia, ib])
      | _, _, _ => none
    | .UnaryOp .USub a _ => (compE n cc a).map fun i => .op .neg [i]
    | .UnaryOp .Not a _ => (compE n cc a).map fun i => .op .not [i]
    | .BoolOp op vs _ => compBool (compE n cc) op vs
    | .Compare a [op] [b] _ => compCmp (compE n cc) a op b
    | .IfExp c a b _ => match compE n cc c, compE n cc a, compE n cc b with
      | some ic, some ia, some ib => some (.ite ic ia ib)
      | _, _, _ => none
    | .Call (.Name x _) as [] _ => compCall cc (compE n cc) x as
    | .Call (.Name x _) [] (k :: kws) _ => compCallK cc (compE n cc) x (k :: kws)
    | .Attribute o m _ => if (fieldNames.contains m && attB o) = true then (compE n cc o).map (.fld m) else none
    | .Call (.Attribute o m apos) as [] pos => compMeth (compE n cc) o m apos as pos
    | .Subscript a (.Slice lo hi none _) _ => match compE n cc a, compO (compE n cc) lo, compO (compE n cc) hi with
      | some ia, some l, some h => some (.sl l.1 h.1 ia l.2 h.2)
      | _, _, _ => none
    | .Subscript a b _ => match compE n cc a, compE n cc b with
      | some ia, some ib => if ixB b = true then some (.op .ix [ia, ib]) else none
      | _, _ => none
    | .Tuple es _ _ => (compL (compE n cc) es).map .tup
    | .List es _ => (compL (compE n cc) es).map .lst
    | .ListComp e [⟨tg, it, cs, 0⟩] scope _ => match ownOf cc (tgNames tg), compIter cc (compE n cc) it (isTup tg), compTg (cc.blk scope) tg, compL (compE n (cc.blk scope)) cs, compE n (cc.blk scope) e with
      | some own, some iit, some t, some ics, some ie => if (blkC cc.N cc.sc scope own && decide (cs.length ≤ 1)) = true then some (.lc (own.map (·.2)) t iit ics ie) else none
      | _, _, _, _, _ => none
    | _ => none
end PI
/-! PI17: fields of errors, isinstance of own classes, raise, try. -/
namespace PI
open PySem PySem.Spec PyProof.Rows L2
section
variable {T : Tb} {Φ : Phi} {X : Cx} {cc : Cc} {pos : Pos} {a b c : Expr} {ia ib ic : IE}
theorem zip_lookup {F : Hp} {f : Str} : ∀ {ns : List Str} {ds : List D} {vs : List V} {d : D}, Reps T F ds vs → (ns.zip ds).lookup f = some d → ∃ v, (ns.zip vs).lookup f = some v ∧ Rep T F d v
  | [], ds, vs, d, r, e => by simp at e
  | n :: ns, [], vs, d, r, e => by simp at e
  | n :: ns, x :: ds, vs, d, r, e => by
    simp only [Reps] at r
    obtain ⟨v, us, rfl, r1, r2⟩ := r
    simp only [List.zip_cons_cons, List.lookup] at e ⊢
    cases hf : f == n with
    | true =>
      rw [hf] at e
      cases e
      exact ⟨v, rfl, r1⟩
    | false =>
      rw [hf] at e
      exact zip_lookup r2 e
theorem ty_fld {f : Str} (hf : f ∈ fieldNames) (he : ∀ c C, T.ca c = some C → ErrC X.K C fieldNames) (ha : TyE T Φ X a ia) (hb : attributeBase a f X.env (eval a X.env) = eval a X.env) : TyE T Φ X (.Attribute a f pos) (.fld f ia) := by
  intro ρ μ σ H F A r Q E tk s er e p
  simp only [evE] at e
  refine wE_of (pe_xv pe_w hb) (ha.then tk s er e p fun w μ1 v H1 F1 A1 x s1 er1 r1 e1 p1 => ?_)
  obtain ⟨w', hw, rfl⟩ := of_some e1
  obtain ⟨d, hd, rfl⟩ := Option.map_eq_some_iff.mp hw
  obtain ⟨d0, hv, hc⟩ := Option.bind_eq_some_iff.mp hd
  have q := s1.view r1 hv
  cases d0 with
  | exc c ns ds =>
    simp only [dFld] at hc
    have q : Rep T F1 (.exc c ns ds) v := q
    simp only [Rep] at q
    obtain ⟨ad, C, od, vs, rfl, h1, h2, h3, h4, h5⟩ := q
    obtain ⟨y, hy, ry⟩ := zip_lookup h4 hc
    rcases h5 with ⟨_, rfl⟩ | ⟨dx, rfl, h6⟩
    · simp at hy
    · obtain ⟨xf, no⟩ := he c C h1
      exact ⟨ad, C, dx, _, y, rfl, xf, no f hf, s1.sub _ _ h2, s1.sub _ _ h6, hy, p1 y H1 F1 A1 (.refl _ _) s1 ry⟩
  | _ => simp only [dFld] at hc; cases hc

/-- the value of a class's name -/
theorem pe_cls {x : Str} {cv : Value} {p : Pos} (hg : Gl X x) (hn : okName x = true) (h : X.mg x = some cv ∨ (X.mg x = none ∧ bootBuiltins x = some cv ∧ x ≠ "__name__")) {v : V} (hv : RelV v cv) : PE X (.Name x p) (tC v) := by
  obtain ⟨h1, h2, h3⟩ := okName_ok hn
  refine ⟨fun pins s σ H Q I q => ?_⟩
  rcases h with h | ⟨h, hb, h4⟩
  · exact ld_glob I hg h ⟨v, H, I, hv, q⟩ h1
  · exact ld_blt I hg h hb ⟨v, H, I, hv, q⟩ h4 h1
/-- isinstance(a, C), C a class of the text's or of errors -/
theorem call_isxR {x : Str} {l : List Str} (hK : X.K = T.K) (hc : ClsOk T X x l) (he : ∀ c C, T.ca c = some C → ErrC X.K C fieldNames) {v0 : V} {cv : Value} (hu : ∀ u, RelV v0 u → u = cv)
    (hb : ∀ t ∈ ["NoneType", "bool", "int", "str", "tuple", "list"], PySem.W.kitOne X.K (.type t) cv = some false) (hx : ∀ c C, T.ca c = some C → ExcC X.K C ∧ PySem.W.kitOne X.K (.ref C) cv = some (l.contains c)) :
    CallR X (.builtin "isinstance") (fun xs H Q => ∃ F d v k, Sub F H ∧ xs = [v, v0] ∧ RepV T F H d v ∧ dIs l d = some k ∧ Q (.bl k) H) := by
  intro pins s σ H xs us Q I r h
  obtain ⟨F, d, v, k, sF, rfl, rd, e, q⟩ := h
  cases r with
  | cons r1 r =>
    cases r with
    | cons r2 r =>
      cases r
      rename_i u1 u2
      obtain rfl := hu u2 r2
      have base : ∀ {t : String}, TyX X.K H v (.type t) → t ∈ ["NoneType", "bool", "int", "str", "tuple", "list"] → k = false → wpAny (model X.prog X.w) X.A (call (.builtin "isinstance") [u1, u2]) (EP X pins σ Q) X.xe s := fun {t} tx ht hk => by
        obtain ⟨P, kx, hp, nb⟩ := kit_of I r1 tx
        subst hk
        exact PySem.W.kia_one kx I.kIn hp (hb t ht) nb fun tk => ⟨.bl false, H, I.tok tk, rfl, q⟩
      cases d with
      | non => cases rd.non; simp only [dIs] at e; cases e; exact base (.base .non) (by simp) rfl
      | bl b => cases rd.bl; simp only [dIs] at e; cases e; exact base (.base (.bl b)) (by simp) rfl
      | int b => cases rd.int; simp only [dIs] at e; cases e; exact base (.base (.int b)) (by simp) rfl
      | str b => cases rd.str; simp only [dIs] at e; cases e; exact base (.base (.str b)) (by simp) rfl
      | tup ds =>
        obtain ⟨a, vs, rfl, h3, h4⟩ := rd.tup
        simp only [dIs] at e
        cases e
        refine base (t := "tuple") ?_ (by simp) rfl
        rcases (sub_sqT sF h3 : SqT T.K H a vs) with (z | ⟨o, z⟩) | ⟨o, its, m, z, zc, _⟩
        · exact .base (.tup z)
        · exact .fTuple z
        · exact .kTuple (hK ▸ z) zc
      | lst ds =>
        obtain ⟨a, vs, rfl, h3, h4⟩ := rd.lst
        simp only [dIs] at e
        cases e
        exact base (.base (.lst h3)) (by simp) rfl
      | exc c ns ds =>
        have rd : Rep T F (.exc c ns ds) v := rd
        simp only [Rep] at rd
        obtain ⟨ad, C, od, vs, rfl, h1, h2, h3, h4, h5⟩ := rd
        simp only [dIs] at e
        cases e
        cases r1
        obtain ⟨xc, kc⟩ := hx c C h1
        refine call_isX (c := v0) (u := u2) xc I (sF _ _ h2) (fun dd hd => ?_) kc q
        rcases h5 with ⟨rfl, _⟩ | ⟨dx, rfl, h6⟩
        · cases hd
        · cases hd
          exact ⟨_, sF _ _ h6⟩
      | _ => simp only [dIs] at e; cases e
theorem ty_isx {x : Str} {p p' : Pos} {l : List Str} (hK : X.K = T.K) (he : ∀ c C, T.ca c = some C → ErrC X.K C fieldNames) (hg : Gl X "isinstance") (hm : X.mg "isinstance" = none) (hc : ClsOk T X x l) (hgx : Gl X x) (hn : okName x = true) (ha : TyE T Φ X a ia)
    (hs : starEach (a :: [.Name x p']) X.env = (false, eval a X.env) :: starEach [.Name x p'] X.env) : TyE T Φ X (.Call (.Name "isinstance" p) [a, .Name x p'] [] pos) (.op (.isx l) [ia]) := by
  intro ρ μ σ H F A r Q E tk s er e p
  obtain ⟨cv, h1, ⟨v0, hv, hu⟩, hb, hx⟩ := hc.ex
  refine wE_of (pe_callB (call_isxR hK hc he hu hb fun c C z => ⟨(hx c C z).1, (hx c C z).2.1⟩) hg hm (by decide +kernel) (pa_cons pe_w (pa_cons (pe_cls hgx hn h1 hv) pa_nil) hs) (by decide) (by decide) hs (by rfl)) ?_
  refine op1_go ha tk s er e p fun v H1 F1 d1 d sb q1 hsm pq => ?_
  simp only [sem] at hsm
  obtain ⟨k, hk, rfl⟩ := Option.map_eq_some_iff.mp hsm
  exact ⟨F1, d1, v, k, sb, rfl, q1, hk, pq.bl sb⟩
end
end PI
/-! PI18: raise, try; makers are called. -/
namespace PI
open PySem PySem.Spec PyProof.Rows L2
section
variable {T : Tb} {Φ : Phi} {X : Cx} {pos : Pos} {kf : Str → List Str → Option (List Nat)} {F H : Hp} {A : List Addr} {μ : Mu}
theorem ERel.setN {ρ : Env} {σ : L2.St} {i : Nat} (h : ERel T ρ σ F A) : ERel T (ρ.set i none) (σ.set i none) F A := by
  refine ⟨by simp [h.1], fun j u q => ?_⟩
  by_cases hj : i = j
  · subst hj
    by_cases hi : i < ρ.length
    · rw [List.getElem?_set_self hi] at q
      cases q
    · rw [List.getElem?_eq_none (by simpa using hi)] at q
      cases q
  · rw [List.getElem?_set_ne hj] at q ⊢
    exact h.2 j u q
/-- an error laid as a value -/
theorem xrep_val {c : Str} {ns : List Str} {ds : List D} {cls : Value} {dd : Option Addr} {a : Addr} (xr : XRep T F (.exc c ns ds) cls dd) (sF : Sub F (upd F a (exAt a cls dd))) : Rep T (upd F a (exAt a cls dd)) (.exc c ns ds) (.ref a) := by
  obtain ⟨C, h1, rfl, h2⟩ := xr
  simp only [Rep]
  rcases h2 with ⟨rfl, rfl, rfl⟩ | ⟨dx, vs, rfl, h3, h4, h5⟩
  · exact ⟨a, C, none, [], rfl, h1, upd_same, rfl, .nil, .inl ⟨rfl, rfl⟩⟩
  · exact ⟨a, C, some dx, vs, rfl, h1, upd_same, h4, h5.mono sF, .inr ⟨dx, rfl, sF _ _ h3⟩⟩
theorem run_of_make {C : Addr} {x : Str} {np : Nat} {us : List Value} {kw : List (Str × Value)} {vs : List V} (M : MakeAt T Φ X C x us kw vs) (hd : ∀ ws μ w m, Φ x ws μ = some (.ok w m) → ∃ c ns ds, w = .d (.exc c ns ds)) : RunAt T Φ X C x np us kw vs := by
  intro pins σ H s Q E tk I h
  obtain ⟨_, ws, μ, F, A, r, h1, h2, h3, po⟩ := h
  refine wpAny_mono (M pins σ H s (fun cls d H' => ∀ a, H' a = none → Q (.ref a) (upd H' a (exAt a cls d))) E tk I ⟨ws, μ, F, A, r, h1, h2, h3, ?_⟩) (fun u s1 hu => ?_) fun _ _ z => z
  · cases r with
    | er d m => exact po
    | ok w m =>
      obtain ⟨c, ns, ds, rfl⟩ := hd ws μ w m h3
      refine ⟨_, rfl, fun cls dd H' F' A' x1 s1 xr a na => ?_⟩
      obtain ⟨s2, sb⟩ := s1.new (o := exAt a cls dd) na
      exact po (.ref a) _ _ A' (x1.trans ⟨sb, List.prefix_refl _⟩) s2 (xrep_val xr sb)
  · obtain ⟨a, oe, vs', sI, H', cls, d, rfl, J, k, ne, he, hz, hv, h1', na, os, ag, _, q'⟩ := hu
    exact ⟨.ref a, _, inv_lay J k ne na os ag (exAt_ok he hz hv), rfl, q' a na⟩

/-- an expression that makes an error -/
def wM (X : Cx) (e : Expr) : L2.St → Hp → XK → Prop := fun σ H Q => ∀ (pins : List (Addr × Obj)) (s : Shared), Inv X pins σ H s → wpAny (model X.prog X.w) X.A (eval e X.env) (MkP X pins σ Q) X.xe s
theorem pmk_w {e : Expr} : PMk X e (wM X e) := fun pins s σ H Q I h => h pins s I
theorem raiD_some {r : R W} {ρ : Env} {y : Fl × Mu} (h : raiD r ρ = some y) : (∃ c ns vs m, r = some (.ok (.d (.exc c ns vs)) m) ∧ y = (.xc (.exc c ns vs) ρ, m)) ∨ ∃ e m, r = some (.er e m) ∧ y = (.xc e ρ, m) := by
  unfold raiD at h
  split at h
  · cases h
    exact .inl ⟨_, _, _, _, rfl, rfl⟩
  · cases h
    exact .inr ⟨_, _, rfl, rfl⟩
  · cases h
theorem spM_of {x : Str} {ρ : Env} {σ : L2.St} {ws : List W} {vs : List V} {r : Fl × Mu} {D : Ends} {E : WX} (h1 : RepWs T F A ws vs) (s : SRel T μ H F A) (er : ERel T ρ σ F A) (e : raiD (Φ x ws μ) ρ = some r) (po : PostS T F A D E r) : spM T Φ x vs H (fun cls d H' => E cls d σ H') (fun c d h => E c d σ h) := by
  rcases raiD_some e with ⟨c, ns, ds, m, h3, rfl⟩ | ⟨d, m, h3, rfl⟩
  · exact ⟨ws, μ, F, A, _, h1, s, h3, _, rfl, fun cls dd H' F' A' x2 s2 xr => po cls dd σ H' F' A' x2 s2 (er.mono x2) xr⟩
  · exact ⟨ws, μ, F, A, _, h1, s, h3, fun cls dd H' F' A' x2 s2 xr => po cls dd σ H' F' A' x2 s2 (er.mono x2) xr⟩
theorem ty_raise0 {x : Str} {p pc : Pos} (hm : Maker T Φ kf X x) (hg : Gl X x) (hc : X.calm = true) (hdb : (x == ("__debug__" : Str)) = false) : TyS T Φ X (.Raise (some (.Call (.Name x p) [] [] pc)) none pos) (.raise x []) := by
  intro ρ μ σ H F A r D E tk s er e po
  obtain ⟨C, k, h1, h2, h3, h4⟩ := hm.ex
  refine wS_of (ps_raise hc tk pmk_w) ?_
  simp only [exS, evL] at e
  intro pins st I
  refine wpAny_Call_Name_kw (ld_glob I hg h1 (PySem.W.callWith_K0 I.kIn h2 ?_) hdb)
  exact (h4 X .refl h3).1 [] [] .nil pins σ H st _ E tk I (spM_of .nil s er e po)
theorem ty_raise {x : Str} {p pc : Pos} {a : Expr} {es : List Expr} {is : List IE} (hm : Maker T Φ kf X x) (hg : Gl X x) (hs : TyL T Φ X (a :: es) is) (hc : X.calm = true) (hdb : (x == ("__debug__" : Str)) = false) (ha : plainB a = true) (hr : es.all plainB = true) : TyS T Φ X (.Raise (some (.Call (.Name x p) (a :: es) [] pc)) none pos) (.raise x is) := by
  intro ρ μ σ H F A r D E tk s er e po
  obtain ⟨C, k, h1, h2, h3, h4⟩ := hm.ex
  refine wS_of (ps_raise hc tk pmk_w) ?_
  simp only [exS] at e
  intro pins st I
  refine wpAny_Call_Name_kw (ld_glob I hg h1 ?_ hdb)
  refine PySem.W.callWith_K (h₀ := X.base) I.ok.mod.kin h2 ?_ (plain_star ha _ _) (plain_any hr)
  have go : wL X (a :: es) σ H (fun vs H1 => spM T Φ x vs H1 (fun cls d H' => E cls d σ H') (fun c d h => E c d σ h)) := by
    rcases st_some e with ⟨d, m, e1, rfl⟩ | ⟨ws, m, e1, e2⟩
    · exact hs ρ μ σ H F A _ _ E tk s er e1 fun cls dd H' F' A' x s' xr => po cls dd σ H' F' A' x s' (er.mono x) xr
    · exact hs ρ μ σ H F A _ _ E tk s er e1 fun vs H1 F1 A1 x1 s1 r1 => spM_of r1 s1 (er.mono x1) e2 (po.mono x1)
  refine wpAny_mono (go _ pins st I) (fun us s1 hh => ?_) fun _ _ z => z
  obtain ⟨vs, H1, I1, rv, q⟩ := hh
  exact ⟨I1.kIn, (h4 X .refl h3).1 us vs rv pins σ H1 s1 _ E tk I1 q⟩

theorem ty_try {x n m : Str} {i j : Nat} {l : List Str} {body : List Stmt} {ib : List IS} {np p1 p2 p3 pos' : Pos} (hst : X.stack = X.env :: X.outer) (hf : X.env.frame = some X.env.locals) (hN : X.N.Nodup) (hi : X.N[i]? = some n) (hj : X.N[j]? = some m) (hij : i ≠ j)
    (li : X.env.kindOf n = some .local) (lj : X.env.kindOf m = some .local) (hg : Gl X x) (hn : okName x = true) (hc : ClsOk T X x l) (hd : okName n = true)
    (hb : ∀ (pn : List (Addr × Obj)) (xe : Value → Shared → Prop), PassesOwn (model X.prog X.w) X.A X.env xe → TyBl T Φ (X.tr pn xe) body ib) :
    TyS T Φ X (.Try body [.ExceptHandler (some (.Name x np)) (some n) [.Assign [.Name m p1] (.Name n p2) p3] pos'] [] [] pos) (.try_ ib l i j) := by
  intro ρ μ σ H F A r D E tk s er e po
  obtain ⟨cv, h1, _, _, hx⟩ := hc.ex
  obtain ⟨k1, _, k3⟩ := okName_ok hn
  obtain ⟨d1, d2, _⟩ := okName_ok hd
  refine wS_of (ps_try_keep (c := cv) (Wout := E) (tb := fun W D σ H => ∀ pn xe, Takes (X.tr pn xe) W → PassesOwn (model X.prog X.w) X.A X.env xe → wB (X.tr pn xe) body D σ H) hst hf hN hi hj hij li lj ⟨hg, k1, ?_⟩ tk d1 d2 (fun W pn xe t1 t2 => ⟨fun pins s σ H D I h => h pn xe t1 t2 pins s I⟩)) ?_
  · rcases h1 with z | ⟨z1, z2, z3⟩
    · exact .inl z
    · exact .inr ⟨z1, z2, z3⟩
  intro pn xe t1 t2
  simp only [exS] at e
  cases hx0 : exB Φ ib ρ μ with
  | none => rw [hx0] at e; cases e
  | some r' =>
    rw [hx0] at e
    refine hb pn xe t2 ρ μ σ H F A r' D _ t1 s er hx0 ?_
    obtain ⟨fl, m1⟩ := r'
    cases fl with
    | nx ρ1 => cases e; exact po
    | rt w => cases e; exact po
    | bk ρ1 => cases e; exact po
    | ct ρ1 => cases e; exact po
    | xc d ρ1 =>
      cases d with
      | exc c ns ds =>
        simp only at e
        intro cls dd σ' H' F' A' x1 s1 er1 xr
        obtain ⟨C, hC, rfl, _⟩ := id xr
        obtain ⟨_, _, hex⟩ := hx c C hC
        refine ⟨l.contains c, hex, fun hl a na => ?_, fun hl => ?_⟩
        · rw [if_pos hl] at e
          cases e
          obtain ⟨s2, sb⟩ := s1.new (o := exAt a (.ref C) dd) na
          have xx : Ext F' A' (upd F' a (exAt a (.ref C) dd)) A' := ⟨sb, List.prefix_refl _⟩
          have rp : RepW T (upd F' a (exAt a (.ref C) dd)) A' (.d (.exc c ns ds)) (.ref a) := xrep_val xr sb
          exact po _ _ _ A' (x1.trans xx) s2 ((((er1.mono xx).set rp).set rp).setN)
        · rw [if_neg (by rw [hl]; decide)] at e
          cases e
          exact po _ dd σ' H' F' A' x1 s1 er1 xr
      | _ => intro cls dd σ' H' F' A' x1 s1 er1 xr; exact False.elim xr
end
end PI
/-! PI11: the translation of expressions is right. -/
namespace PI
open PySem PySem.Spec PyProof.Rows L2

section
variable {T : Tb} {Φ : Phi} {cc : Cc} {X : Cx}
/-- an expression and its test -/
def Both (T : Tb) (Φ : Phi) (X : Cx) (e : Expr) (ie : IE) : Prop := TyE T Φ X e ie ∧ TyB T Φ X e ie
theorem Both.of (hK : X.K = T.K) {e : Expr} {ie : IE} (hv : valB e = true) (h : TyE T Φ X e ie) : Both T Φ X e ie := ⟨h, tb_val hK h (valB_ok hv)⟩
/-- f translates rightly -/
def FOk (T : Tb) (Φ : Phi) (X : Cx) (f : Expr → Option IE) : Prop := ∀ e ie, f e = some ie → Both T Φ X e ie

theorem compName_ok (h : CtxOk T Φ cc X) {x : Str} {p : Pos} {ie : IE} (e : compName cc x = some ie) : Both T Φ X (.Name x p) ie := by
  refine .of h.K rfl ?_
  unfold compName at e
  split at e
  · rename_i ho
    obtain ⟨h1, h2, h3⟩ := okName_ok ho
    split at e
    · rename_i hv
      obtain ⟨i, hi, rfl⟩ := Option.map_eq_some_iff.mp e
      exact ty_var (by rw [h.N]; exact ixOf_ok hi) (h.vis hv) h1 h2
    · split at e
      · rename_i hg
        obtain ⟨d, hd, rfl⟩ := Option.map_eq_some_iff.mp e
        obtain ⟨u, v, hm, rv, rd⟩ := h.cst x d hd
        exact ty_cst (pe_glob (h.gl hg) hm rv h1) rd
      · cases e
  · cases e
theorem compConst_ok (h : CtxOk T Φ cc X) {k : Const} {j : Nat} {p : Pos} {ie : IE} (e : compConst k = some ie) : Both T Φ X (.Constant k j p) ie := by
  refine .of h.K rfl ?_
  cases k <;> simp only [compConst] at e <;> first | (cases e; done) | skip
  all_goals cases e
  all_goals first
    | exact ty_cst pe_int fun F => by simp only [Rep]
    | exact ty_cst pe_str fun F => by simp only [Rep]
    | exact ty_cst pe_bl fun F => by simp only [Rep]
    | exact ty_cst pe_non fun F => by simp only [Rep]
theorem compL_ok {f : Expr → Option IE} (hf : FOk T Φ X f) : ∀ {es : List Expr} {is : List IE}, compL f es = some is → TyL T Φ X es is ∧ es.all plainB = true
  | [], is, e => by
    simp only [compL] at e
    cases e
    exact ⟨ty_nil, rfl⟩
  | a :: r, is, e => by
    simp only [compL] at e
    split at e
    · rename_i ia ir h1 h2
      split at e
      · rename_i hp
        cases e
        obtain ⟨h3, h4⟩ := compL_ok hf h2
        exact ⟨ty_cons (hf a ia h1).1 h3 (plain_star hp r X.env), by simp [hp, h4]⟩
      · cases e
    · cases e
theorem compBool_ok (h : CtxOk T Φ cc X) {f : Expr → Option IE} (hf : FOk T Φ X f) {op : BoolOp} {p : Pos} : ∀ {es : List Expr} {ie : IE}, compBool f op es = some ie → TyE T Φ X (.BoolOp op es p) ie ∧ TyP T Φ X (.BoolOp op es p) ie
  | [], ie, e => by simp only [compBool] at e; cases e
  | [a], ie, e => by
    simp only [compBool] at e
    obtain ⟨h1, h2⟩ := hf a ie e
    refine ⟨ty_one h1, ?_⟩
    cases op with
    | And => exact tp_and1 h2
    | Or => exact tp_or1 h2
  | a :: b :: r, ie, e => by
    simp only [compBool] at e
    split at e
    · rename_i ia ib h1 h2
      cases e
      obtain ⟨h3, h4⟩ := hf a ia h1
      obtain ⟨h5, h6⟩ := compBool_ok h hf (op := op) (p := p) h2
      cases op with
      | And => exact ⟨ty_and h.K h3 h5, tp_and h4 h6⟩
      | Or => exact ⟨ty_or h.K h3 h5, tp_or h4 h6⟩
    · cases e
theorem bop_ok (h : CtxOk T Φ cc X) {op : Operator} {o : Op} (e : bop op = some o) : Op2 T X (binaryOp op) (fun x y => sem o [x, y]) := by
  cases op <;> simp only [bop] at e <;> first | (cases e; done) | skip
  all_goals cases e
  · exact o_add h.K
  · exact o_sub
  · exact o_mul h.K
  · exact o_mod
  · exact o_pow
  · exact o_fdiv
theorem cop_ok (h : CtxOk T Φ cc X) {op : CmpOp} {o : Op} (e : cop op = some o) : Op2 T X (compareOp op) (fun x y => sem o [x, y]) ∧ ∀ x y d, sem o [x, y] = some d → ∃ k, d = .bl k := by
  have hu : X.A.units + 64 < cLine := by have := h.un; omega
  have hm : ∀ {α : Type} {o : Option α} {g : α → Bool} {d : D}, (o.map fun a => D.bl (g a)) = some d → ∃ k, d = .bl k := fun {α o g d} e => by
    obtain ⟨a, _, rfl⟩ := Option.map_eq_some_iff.mp e
    exact ⟨_, rfl⟩
  cases op <;> simp only [cop] at e <;> first | (cases e; done) | skip
  all_goals cases e
  · exact ⟨o_eq h.K hu, fun x y d z => hm (g := id) z⟩
  · exact ⟨o_ne h.K hu, fun x y d z => hm (g := fun e => !e) z⟩
  · exact ⟨o_lt, fun x y d z => by cases x <;> cases y <;> simp only [sem] at z <;> first | (cases z; done) | (cases z; exact ⟨_, rfl⟩)⟩
  · exact ⟨o_le, fun x y d z => by cases x <;> cases y <;> simp only [sem] at z <;> first | (cases z; done) | (cases z; exact ⟨_, rfl⟩)⟩
  · exact ⟨o_gt, fun x y d z => by cases x <;> cases y <;> simp only [sem] at z <;> first | (cases z; done) | (cases z; exact ⟨_, rfl⟩)⟩
  · exact ⟨o_ge, fun x y d z => by cases x <;> cases y <;> simp only [sem] at z <;> first | (cases z; done) | (cases z; exact ⟨_, rfl⟩)⟩
  · exact ⟨o_in h.K h.un, fun x y d z => hm (g := id) z⟩
  · exact ⟨o_notin h.K h.un, fun x y d z => hm (g := fun e => !e) z⟩
theorem op1_bl {ia : IE} {o : Op} (hc : ∀ x d, sem o [x] = some d → ∃ k, d = .bl k) {e : Expr} (hE : TyE T Φ X e (.op o [ia])) : True := trivial
/-- is None as a test -/
theorem tb_isN {a : Expr} {ia : IE} {j : Nat} {p p' : Pos} (ha : TyE T Φ X a ia) : TyB T Φ X (.Compare a [.Is] [.Constant .none j p'] p) (.op .isN [ia]) := by
  intro ρ μ σ H F A r Q E tk s er e po
  have e' : (evE Φ ia ρ μ).bind (fun w μ1 => R.of ((view μ1 w).map fun d => match d with | .non => true | _ => false) μ1) = some r := by
    rw [← e]
    unfold evB
    simp only [evE, evL]
    unfold R.bind
    cases evE Φ ia ρ μ with
    | none => rfl
    | some x1 =>
      cases x1 with
      | er d m => rfl
      | ok w m =>
        simp only [views]
        cases hv : view m w with
        | none => rfl
        | some d => cases d <;> rfl
  refine wT_of (pt_cmp (pc_isN pe_w) rfl) (ha.then tk s er e' po fun w μ1 v H1 F1 A1 x s1 er1 r1 e1 p1 => ?_)
  obtain ⟨k, hk, rfl⟩ := of_some e1
  obtain ⟨d, hd, rfl⟩ := Option.map_eq_some_iff.mp hk
  refine ⟨_, rfl, ?_⟩
  have q1 := s1.view r1 hd
  have := p1 _ H1 F1 A1 (.refl _ _) s1 rfl
  cases d with
  | non => cases q1.non; exact this
  | bl b => cases q1.bl; exact this
  | int b => cases q1.int; exact this
  | str b => cases q1.str; exact this
  | tup ds => obtain ⟨a, vs, rfl, _⟩ := q1.tup; exact this
  | lst ds => obtain ⟨a, vs, rfl, _⟩ := q1.lst; exact this
  | scr ds => obtain ⟨a, vs, rfl, _⟩ := q1.scr; exact this
  | dic ks ds => obtain ⟨a, vs, rfl, _⟩ := q1; exact this
  | ins c ns ds => simp only [RepV, Rep] at q1; obtain ⟨a, C, dx, vs, rfl, _⟩ := q1; exact this
  | exc c ns ds => simp only [RepV, Rep] at q1; obtain ⟨a, C, dx, vs, rfl, _⟩ := q1; exact this
  | fn f => simp only [RepV, Rep] at q1; obtain ⟨a, rfl, _⟩ := q1; exact this
theorem tb_isnotN {a : Expr} {ia : IE} {j : Nat} {p p' : Pos} (ha : TyE T Φ X a ia) : TyB T Φ X (.Compare a [.IsNot] [.Constant .none j p'] p) (.op .isnotN [ia]) := by
  intro ρ μ σ H F A r Q E tk s er e po
  have e' : (evE Φ ia ρ μ).bind (fun w μ1 => R.of ((view μ1 w).map fun d => match d with | .non => false | _ => true) μ1) = some r := by
    rw [← e]
    unfold evB
    simp only [evE, evL]
    unfold R.bind
    cases evE Φ ia ρ μ with
    | none => rfl
    | some x1 =>
      cases x1 with
      | er d m => rfl
      | ok w m =>
        simp only [views]
        cases hv : view m w with
        | none => rfl
        | some d => cases d <;> rfl
  refine wT_of (pt_cmp (pc_notN pe_w) rfl) (ha.then tk s er e' po fun w μ1 v H1 F1 A1 x s1 er1 r1 e1 p1 => ?_)
  obtain ⟨k, hk, rfl⟩ := of_some e1
  obtain ⟨d, hd, rfl⟩ := Option.map_eq_some_iff.mp hk
  refine ⟨_, rfl, ?_⟩
  have q1 := s1.view r1 hd
  have := p1 _ H1 F1 A1 (.refl _ _) s1 rfl
  cases d with
  | non => cases q1.non; exact this
  | bl b => cases q1.bl; exact this
  | int b => cases q1.int; exact this
  | str b => cases q1.str; exact this
  | tup ds => obtain ⟨a, vs, rfl, _⟩ := q1.tup; exact this
  | lst ds => obtain ⟨a, vs, rfl, _⟩ := q1.lst; exact this
  | scr ds => obtain ⟨a, vs, rfl, _⟩ := q1.scr; exact this
  | dic ks ds => obtain ⟨a, vs, rfl, _⟩ := q1; exact this
  | ins c ns ds => simp only [RepV, Rep] at q1; obtain ⟨a, C, dx, vs, rfl, _⟩ := q1; exact this
  | exc c ns ds => simp only [RepV, Rep] at q1; obtain ⟨a, C, dx, vs, rfl, _⟩ := q1; exact this
  | fn f => simp only [RepV, Rep] at q1; obtain ⟨a, rfl, _⟩ := q1; exact this
theorem compCmp_ok (h : CtxOk T Φ cc X) {f : Expr → Option IE} (hf : FOk T Φ X f) {a b : Expr} {op : CmpOp} {p : Pos} {ie : IE} (e : compCmp f a op b = some ie) : Both T Φ X (.Compare a [op] [b] p) ie := by
  unfold compCmp at e
  split at e
  · rename_i o ho
    split at e
    · rename_i ia ib h1 h2
      split at e
      · rename_i hm
        cases e
        obtain ⟨c1, c2⟩ := cop_ok h ho
        exact ⟨ty_cmp c1 (hf a ia h1).1 (hf b ib h2).1 (markB_ok hm op), tb_cmp c2 c1 (hf a ia h1).1 (hf b ib h2).1 (markB_ok hm op)⟩
      · cases e
    · cases e
  · split at e
    · obtain ⟨i, hi, rfl⟩ := Option.map_eq_some_iff.mp e
      exact ⟨ty_isN (hf a i hi).1, tb_isN (hf a i hi).1⟩
    · obtain ⟨i, hi, rfl⟩ := Option.map_eq_some_iff.mp e
      exact ⟨ty_isnotN (hf a i hi).1, tb_isnotN (hf a i hi).1⟩
    · cases e
theorem bltT_ok (h : CtxOk T Φ cc X) {x : Str} {o : Op} (e : bltT x = some o) : (∃ id, OpC T X (.builtin id) o ∧ bootBuiltins x = some (.builtin id) ∧ X.mg x = none) ∨ ∃ n, OpC T X (.type n) o ∧ bootBuiltins x = some (.type n) ∧ X.mg x = none := by
  have hb : ∀ x, bltNames.contains x = true → X.mg x = none := fun x hx => h.blt x (by simpa using hx)
  unfold bltT at e
  split at e
  · rename_i q; subst q; cases e; exact .inl ⟨_, c_len h.K, by decide +kernel, hb _ (by decide +kernel)⟩
  split at e
  · rename_i q; subst q; cases e; exact .inr ⟨_, c_list h.K, by decide +kernel, hb _ (by decide +kernel)⟩
  split at e
  · rename_i q; subst q; cases e; exact .inr ⟨_, c_tuple h.K, by decide +kernel, hb _ (by decide +kernel)⟩
  split at e
  · rename_i q; subst q; cases e; exact .inr ⟨_, c_int, by decide +kernel, hb _ (by decide +kernel)⟩
  split at e
  · rename_i q; subst q; cases e; exact .inl ⟨_, c_abs, by decide +kernel, hb _ (by decide +kernel)⟩
  split at e
  · rename_i q; subst q; cases e; exact .inl ⟨_, c_all h.calm, by decide +kernel, hb _ (by decide +kernel)⟩
  split at e
  · rename_i q; subst q; cases e; exact .inl ⟨_, c_any h.calm, by decide +kernel, hb _ (by decide +kernel)⟩
  split at e
  · rename_i q; subst q; cases e; exact .inl ⟨_, c_min2 h.calm, by decide +kernel, hb _ (by decide +kernel)⟩
  split at e
  · rename_i q; subst q; cases e; exact .inl ⟨_, c_max2 h.calm, by decide +kernel, hb _ (by decide +kernel)⟩
  · cases e
theorem compIsi_ok (h : CtxOk T Φ cc X) {f : Expr → Option IE} (hf : FOk T Φ X f) {a t : Expr} {p p' : Pos} {ie : IE} (hg : glB cc "isinstance" = true) (e : compIsi cc f a t = some ie) : TyE T Φ X (.Call (.Name "isinstance" p) [a, t] [] p') ie := by
  have hm : X.mg "isinstance" = none := h.blt _ (by decide +kernel)
  unfold compIsi at e
  split at e
  · split at e
    · rename_i ty h1
      split at e
      · rename_i ia h2
        split at e
        · rename_i hc
          cases e
          simp only [Bool.and_eq_true] at hc
          obtain ⟨⟨g, pl⟩, bn⟩ := hc
          exact ty_isi1 h.K (h.gl hg) hm h1 (h.gl g) (h.blt _ (by simpa using bn)) (hf a ia h2).1 (plain_star pl _ _)
        · cases e
      · cases e
    · split at e
      · rename_i l ia h2 h3
        split at e
        · rename_i hc
          cases e
          simp only [Bool.and_eq_true] at hc
          obtain ⟨⟨g, pl⟩, bn⟩ := hc
          exact ty_isx h.K h.err (h.gl hg) hm (h.cls _ l h2) (h.gl g) bn (hf a ia h3).1 (plain_star pl _ _)
        · cases e
      · cases e
  · split at e
    · rename_i l ia h1 h2
      split at e
      · rename_i hc
        cases e
        simp only [Bool.and_eq_true, Bool.not_eq_true', decide_eq_true_eq] at hc
        obtain ⟨⟨⟨⟨g, pl⟩, bn⟩, ne⟩, hz⟩ := hc
        refine ty_isiN h.K (h.gl hg) hm h1 hz (fun q hq => ⟨h.gl ?_, h.blt _ ?_⟩) (hf a ia h2).1 (fun z => by rw [z] at ne; simp at ne) (plain_star pl _ _)
        · unfold tysB at g
          exact List.all_eq_true.mp g q hq
        · simpa using List.all_eq_true.mp bn q hq
      · cases e
    · cases e
  · cases e
theorem compCall_ok (h : CtxOk T Φ cc X) {f : Expr → Option IE} (hf : FOk T Φ X f) {x : Str} {as : List Expr} {p p' : Pos} {ie : IE} (e : compCall cc f x as = some ie) : TyE T Φ X (.Call (.Name x p) as [] p') ie := by
  unfold compCall at e
  split at e
  · rename_i hc
    obtain ⟨ho, hg⟩ := Bool.and_eq_true_iff.mp hc
    obtain ⟨h1, h2, h3⟩ := okName_ok ho
    split at e
    · rename_i hx
      subst hx
      split at e
      · exact compIsi_ok h hf hg e
      · cases e
    · split at e
      · rename_i o hb
        split at e
        · cases e
        · rename_i a r
          obtain ⟨is, hl, rfl⟩ := Option.map_eq_some_iff.mp e
          obtain ⟨tl, pl⟩ := compL_ok hf hl
          simp only [List.all_cons, Bool.and_eq_true] at pl
          rcases bltT_ok h hb with ⟨id, c, bt, mn⟩ | ⟨n, c, bt, mn⟩
          · exact ty_callB c (h.gl hg) mn bt tl h3 h1 (plain_star pl.1 _ _) (plain_any pl.2)
          · exact ty_callTy c (h.gl hg) mn bt tl h3 h1 (plain_star pl.1 _ _) (plain_any pl.2)
      · split at e
        · rename_i n hn
          obtain ⟨is, hl, rfl⟩ := Option.map_eq_some_iff.mp e
          obtain ⟨tl, pl⟩ := compL_ok hf hl
          cases as with
          | nil =>
            simp only [compL] at hl
            cases hl
            exact ty_call0 (h.own x n hn) (h.gl hg) h1
          | cons a r =>
            simp only [List.all_cons, Bool.and_eq_true] at pl
            exact ty_call (h.own x n hn) (h.gl hg) tl h1 (plain_star pl.1 _ _) (plain_any pl.2)
        · cases e
  · cases e
theorem kws_ok {env : PySem.Env} {pos : Pos} : ∀ {kws : List Keyword} {ks : List Str}, kwNames kws = some ks → (backToKw pos (keywordEach kws env)).all (·.1.isSome) = true ∧ (backToKw pos (keywordEach kws env)).filterMap (·.1) = ks ∧ (backToKw pos (keywordEach kws env)).any (·.1.isNone) = false
  | [], ks, e => by
    simp only [kwNames] at e
    cases e
    exact ⟨rfl, rfl, rfl⟩
  | ⟨some n, v, p⟩ :: r, ks, e => by
    simp only [kwNames] at e
    obtain ⟨l, hl, rfl⟩ := Option.map_eq_some_iff.mp e
    obtain ⟨h1, h2, h3⟩ := kws_ok (env := env) (pos := pos) hl
    refine ⟨?_, ?_, ?_⟩
    · show (true && (backToKw pos (keywordEach r env)).all (·.1.isSome)) = true
      rw [h1]
      rfl
    · show n :: (backToKw pos (keywordEach r env)).filterMap (·.1) = n :: l
      rw [h2]
    · show (false || (backToKw pos (keywordEach r env)).any (·.1.isNone)) = false
      rw [h3]
      rfl
  | ⟨none, v, p⟩ :: r, ks, e => by
    simp only [kwNames] at e
    cases e
theorem compKs_ok {f : Expr → Option IE} (hf : FOk T Φ X f) : ∀ {kws : List Keyword} {is : List IE}, compKs f kws = some is → TyK T Φ X kws is
  | [], is, e => by
    simp only [compKs] at e
    cases e
    exact tk_nil
  | ⟨n, v, p⟩ :: r, is, e => by
    simp only [compKs] at e
    split at e
    · rename_i i l h1 h2
      cases e
      exact tk_cons (hf v i h1).1 (compKs_ok hf h2)
    · cases e
theorem compKs_len {f : Expr → Option IE} : ∀ {kws : List Keyword} {is : List IE} {ks : List Str}, compKs f kws = some is → kwNames kws = some ks → is.length = ks.length
  | [], is, ks, e, e2 => by
    simp only [compKs] at e
    simp only [kwNames] at e2
    cases e
    cases e2
    rfl
  | ⟨some n, v, p⟩ :: r, is, ks, e, e2 => by
    simp only [compKs] at e
    simp only [kwNames] at e2
    obtain ⟨l2, h3, rfl⟩ := Option.map_eq_some_iff.mp e2
    split at e
    · rename_i i l h1 h2
      cases e
      simp [compKs_len h2 h3]
    · cases e
  | ⟨none, v, p⟩ :: r, is, ks, e, e2 => by
    simp only [kwNames] at e2
    cases e2
theorem compCallK_ok (h : CtxOk T Φ cc X) {f : Expr → Option IE} (hf : FOk T Φ X f) {x : Str} {kws : List Keyword} {p p' : Pos} {ie : IE} (e : compCallK cc f x kws = some ie) : TyE T Φ X (.Call (.Name x p) [] kws p') ie := by
  unfold compCallK at e
  split at e
  · rename_i hc
    simp only [Bool.and_eq_true] at hc
    obtain ⟨⟨ho, hg⟩, hs⟩ := hc
    obtain ⟨h1, h2, h3⟩ := okName_ok ho
    obtain ⟨n, hn⟩ := Option.isSome_iff_exists.mp hs
    split at e
    · rename_i ks hk
      split at e
      · rename_i pm is hp hi
        cases e
        obtain ⟨k1, k2, k3⟩ := kws_ok (env := X.env) (pos := p') hk
        refine ty_callK (h.own x n hn) hp (h.gl hg) (compKs_ok hf hi) h1 k1 k2 (compKs_len hi hk) ?_
        rw [k3]
        rfl
      · cases e
    · cases e
  · cases e
theorem compMeth_ok (h : CtxOk T Φ cc X) {f : Expr → Option IE} (hf : FOk T Φ X f) {o : Expr} {m : Str} {apos pos : Pos} {as : List Expr} {ie : IE} (e : compMeth f o m apos as pos = some ie) : TyE T Φ X (.Call (.Attribute o m apos) as [] pos) ie := by
  unfold compMeth at e
  split at e
  · rename_i hc
    obtain ⟨ha, hl⟩ := Bool.and_eq_true_iff.mp hc
    split at e
    · rename_i hm
      subst hm
      split at e
      · obtain ⟨io, hi, rfl⟩ := Option.map_eq_some_iff.mp e
        exact ty_pop0 (hf o io hi).1 (attB_ok ha _ _) hl
      · split at e
        · rename_i io ii h1 h2
          split at e
          · rename_i hp
            cases e
            refine ty_pop1 (hf o io h1).1 (hf _ ii h2).1 (attB_ok ha _ _) hl (plain_star hp _ _) ?_
            rw [plain_all (by simp [hp])]
            rfl
          · cases e
        · cases e
      · cases e
    · cases e
  · cases e
theorem compO_ok {f : Expr → Option IE} (hf : FOk T Φ X f) {o : Option Expr} {r : Bool × IE} (e : compO f o = some r) : TyO T Φ X r.1 o r.2 := by
  cases o with
  | none => simp only [compO] at e; cases e; exact to_none
  | some a =>
    simp only [compO] at e
    obtain ⟨i, hi, rfl⟩ := Option.map_eq_some_iff.mp e
    exact to_some (hf a i hi).1
theorem compIter_ok (h : CtxOk T Φ cc X) {f : Expr → Option IE} (hf : FOk T Φ X f) {e tg : Expr} {it : IT} (c : compIter cc f e (isTup tg) = some it) : TyI T Φ X tg e it ∧ foldB e = true := by
  unfold compIter at c
  split at c
  · rename_i hfold
    refine ⟨?_, hfold⟩
    split at c
    · rename_i x p as p'
      split at c
      · rename_i hg
        obtain ⟨hg, ho⟩ := Bool.and_eq_true_iff.mp hg
        split at c
        · rename_i hx
          subst hx
          have hm : X.mg "range" = none := h.blt _ (by decide +kernel)
          split at c
          · split at c
            · rename_i hp
              obtain ⟨ia, hi, rfl⟩ := Option.map_eq_some_iff.mp c
              exact ti_rng1 (h.gl hg) hm (hf _ ia hi).1 (plain_star hp _ _)
            · cases c
          · split at c
            · rename_i ia ib h1 h2
              split at c
              · rename_i hp
                obtain ⟨hp1, hp2⟩ := Bool.and_eq_true_iff.mp hp
                cases c
                exact ti_rng2 (h.gl hg) hm (hf _ ia h1).1 (hf _ ib h2).1 (plain_star hp1 _ _) (plain_star hp2 _ _)
              · cases c
            · cases c
          · cases c
        · split at c
          · rename_i hx
            subst hx
            have hm : X.mg "enumerate" = none := h.blt _ (by decide +kernel)
            split at c
            · split at c
              · rename_i hp
                obtain ⟨hp1, hp2⟩ := Bool.and_eq_true_iff.mp hp
                obtain ⟨ia, hi, rfl⟩ := Option.map_eq_some_iff.mp c
                cases tg with
                | Tuple elts kk tp => exact ti_enu (h.gl hg) hm (hf _ ia hi).1 (plain_star hp1 _ _)
                | _ => simp [isTup] at hp2
              · cases c
            · cases c
          · split at c
            · rename_i hx
              subst hx
              have hm : X.mg "zip" = none := h.blt _ (by decide +kernel)
              split at c
              · split at c
                · rename_i ia ib h1 h2
                  split at c
                  · rename_i hp
                    obtain ⟨hp12, hp3⟩ := Bool.and_eq_true_iff.mp hp
                    obtain ⟨hp1, hp2⟩ := Bool.and_eq_true_iff.mp hp12
                    cases c
                    cases tg with
                    | Tuple elts kk tp => exact ti_zip h.K (h.gl hg) hm (hf _ ia h1).1 (hf _ ib h2).1 (plain_star hp1 _ _) (plain_star hp2 _ _) (plain_any (by simp [hp2]))
                    | _ => simp [isTup] at hp3
                  · cases c
                · cases c
              · cases c
            · obtain ⟨ia, hi, rfl⟩ := Option.map_eq_some_iff.mp c
              exact ti_seq h.K (hf _ ia hi).1
      · cases c
    · obtain ⟨ia, hi, rfl⟩ := Option.map_eq_some_iff.mp c
      exact ti_seq h.K (hf _ ia hi).1
  · cases c
/-! targets -/
theorem pg_slots (h : CtxOk T Φ cc X) : ∀ {es : List Expr} {xs : List Str} {is : List Nat}, namesOf es = some xs → slotsOf cc xs = some is → PGs X es (gS is) ∧ (assignEach es X.env).length = is.length ∧ (assignEach es X.env).findIdx? (·.1) = none
  | [], xs, is, h1, h2 => by
    simp only [namesOf] at h1
    cases h1
    simp only [slotsOf] at h2
    cases h2
    exact ⟨pgs_nil, rfl, rfl⟩
  | e :: es, xs, is, h1, h2 => by
    cases e with
    | Name x p =>
      simp only [namesOf] at h1
      obtain ⟨ys, hy, rfl⟩ := Option.map_eq_some_iff.mp h1
      simp only [slotsOf] at h2
      split at h2
      · rename_i hl
        split at h2
        · rename_i i l hi hs
          cases h2
          obtain ⟨g1, g2, g3⟩ := pg_slots h hy hs
          obtain ⟨l1, l2⟩ := h.loc hl
          refine ⟨pgs_cons (pg_name h.nd (by rw [h.N]; exact ixOf_ok hi) l1 l2) g1 rfl, ?_, ?_⟩
          · show (assignEach es X.env).length + 1 = l.length + 1
            rw [g2]
          · show List.findIdx? (·.1) ((false, assign (.Name x p) X.env) :: assignEach es X.env) = none
            rw [List.findIdx?_cons]
            simp [g3]
        · cases h2
      · cases h2
    | _ => cases h1
theorem compTg_ok (h : CtxOk T Φ cc X) {tg : Expr} {t : Tg} (c : compTg cc tg = some t) : PG X tg (gT X.K t) := by
  cases tg with
  | Name x p =>
    simp only [compTg] at c
    obtain ⟨l, hl, rfl⟩ := Option.map_eq_some_iff.mp c
    simp only [slotsOf] at hl
    split at hl
    · rename_i hloc
      split at hl
      · rename_i i l' hi hs
        cases hl
        cases hs
        obtain ⟨l1, l2⟩ := h.loc hloc
        exact pg_name h.nd (by rw [h.N]; exact ixOf_ok hi) l1 l2
      · cases hl
    · cases hl
  | Tuple es k p =>
    simp only [compTg] at c
    split at c
    · rename_i xs hx
      obtain ⟨is, hs, rfl⟩ := Option.map_eq_some_iff.mp c
      obtain ⟨g1, g2, g3⟩ := pg_slots h hx hs
      exact pg_tup h.calm g1 g2 g3
    · cases c
  | _ => cases c
theorem own_slots {c1 c2 : Cc} (hN : c1.N = c2.N) : ∀ {xs : List Str} {own : List (Str × Nat)} {is : List Nat}, ownOf c1 xs = some own → slotsOf c2 xs = some is → own.map (·.2) = is
  | [], own, is, h1, h2 => by
    simp only [ownOf] at h1
    simp only [slotsOf] at h2
    cases h1
    cases h2
    rfl
  | x :: xs, own, is, h1, h2 => by
    simp only [ownOf] at h1
    split at h1
    · rename_i i l hi hl
      cases h1
      simp only [slotsOf] at h2
      split at h2
      · split at h2
        · rename_i j m hj hm
          cases h2
          have e : i = j := by
            unfold ixOf at hi hj
            rw [hN] at hi
            exact Option.some.inj (hi.symm.trans hj)
          rw [List.map_cons, own_slots hN hl hm, e]
        · cases h2
      · cases h2
    · cases h1
theorem lc_slots {own : List (Str × Nat)} {t : Tg} {tg : Expr} {c2 : Cc} (hN : cc.N = c2.N) (h1 : ownOf cc (tgNames tg) = some own) (h2 : compTg c2 tg = some t) : ∀ i ∈ (match t with | .one i => [i] | .tup is => is), i ∈ own.map (·.2) := by
  cases tg with
  | Name x p =>
    simp only [compTg] at h2
    obtain ⟨l, hl, rfl⟩ := Option.map_eq_some_iff.mp h2
    have e := own_slots hN (xs := [x]) h1 hl
    intro i hi
    rw [e]
    simp only [slotsOf] at hl
    split at hl
    · split at hl
      · rename_i j l' hj hs
        cases hl
        have : i = j := by simpa using hi
        rw [this]
        exact List.mem_cons_self
      · cases hl
    · cases hl
  | Tuple es k p =>
    simp only [compTg] at h2
    split at h2
    · rename_i xs hx
      obtain ⟨is, hs, rfl⟩ := Option.map_eq_some_iff.mp h2
      simp only [tgNames, hx, Option.getD_some] at h1
      rw [own_slots hN h1 hs]
      exact fun i hi => hi
    · cases h2
  | _ => cases h2
theorem compC_ok {f : Expr → Option IE} (hf : FOk T Φ X f) {cs : List Expr} {ics : List IE} (hl : cs.length ≤ 1) (e : compL f cs = some ics) : TyC T Φ X cs ics := by
  match cs, hl with
  | [], _ => simp only [compL] at e; cases e; exact tc_nil
  | [c], _ =>
    simp only [compL] at e
    split at e
    · rename_i ia ir h1 h2
      split at e
      · cases h2
        cases e
        exact tc_one (hf c ia h1).2
      · cases e
    · cases e
theorem evB_ite {ρ : PI.Env} {μ : Mu} {ic ia ib : IE} : evB Φ (.ite ic ia ib) ρ μ = (evB Φ ic ρ μ).bind fun b μ1 => if b = true then evB Φ ia ρ μ1 else evB Φ ib ρ μ1 := by
  unfold evB
  simp only [evE]
  cases evE Φ ic ρ μ with
  | none => rfl
  | some x1 =>
    cases x1 with
    | er d m => rfl
    | ok w m =>
      simp only [R.bind]
      cases hk : (view m w).bind truth with
      | none => rfl
      | some k => cases k <;> simp [R.of]
theorem tb_ite {c a b : Expr} {ic ia ib : IE} {pos : Pos} (hc : TyB T Φ X c ic) (ha : TyB T Φ X a ia) (hb : TyB T Φ X b ib) : TyB T Φ X (.IfExp c a b pos) (.ite ic ia ib) := by
  intro ρ μ σ H F A r Q E tk s er e p
  rw [evB_ite] at e
  have hp : PT X (.IfExp c a b pos) (fun σ H Q => wT X c σ H fun k H1 => if k = true then wT X a σ H1 Q else wT X b σ H1 Q) := ⟨fun pins st σ H Q I h => isTrue_IfExp (thn (h pins st I) fun k s1 ⟨H1, I1, q⟩ => by
    cases k with
    | true => exact q pins s1 I1
    | false => exact q pins s1 I1)⟩
  refine wT_of hp (hc.then tk s er e p fun k μ1 H1 F1 A1 x s1 er1 e1 p1 => ?_)
  cases k with
  | true => rw [if_pos rfl] at e1 ⊢; exact ha ρ μ1 σ H1 F1 A1 r Q E tk s1 er1 e1 p1
  | false => rw [if_neg Bool.false_ne_true] at e1 ⊢; exact hb ρ μ1 σ H1 F1 A1 r Q E tk s1 er1 e1 p1
/-- THE TRANSLATION OF EXPRESSIONS IS RIGHT -/
theorem compE_ok : ∀ (n : Nat) {cc : Cc} {X : Cx}, CtxOk T Φ cc X → FOk T Φ X (compE n cc)
  | 0, cc, X, h, e, ie, c => by simp only [compE] at c; cases c
  | n + 1, cc, X, h, e, ie, c => by
    have hf : FOk T Φ X (compE n cc) := compE_ok n h
    unfold compE at c
    split at c
    · exact compName_ok h c
    · exact compConst_ok h c
    · split at c
      · rename_i o ia ib h1 h2 h3
        cases c
        exact .of h.K rfl (ty_bin (bop_ok h h1) (hf _ ia h2).1 (hf _ ib h3).1)
      · cases c
    · obtain ⟨i, hi, rfl⟩ := Option.map_eq_some_iff.mp c
      exact .of h.K rfl (ty_neg (hf _ i hi).1)
    · obtain ⟨i, hi, rfl⟩ := Option.map_eq_some_iff.mp c
      exact ⟨ty_not h.K (hf _ i hi).1, tb_not (hf _ i hi).2⟩
    · obtain ⟨h1, h2⟩ := compBool_ok h hf c
      exact ⟨h1, h2.toB⟩
    · exact compCmp_ok h hf c
    · split at c
      · rename_i ic ia ib h1 h2 h3
        cases c
        exact ⟨ty_ite (hf _ ic h1).2 (hf _ ia h2).1 (hf _ ib h3).1, tb_ite (hf _ ic h1).2 (hf _ ia h2).2 (hf _ ib h3).2⟩
      · cases c
    · exact .of h.K rfl (compCall_ok h hf c)
    · exact .of h.K rfl (compCallK_ok h hf c)
    · split at c
      · rename_i hc
        obtain ⟨h1, h2⟩ := Bool.and_eq_true_iff.mp hc
        obtain ⟨i, hi, rfl⟩ := Option.map_eq_some_iff.mp c
        exact .of h.K rfl (ty_fld (by simpa using h1) h.err (hf _ i hi).1 (attB_ok h2 _ _))
      · cases c
    · exact .of h.K rfl (compMeth_ok h hf c)
    · split at c
      · rename_i ia l hh h1 h2 h3
        cases c
        exact .of h.K rfl (ty_sl h.K (hf _ ia h1).1 (compO_ok hf h2) (compO_ok hf h3))
      · cases c
    · split at c
      · rename_i ia ib h1 h2
        split at c
        · rename_i hx
          cases c
          exact .of h.K rfl (ty_ix h.K (hf _ ia h1).1 (hf _ ib h2).1 (ixB_ok hx))
        · cases c
      · cases c
    · obtain ⟨is, hi, rfl⟩ := Option.map_eq_some_iff.mp c
      exact .of h.K rfl (ty_tup (compL_ok hf hi).1)
    · obtain ⟨is, hi, rfl⟩ := Option.map_eq_some_iff.mp c
      exact .of h.K rfl (ty_lst (compL_ok hf hi).1)
    · split at c
      · rename_i own iit t ics ie' h1 h2 h3 h4 h5
        split at c
        · rename_i hb
          cases c
          obtain ⟨hb, hcs⟩ := Bool.and_eq_true_iff.mp hb
          obtain ⟨ti, tf⟩ := compIter_ok h hf h2
          have bo := blkOk_by hb
          rw [← h.N, ← h.sc] at bo
          refine .of h.K rfl (ty_lcE h.K h.calm h.nd ti bo (lc_slots (cc := cc) (c2 := cc.blk _) rfl h1 h3) (fun s H C cl fp => compTg_ok (h.blk _ s H C cl fp) h3) (fun s H C cl fp => ?_) (fun s H C cl fp => (compE_ok n (h.blk _ s H C cl fp) _ _ h5).1) (foldB_ok tf X.env))
          exact compC_ok (compE_ok n (h.blk _ s H C cl fp)) (by simpa using hcs) h4
        · cases c
      · cases c
    · cases c
end
end PI
/-! PI12: the translation of statements and defs. -/
namespace PI
open PySem PySem.Spec PyProof.Rows L2

def tupB : Expr → Bool
  | .Tuple .. => false
  | _ => true
theorem swNone {es : List Expr} {kt : Nat} {pt : Pos} {v : Expr} {env : PySem.Env} (h : tupB v = true) : swappedStores [.Tuple es kt pt] v env = pure none := by
  cases v <;> first | rfl | (simp [tupB] at h)
theorem swSub {o i : Expr} {p : Pos} {v : Expr} {env : PySem.Env} : swappedStores [.Subscript o i p] v env = pure none := by
  cases v <;> rfl
theorem asgSub {o i : Expr} {p : Pos} {env : PySem.Env} (h : ixB i = true) (u : Value) : assign (.Subscript o i p) env u = (do
      let ov ← holding [u] (eval o env)
      let iv ← holding [u, ov] (eval i env)
      standAt p
      holding [u, ov, iv] (setItem ov iv u)
      release [u, ov, iv] []) := by
  cases i <;> first | rfl | (simp [ixB] at h)
/-- new lists -/
def compF (cc : Cc) (f : Expr → Option IE) : Expr → Option IE
  | .List es _ => (compL f es).map .lst
  | .Call (.Name x _) [a] [] _ => if x = "list" then (if (glB cc x && plainB a) = true then (f a).map fun i => .op .list [i] else none) else none
  | .BoolOp .Or [a, b] _ => match compF cc f a, compF cc f b with
    | some ia, some ib => some (.or ia ib)
    | _, _ => none
  | _ => none
def locals2 (cc : Cc) (x y : Str) : Bool := (cc.sc.names.lookup x == some .local) && (cc.sc.names.lookup y == some .local) && !(x == y)
def compS (mvf : Bool) : Nat → Cc → Stmt → Option IS
  | 0, _, _ => none
  | n + 1, cc, st => match st with
    | .Assign [.Name x p'] v pos =>
      if locB cc x = true then match ixOf cc x with
        | none => none
        | some i =>
          if cc.mv.contains x = true then (if swB v = true then (compF cc (compE 60 cc) v).map (.setm i) else none)
          else match v with
            | .ListComp e [⟨tg, it, cs, 0⟩] scope cp => if ((cc.sc.kind == .function) && (cc.sc.names.lookup x == some .local) && (p'.line == cp.line) && !(scope.names.any fun (m, k) => m == x && (k == .local || k == .cell))) = true
              then (compE 60 cc v).map (.set (.one i)) else none
            | v => if swB v = true then (compE 60 cc v).map (.set (.one i)) else none
      else none
    | .Assign [.Tuple [.Name x px, .Name y py] kt pt] (.Tuple [a, b] k2 pt2) pos =>
      if (locals2 cc x y && (px.line == py.line) && (cc.sc.kind == .function) && plainB a && plainB b && !([a, b].all (foldedForSure 8)) && !([a, b].all (constantsAlone 8))) = true then
        match ixOf cc x, ixOf cc y, compE 60 cc a, compE 60 cc b with
        | some i, some j, some ia, some ib => if i = j then none else some (.set2 i j ia ib)
        | _, _, _, _ => none
      else none
    | .Assign [.Tuple es kt pt] v pos => if (swB v && tupB v) = true then match compTg cc (.Tuple es kt pt), compE 60 cc v with
        | some (.tup is), some iv => some (.set (.tup is) iv)
        | _, _ => none else none
    | .Assign [.Subscript o i p'] v pos => if (ixB i && swB v) = true then match compE 60 cc o, compE 60 cc i, compE 60 cc v with
        | some io, some ii, some iv => some (.setix io ii iv)
        | _, _, _ => none else none
    | .Expr (.Call (.Attribute o m apos) [v] [] cpos) pos => if m = "append" then
        (if (attB o && (apos.endLine == cpos.line) && plainB v) = true then match compE 60 cc o, compE 60 cc v with
          | some io, some iv => some (.app io iv)
          | _, _ => none else none)
        else (compE 60 cc (.Call (.Attribute o m apos) [v] [] cpos)).map .expr
    | .Expr e pos => if swB e = true then (compE 60 cc e).map .expr else none
    | .Return (some e) pos => if cc.keep = true then (match compF cc (compE 60 cc) e with
        | some ie => some (.retm ie)
        | none => (compE 60 cc e).map .ret) else (compE 60 cc e).map .ret
    | .Return none pos => some .retN
    | .If c a b pos => match compE 60 cc c, compB (compS mvf n cc) a, compB (compS mvf n cc) b with
      | some ic, some ia, some ib => some (.ife ic ia ib)
      | _, _, _ => none
    | .For tg it b [] pos => match compIter cc (compE 60 cc) it (isTup tg), compTg cc tg, compB (compS mvf n cc) b with
      | some iit, some t, some ib => some (.for_ t iit ib)
      | _, _, _ => none
    | .While c b [] pos => match compE 60 cc c, compB (compS mvf n cc) b with
      | some ic, some ib => some (.while_ ic ib)
      | _, _ => none
    | .Break pos => some .brk
    | .Continue pos => some .cont
    | .Raise (some (.Call (.Name x _) es [] _)) none pos => if (okName x && glB cc x && cc.mkr x) = true then (compL (compE 60 cc) es).map (.raise x) else none
    | .Try body [.ExceptHandler (some (.Name x _)) (some n2) [.Assign [.Name m _] (.Name n1 _) _] _] [] [] pos =>
      if (okName x && glB cc x && okName n2 && (n1 == n2) && locals2 cc n2 m && true) = true then match cc.cls x, ixOf cc n2, ixOf cc m, compB (compS mvf n cc) body with
        | some l, some i, some j, some ib => some (.try_ ib l i j)
        | _, _, _, _ => none
      else none
    | _ => none
where compB (f : Stmt → Option IS) : List Stmt → Option (List IS)
  | [] => some []
  | s :: r => match f s, compB f r with
    | some a, some b => some (a :: b)
    | _, _ => none

theorem compE_lc {cc : Cc} {e tg it : Expr} {cs : List Expr} {scope : Scope} {p : Pos} : compE 60 cc (.ListComp e [⟨tg, it, cs, 0⟩] scope p) =
    (match ownOf cc (tgNames tg), compIter cc (compE 59 cc) it (isTup tg), compTg (cc.blk scope) tg, compL (compE 59 (cc.blk scope)) cs, compE 59 (cc.blk scope) e with
      | some own, some iit, some t, some ics, some ie => if (blkC cc.N cc.sc scope own && decide (cs.length ≤ 1)) = true then some (.lc (own.map (·.2)) t iit ics ie) else none
      | _, _, _, _, _ => none) := rfl
section
variable {T : Tb} {Φ : Phi} {cc : Cc} {X : Cx}
theorem compF_ok (h : CtxOk T Φ cc X) {f : Expr → Option IE} (hf : FOk T Φ X f) : ∀ {e : Expr} {ie : IE}, compF cc f e = some ie → TyF T Φ X e ie := by
  intro e
  fun_induction compF cc f e with
  | case1 es p =>
    intro ie c
    obtain ⟨is, hi, rfl⟩ := Option.map_eq_some_iff.mp c
    exact tf_lst (compL_ok hf hi).1
  | case2 p a p' hg =>
    intro ie c
    obtain ⟨hg, hp⟩ := Bool.and_eq_true_iff.mp hg
    obtain ⟨ia, hi, rfl⟩ := Option.map_eq_some_iff.mp c
    exact tf_list h.K rfl (h.gl hg) (h.blt _ (by decide +kernel)) (hf _ ia hi).1 (plain_star hp _ _)
  | case3 => intro ie c; cases c
  | case4 => intro ie c; cases c
  | case5 a b p ia ib h1 h2 ih1 ih2 =>
    intro ie c
    cases c
    exact tf_or h.K (ih1 h2) (tf_one (ih2 h1))
  | case6 => intro ie c; cases c
  | case7 => intro ie c; cases c
theorem ty_setLc {i : Nat} {y : Str} {py pos spos : Pos} {elt iter tg : Expr} {cs : List Expr} {ie : IE} {it : IT} {ics : List IE} {scope : Scope} {own : List (Str × Nat)} {t : Tg} (hK : X.K = T.K) (hc : X.calm = true) (hN : X.N.Nodup) (hy : X.N[i]? = some y) (hyl : X.env.scope.names.lookup y = some .local)
    (hsw : swapsWith (.ListComp elt [⟨tg, iter, cs, 0⟩] scope pos) (some (.Name y py)) spos.line X.env = pure true) (hi : TyI T Φ X tg iter it) (ok : BlkOk X.N X.env.scope scope own)
    (hv : ∀ i ∈ (match t with | .one i => [i] | .tup is => is), i ∈ own.map (·.2))
    (hg : ∀ (s : Shared) (H : Hp) (C : Addr) (cl : List (Str × Addr)) (fp : List Addr), PG (X.blk s H scope (compEnvC scope cl C X.env) fp) tg (gT X.K t))
    (ht : ∀ (s : Shared) (H : Hp) (C : Addr) (cl : List (Str × Addr)) (fp : List Addr), TyC T Φ (X.blk s H scope (compEnvC scope cl C X.env) fp) cs ics)
    (he : ∀ (s : Shared) (H : Hp) (C : Addr) (cl : List (Str × Addr)) (fp : List Addr), TyE T Φ (X.blk s H scope (compEnvC scope cl C X.env) fp) elt ie) (hs : ∀ x, foldedSetIterable iter X.env x = pure x) :
    TyS T Φ X (.Assign [.Name y py] (.ListComp elt [⟨tg, iter, cs, 0⟩] scope pos) spos) (.set (.one i) (.lc (own.map (·.2)) t it ics ie)) := by
  intro ρ μ σ H F A r D E tk s er e p
  refine wS_of (ps_setLc (g := gT X.K t) (tt := fun σ H Q => ∀ s H0 C cl fp, wC (X.blk s H0 scope (compEnvC scope cl C X.env) fp) cs σ H Q) (te := fun σ H Q => ∀ s H0 C cl fp, wE (X.blk s H0 scope (compEnvC scope cl C X.env) fp) elt σ H Q)
    hc hN hy hyl hsw pi_w ok hg (fun s H C cl fp => ⟨fun pins st σ H' Q I h => h s H C cl fp pins st I⟩) (fun s H C cl fp => ⟨fun pins st σ H' Q I h => h s H C cl fp pins st I⟩) hs) ?_
  have e0 : (evE Φ (.lc (own.map (·.2)) t it ics ie) ρ μ).st ρ (fun w μ1 => some (.nx (ρ.set i (some w)), μ1)) = some r := e
  rcases st_some e0 with ⟨d, m, e1, rfl⟩ | ⟨w, m, e1, e2⟩
  · exact ty_lc hK hc hN hi ok hv hg ht he ρ μ σ H F A _ _ E tk s er e1 fun cls dd H' F' A' x s' xr => p cls dd σ H' F' A' x s' (er.mono x) xr
  · cases e2
    exact ty_lc hK hc hN hi ok hv hg ht he ρ μ σ H F A _ _ E tk s er e1 fun v H1 F1 A1 x s1 r1 => p _ H1 F1 A1 x s1 ((er.mono x).set r1)
theorem sw2_ok {x y : Str} {px py pt pt2 : Pos} {kt k2 : Nat} {a b : Expr} {env : PySem.Env} (h1 : env.kindOf x = some .local) (h2 : env.kindOf y = some .local) (h3 : (x == y) = false) (h4 : (px.line == py.line) = true) (hb : env.scope.kind = .function)
    (hp1 : plainB a = true) (hp2 : plainB b = true) (h5 : [a, b].all (foldedForSure 8) = false) (h6 : [a, b].all (constantsAlone 8) = false) :
    swappedStores [.Tuple [.Name x px, .Name y py] kt pt] (.Tuple [a, b] k2 pt2) env = pure (some [x, y]) := by
  have hk : env.blockKind = .function := by unfold PySem.Env.blockKind; rw [hb]; rfl
  have hy : (y == x) = false := by
    cases q : y == x with
    | false => rfl
    | true =>
      have : y = x := by simpa using q
      subst this
      simp at h3
  have e4 : px.line = py.line := by simpa using h4
  have hs : ([a, b].any fun | .Starred .. => true | _ => false) = false := by
    cases a <;> cases b <;> first | rfl | (simp [plainB] at hp1; done) | (simp [plainB] at hp2; done)
  unfold swappedStores
  simp only [List.length_cons, List.length_nil]
  simp only [hk, hs, h5, h6, h1, h2, Expr.pos, List.head?_cons, Option.map_some, Option.getD_some, List.filterMap_cons, List.filterMap_nil, e4, beq_self_eq_true, Bool.and_self, if_true]
  simp [List.eraseDups_cons, hy, h3]
  intro z
  exfalso
  rcases z with z | z
  · cases a <;> first | (cases z; done) | (simp [plainB] at hp1)
  · cases b <;> first | (cases z; done) | (simp [plainB] at hp2)
theorem ps_tup {es : List Expr} {kt : Nat} {pt pos : Pos} {v : Expr} {iv : IE} {is : List Nat} (h : CtxOk T Φ cc X) (hv : TyE T Φ X v iv) (hg : PG X (.Tuple es kt pt) (gT X.K (.tup is))) (hs : swapsWith v (some (.Tuple es kt pt)) pos.line X.env = pure false) (hw : swappedStores [.Tuple es kt pt] v X.env = pure none) :
    TyS T Φ X (.Assign [.Tuple es kt pt] v pos) (.set (.tup is) iv) := by
  intro ρ μ σ H F A r D E tk s er e p
  simp only [exS] at e
  refine wS_of (ps_asg pe_w hg hs hw rfl) (hv.st tk s er e p fun w μ1 v H1 F1 A1 x s1 er1 r1 e1 p1 => ?_)
  split at e1
  · cases e1
  · rename_i d μ2 hd
    obtain ⟨F2, s2, sb, rp⟩ := s1.toD r1 hd
    have x2 : Ext F1 A1 F2 A1 := ⟨sb, List.prefix_refl _⟩
    split at e1
    · cases e1
    · rename_i ρ1 hput
      cases e1
      exact gT_ok (t := .tup is) hput rp s2.sub (er1.mono x2) h.K fun σ' er' _ => p1 σ' H1 F2 A1 x2 s2 er'
theorem compB_ok {f : Stmt → Option IS} (hf : ∀ st is, f st = some is → TyS T Φ X st is) : ∀ {b : List Stmt} {ib : List IS}, compS.compB f b = some ib → TyBl T Φ X b ib
  | [], ib, e => by
    simp only [compS.compB] at e
    cases e
    exact tb_nil
  | s :: r, ib, e => by
    simp only [compS.compB] at e
    split at e
    · rename_i a b h1 h2
      cases e
      exact tb_cons (hf _ _ h1) (compB_ok hf h2)
    · cases e
theorem CtxOk.tr (h : CtxOk T Φ cc X) (pn : List (Addr × Obj)) (xe : Value → Shared → Prop) : CtxOk T Φ cc (X.tr pn xe) where
  K := h.K
  N := h.N
  nd := h.nd
  sc := h.sc
  fn := h.fn
  calm := h.calm
  un := h.un
  blt := h.blt
  own := fun x n hx => (h.own x n hx).sim ⟨rfl, rfl, rfl, rfl, rfl⟩ fun _ z => z
  cst := h.cst
  cls := fun x l hx => (h.cls x l hx).sim ⟨rfl, rfl, rfl, rfl, rfl⟩
  err := h.err
  mkr := fun x hx => (h.mkr x hx).sim ⟨rfl, rfl, rfl, rfl, rfl⟩ fun _ z => z
theorem compS_ok {mvf : Bool} : ∀ (n : Nat) {X : Cx} (hst : X.stack = X.env :: X.outer) (hfr : X.env.frame = some X.env.locals) (hp : PassesOwn (model X.prog X.w) X.A X.env X.xe) (h : CtxOk T Φ cc X) (st : Stmt) (is : IS), compS mvf n cc st = some is → TyS T Φ X st is
  | 0, X, hst, hfr, hp, h, st, is, c => by simp only [compS] at c; cases c
  | n + 1, X, hst, hfr, hp, h, st, is, c => by
    have hf : FOk T Φ X (compE 60 cc) := compE_ok 60 h
    have ih := compS_ok (mvf := mvf) n hst hfr hp h
    unfold compS at c
    split at c
    · -- name = e
      rename_i x p' v pos
      split at c
      · rename_i hl
        obtain ⟨l1, l2⟩ := h.loc hl
        split at c
        · cases c
        · rename_i i hi
          have hN : X.N[i]? = some x := by rw [h.N]; exact ixOf_ok hi
          split at c
          · split at c
            · rename_i hs
              obtain ⟨iv, hv, rfl⟩ := Option.map_eq_some_iff.mp c
              exact ty_setm h.nd hN l1 (compF_ok h hf hv) (swB_ok hs _ _ _) l2
            · cases c
          · split at c
            · rename_i e tg it cs scope cp
              split at c
              · rename_i hc
                obtain ⟨iv, hv, rfl⟩ := Option.map_eq_some_iff.mp c
                simp only [Bool.and_eq_true, Bool.not_eq_true'] at hc
                obtain ⟨⟨⟨c1, c2⟩, c3⟩, c4⟩ := hc
                have hk : X.env.scope.kind = .function := by rw [h.sc]; simpa using c1
                have hy : X.env.scope.names.lookup x = some .local := by rw [h.sc]; simpa using c2
                rw [compE_lc] at hv
                split at hv
                · rename_i own iit t ics ie' h1 h2 h3 h4 h5
                  split at hv
                  · rename_i hb
                    cases hv
                    obtain ⟨hb, hcs⟩ := Bool.and_eq_true_iff.mp hb
                    have hf' : FOk T Φ X (compE 59 cc) := compE_ok 59 h
                    obtain ⟨ti, tf⟩ := compIter_ok h hf' h2
                    have bo := blkOk_by hb
                    rw [← h.N, ← h.sc] at bo
                    exact ty_setLc h.K h.calm h.nd hN hy (sw_true hk hy c3 c4) ti bo (lc_slots (cc := cc) (c2 := cc.blk _) rfl h1 h3) (fun s H C cl fp => compTg_ok (h.blk _ s H C cl fp) h3) (fun s H C cl fp => compC_ok (compE_ok 59 (h.blk _ s H C cl fp)) (by simpa using hcs) h4)
                      (fun s H C cl fp => (compE_ok 59 (h.blk _ s H C cl fp) _ _ h5).1) (foldB_ok tf X.env)
                  · cases hv
                · cases hv
              · cases c
            · split at c
              · rename_i hs
                obtain ⟨iv, hv, rfl⟩ := Option.map_eq_some_iff.mp c
                exact ty_set h.nd hN l1 (hf _ _ hv).1 (swB_ok hs _ _ _) l2
              · cases c
      · cases c
    · -- a, b = x, y
      split at c
      · rename_i hc
        split at c
        · rename_i i j ia ib h1 h2 h3 h4
          split at c
          · cases c
          · rename_i hij
            cases c
            simp only [Bool.and_eq_true, Bool.not_eq_true', locals2] at hc
            obtain ⟨⟨⟨⟨⟨⟨⟨⟨q1, q2⟩, q3⟩, q4⟩, q5⟩, q6⟩, q7⟩, q8⟩, q9⟩ := hc
            have kl : ∀ z, (List.lookup z cc.sc.names == some NameKind.local) = true → X.env.scope.names.lookup z = some .local := fun z hz => by rw [h.sc]; simpa using hz
            have kk : X.env.scope.kind = .function := by rw [h.sc]; simpa using q5
            exact ty_set2 h.calm h.nd (by rw [h.N]; exact ixOf_ok h1) (by rw [h.N]; exact ixOf_ok h2) hij (kl _ q1) (kl _ q2) (hf _ _ h3).1 (hf _ _ h4).1 (plain_star q6 _ _) (plain_star q7 _ _) (sw2_ok (kl _ q1) (kl _ q2) q3 q4 kk q6 q7 q8 q9)
        · cases c
      · cases c
    · -- a, b = e
      split at c
      · rename_i hs
        obtain ⟨hs, ht⟩ := Bool.and_eq_true_iff.mp hs
        split at c
        · rename_i is' iv ht' hv
          cases c
          exact ps_tup h (hf _ _ hv).1 (compTg_ok h ht') (swB_ok hs _ _ _) (swNone ht)
        · cases c
      · cases c
    · -- o[i] = v
      split at c
      · rename_i hc
        obtain ⟨hi, hs⟩ := Bool.and_eq_true_iff.mp hc
        split at c
        · rename_i io ii iv h1 h2 h3
          cases c
          exact ty_setix (hf _ _ h1).1 (hf _ _ h2).1 (hf _ _ h3).1 (asgSub hi) (by unfold swapsWithSole; exact swB_ok hs _ _ _) swSub rfl
        · cases c
      · cases c
    · -- o.append(v)
      split at c
      · rename_i hm
        subst hm
        split at c
        · rename_i hc
          simp only [Bool.and_eq_true] at hc
          obtain ⟨⟨ha, hl⟩, hp⟩ := hc
          split at c
          · rename_i io iv h1 h2
            cases c
            refine ty_app (hf _ _ h1).1 (hf _ _ h2).1 (swB_ok rfl _ _ _) (fun {r to t} hm ho hs => pe_bm PySem.F.plainAttrs_list PySem.F.slot_list_append PySem.F.type_list_append hm ho hs (attB_ok ha _ _) ?_ hl (plain_star hp _ _) (by rfl)) (plain_star hp _ _)
            rw [plain_all (by simp [hp])]
            rfl
          · cases c
        · cases c
      · obtain ⟨i, hi, rfl⟩ := Option.map_eq_some_iff.mp c
        exact ty_expr (hf _ _ hi).1 (swB_ok rfl _ _ _)
    · split at c
      · rename_i hs
        obtain ⟨i, hi, rfl⟩ := Option.map_eq_some_iff.mp c
        exact ty_expr (hf _ _ hi).1 (swB_ok hs _ _ _)
      · cases c
    · split at c
      · split at c
        · rename_i ie hi
          cases c
          exact ty_retm (compF_ok h hf hi)
        · obtain ⟨i, hi, rfl⟩ := Option.map_eq_some_iff.mp c
          exact ty_ret (hf _ _ hi).1
      · obtain ⟨i, hi, rfl⟩ := Option.map_eq_some_iff.mp c
        exact ty_ret (hf _ _ hi).1
    · cases c; exact ty_retN
    · split at c
      · rename_i ic ia ib h1 h2 h3
        cases c
        exact ty_if (hf _ _ h1).2 (compB_ok ih h2) (compB_ok ih h3)
      · cases c
    · split at c
      · rename_i iit t ib h1 h2 h3
        cases c
        obtain ⟨ti, tf⟩ := compIter_ok h hf h1
        exact ty_for hp h.K h.calm ti (compTg_ok h h2) (compB_ok ih h3) (foldB_ok tf X.env)
      · cases c
    · split at c
      · rename_i ic ib h1 h2
        cases c
        exact ty_while hp (hf _ _ h1).2 (compB_ok ih h2)
      · cases c
    · cases c; exact ty_brk
    · cases c; exact ty_cont
    · split at c
      · rename_i x xp es cp pos hc
        simp only [Bool.and_eq_true] at hc
        obtain ⟨⟨ho, hg⟩, hm⟩ := hc
        obtain ⟨is', hi, rfl⟩ := Option.map_eq_some_iff.mp c
        obtain ⟨tl, pl⟩ := compL_ok hf hi
        cases es with
        | nil =>
          simp only [compL] at hi
          cases hi
          exact ty_raise0 (h.mkr _ hm) (h.gl hg) h.calm (okName_ok ho).1
        | cons a r =>
          simp only [List.all_cons, Bool.and_eq_true] at pl
          exact ty_raise (h.mkr _ hm) (h.gl hg) tl h.calm (okName_ok ho).1 pl.1 pl.2
      · cases c
    · split at c
      · rename_i hc
        split at c
        · rename_i l i j ib h1 h2 h3 h4
          cases c
          simp only [Bool.and_eq_true, locals2, Bool.not_eq_true'] at hc
          obtain ⟨⟨⟨⟨⟨q1, q2⟩, q3⟩, q4⟩, ⟨⟨q5, q6⟩, q7⟩⟩, q8⟩ := hc
          have kl : ∀ z, (List.lookup z cc.sc.names == some NameKind.local) = true → X.env.kindOf z = some .local := fun z hz => by
            have : X.env.scope.names.lookup z = some .local := by rw [h.sc]; simpa using hz
            exact this
          have e4 := eq_of_beq q4
          subst e4
          have hij : i ≠ j := fun z => by
            subst z
            have a1 := ixOf_ok h2
            have a2 := ixOf_ok h3
            rw [a1] at a2
            have a3 := Option.some.inj a2
            rw [a3] at q7
            simp at q7
          exact ty_try hst hfr h.nd (by rw [h.N]; exact ixOf_ok h2) (by rw [h.N]; exact ixOf_ok h3) hij (kl _ q5) (kl _ q6) (h.gl q2) q1 (h.cls _ l h1) q3 fun pn xe t2 => compB_ok (compS_ok (mvf := mvf) n (X := X.tr pn xe) hst hfr t2 (h.tr pn xe)) h4
        · cases c
      · cases c
    · cases c
end
end PI
/-! PI13: defs; the whole text. -/
namespace PI
open PySem PySem.Spec PyProof.Rows L2

theorem start_rel {T : Tb} {F : Hp} {A : List Addr} : ∀ {ws : List W} {vs : List V} (m : Nat), RepWs T F A ws vs → ERel T (ws.map some ++ List.replicate m none) (vs.map some ++ List.replicate m none) F A := by
  intro ws vs m r
  have hl : ws.length = vs.length := Paired.length r
  refine ⟨by simp [hl], fun i u e => ?_⟩
  by_cases hi : i < ws.length
  · rw [List.getElem?_append_left (by simpa using hi)] at e
    rw [List.getElem?_append_left (by simpa using (hl ▸ hi : i < vs.length))]
    rw [List.getElem?_map] at e
    rw [List.getElem?_map]
    obtain ⟨z, hz, hz2⟩ := Option.map_eq_some_iff.mp e
    cases hz2
    obtain ⟨v, h1, h2⟩ := paired_get r hz
    exact ⟨v, by rw [h1]; rfl, h2⟩
  · rw [List.getElem?_append_right (by simpa using hi)] at e
    obtain ⟨_, z⟩ := List.getElem?_eq_some_iff.mp e
    simp at z

/-- a def of the text, with its small form -/
structure Entry where
  name : Str
  qual : Str
  st : Stmt
  N : List Str
  ps : List Str
  mv : List Str
  d : Df
/-- a class of errors of the text -/
structure EntX where
  name : Str
  fo : Option (Str × Option Str)
/-- the text's own names -/
structure Txt where
  L : List Entry
  M : List EntX
  cst : Str → Option D
  kf : Str → List Str → Option (List Nat)
  cls : Str → Option (List Str)
def Txt.own (t : Txt) (y : Str) : Option Nat := match t.L.find? fun e => e.name == y with
  | some e => some e.d.np
  | none => match t.M.find? fun e => e.name == y with
    | some e => some (if e.fo.isSome then 1 else 0)
    | none => none
def Txt.tab (t : Txt) (y : Str) : Option Gd := match t.L.find? fun e => e.name == y with
  | some e => some (.fn e.d)
  | none => match t.M.find? fun e => e.name == y with
    | some e => some (.exc e.name e.fo)
    | none => none
def Txt.mkr (t : Txt) (y : Str) : Bool := (t.L.find? fun e => e.name == y).isNone && (t.M.find? fun e => e.name == y).isSome
def Txt.cc (t : Txt) (N : List Str) (sc : Scope) (mv : List Str) (keep : Bool) : Cc := { N := N, sc := sc, fnb := fun _ => true, mv := mv, own := t.own, cst := t.cst, keep := keep, kf := t.kf, cls := t.cls, mkr := t.mkr }
/-- the program and the module of a context -/
structure Comp (P : Program) (w : World) (K : PySem.W.Frag) (mg : Str → Option Value) (base : Heap) (Y : Cx) : Prop where
  prog : Y.prog = P
  w : Y.w = w
  K : Y.K = K
  mg : Y.mg = mg
  base : Y.base = base
section
variable {P : Program} {w : World} {T : Tb} {mg : Str → Option Value} {base : Heap} {t : Txt}
theorem Comp.sim {X Y : Cx} (c : Comp P w T.K mg base X) (e : Sim X Y) : Comp P w T.K mg base Y := ⟨e.prog.trans c.prog, e.w.trans c.w, e.K.trans c.K, e.mg.trans c.mg, e.base.trans c.base⟩
/-- what is called x is there, and to the depth k it is what phi says -/
structure Known (P : Program) (w : World) (T : Tb) (mg : Str → Option Value) (base : Heap) (t : Txt) (k : Nat) (x : Str) (n : Nat) : Prop where
  len : ∀ ws μ r, phi t.tab k x ws μ = some r → ws.length = n
  ex : ∃ fa, mg x = some (.ref fa) ∧ PySem.W.keepIn T.K (.ref fa) = true ∧ ∀ Y, Comp P w T.K mg base Y → Room (2 * k) Y.A → (∀ us vs, Vals vs us → RunAt T (phi t.tab k) Y fa x n us [] vs) ∧
    ∀ ks pm ws zs vs, t.kf x ks = some pm → Vals zs ws → zs.length = ks.length → permL pm zs = some vs → RunAt T (phi t.tab k) Y fa x n [] (ks.zip ws) vs
structure KnownM (P : Program) (w : World) (T : Tb) (mg : Str → Option Value) (base : Heap) (t : Txt) (k : Nat) (x : Str) : Prop where
  ex : ∃ C, mg x = some (.ref C) ∧ PySem.W.keepIn T.K (.ref C) = true ∧ ∀ Y, Comp P w T.K mg base Y → Room (2 * k) Y.A → (∀ us vs, Vals vs us → MakeAt T (phi t.tab k) Y C x us [] vs) ∧
    ∀ ks pm ws zs vs, t.kf x ks = some pm → Vals zs ws → zs.length = ks.length → permL pm zs = some vs → MakeAt T (phi t.tab k) Y C x [] (ks.zip ws) vs
theorem Known.callee {k : Nat} {x : Str} {n : Nat} {X : Cx} (h : Known P w T mg base t k x n) (c : Comp P w T.K mg base X) (hr : Room (2 * k) X.A) : Callee T (phi t.tab k) t.kf X x n := by
  obtain ⟨fa, h1, h2, h3⟩ := h.ex
  exact ⟨h.len, fa, 2 * k, by rw [c.mg]; exact h1, by rw [c.K]; exact h2, hr, fun Y e hY => h3 Y (c.sim e) hY⟩
theorem KnownM.maker {k : Nat} {x : Str} {X : Cx} (h : KnownM P w T mg base t k x) (c : Comp P w T.K mg base X) (hr : Room (2 * k) X.A) : Maker T (phi t.tab k) t.kf X x := by
  obtain ⟨C, h1, h2, h3⟩ := h.ex
  exact ⟨C, 2 * k, by rw [c.mg]; exact h1, by rw [c.K]; exact h2, hr, fun Y e hY => h3 Y (c.sim e) hY⟩
/-- what a def's call does -/
theorem run_of_fn {Φ : Phi} {x : Str} {n k : Nat} {fa : Addr} {fd : FuncData} {ps : List Str} (ok : FnOk P w T.K mg base (L2.CX P w) k fa fd ps (spF T Φ x n)) (hb : Binds T.K fd ps [])
    (hkb : ∀ ks pm, t.kf x ks = some pm → ∀ (s : Shared) (ws us : List Value), T.K.In s.heap → ws.length = ks.length → permL pm ws = some us → BindsTo s fd ⟨[], ks.zip ws⟩ (ps.zip us)) {Y : Cx} (c : Comp P w T.K mg base Y) (hr : Room k Y.A) :
    (∀ us vs, Vals vs us → RunAt T Φ Y fa x n us [] vs) ∧ ∀ ks pm ws zs vs, t.kf x ks = some pm → Vals zs ws → zs.length = ks.length → permL pm zs = some vs → RunAt T Φ Y fa x n [] (ks.zip ws) vs := by
  obtain ⟨rfl, rfl, hK, rfl, rfl⟩ := c
  rw [← hK] at ok hb
  refine ⟨fun us vs rv pins σ H s Q E tk I h => run_fnS (E := WE E) ok hr hb (passAt tk σ) I rv h, fun ks pm ws zs vs hk rz hl hp pins σ H s Q E tk I h => ?_⟩
  obtain ⟨us, hu, ru⟩ : ∃ us, permL pm ws = some us ∧ Vals vs us := by
    clear h hk hl
    induction pm generalizing vs with
    | nil =>
      simp only [permL] at hp
      cases hp
      exact ⟨[], rfl, .nil⟩
    | cons i pm ih =>
      simp only [permL] at hp
      split at hp
      · rename_i z l h1 h2
        cases hp
        obtain ⟨u, h3, h4⟩ := paired_get rz h1
        obtain ⟨us, h5, h6⟩ := ih _ h2
        exact ⟨u :: us, by simp only [permL, h3, h5], .cons h4 h6⟩
      · cases hp
  refine wpAny_call (codeAny_mono (ok.run Y.A Y.stack s H ⟨[], ks.zip ws⟩ us vs Q _ hr I.env0 (hkb ks pm hk s ws us (hK ▸ I.kIn) (by rw [← hl]; exact (Paired.length rz).symm) hu) ru h) fun r s' hq => ?_)
  cases r with
  | error e => exact (passAt (W := E) tk σ) pins H s e s' I hq
  | ok fl =>
    cases fl with
    | ret u => exact I.after hq
    | next => exact False.elim hq
    | brk => exact False.elim hq
    | cont => exact False.elim hq

/-- what is known of the text's names at a depth -/
structure Env1 (P : Program) (w : World) (T : Tb) (mg : Str → Option Value) (base : Heap) (t : Txt) (k : Nat) : Prop where
  blt : ∀ y ∈ bltNames, mg y = none
  cst : ∀ y z, t.cst y = some z → ∃ u v, mg y = some u ∧ RelV v u ∧ ∀ F, Rep T F z v
  own : ∀ y n, t.own y = some n → Known P w T mg base t k y n
  mkr : ∀ y, t.mkr y = true → KnownM P w T mg base t k y
  cls : ∀ Y, Comp P w T.K mg base Y → ∀ x l, t.cls x = some l → ClsOk T Y x l
  err : ∀ c C, T.ca c = some C → ErrC T.K C fieldNames
theorem Env1.ctx {k : Nat} (h : Env1 P w T mg base t k) {N : List Str} {sc : Scope} {mv : List Str} {keep : Bool} {X : Cx} (c : Comp P w T.K mg base X) (hN : X.N = N) (nd : X.N.Nodup) (hs : X.env.scope = sc) (hf : ∀ x, X.fn x = true) (hc : X.calm = true) (hu : X.A.units + 65 < cLine) (hr : Room (2 * k) X.A) :
    CtxOk T (phi t.tab k) (t.cc N sc mv keep) X where
  K := c.K
  N := hN
  nd := nd
  sc := hs
  fn := hf
  calm := hc
  un := hu
  blt := by rw [c.mg]; exact h.blt
  own := fun x n hx => (h.own x n hx).callee c hr
  cst := by rw [c.mg]; exact h.cst
  cls := fun x l hx => h.cls X c x l hx
  mkr := fun x hx => (h.mkr x hx).maker c hr
  err := by rw [c.K]; exact h.err
/-- THE DEF -/
theorem def_ok {k : Nat} {x qual : Str} {st : Stmt} {fa : Addr} {fd : FuncData} {N ps mv : List Str} {d : Df} (h1 : Env1 P w T mg base t k) (F : FunD T.K x qual (defArgs st) (defBody st) (defScope st) [] [] fa fd) (S : FnScope N ps (defScope st)) (hG : t.tab x = some (.fn d)) (hnp : d.np = ps.length) (hnn : d.nn = N.length)
    (hb : compS.compB (compS true 60 (t.cc N (defScope st) mv d.keep)) (defBody st) = some d.body) : FnOk P w T.K mg base (L2.CX P w) (2 * (k + 1)) fa fd ps (spF T (phi t.tab (k + 1)) x d.np) := by
  have F2 : FnOk P w T.K mg base (L2.CX P w) (2 * k + 1 + 1) fa fd ps (spF T (phi t.tab (k + 1)) x d.np) := by
    refine F.ok S (fun vs H Q E h => by rw [h.1, hnp]) (fun cdv A outer s H vs Q E hr h => ?_)
    obtain ⟨hl, ws, μ, F0, A0, r, rw0, s0, e, po⟩ := h
    simp only [phi, hG, callD] at e
    split at e
    · rename_i hlen
      generalize hX : cxOf (L2.CX P w) P w T.K mg base N qual (defScope st) fa cdv A outer s H E = X
      have cmp : Comp P w T.K mg base X := by
        subst hX
        exact ⟨rfl, rfl, rfl, rfl, rfl⟩
      have hr' : Room (2 * k) X.A := by
        subst hX
        exact hr.mono (Nat.le_succ _)
      have ctx : CtxOk T (phi t.tab k) (t.cc N (defScope st) mv d.keep) X := by
        refine h1.ctx cmp ?_ ?_ ?_ ?_ ?_ ?_ hr'
        · subst hX; rfl
        · subst hX; exact S.nd
        · subst hX; rfl
        · subst hX; exact fun _ => rfl
        · subst hX; rfl
        · subst hX
          have := hr.un
          show (A.deeper _).units + 65 < cLine
          omega
      have tk : Takes X (fun c dd _ h => E c dd h) := by
        subst hX
        exact takes_of rfl rfl rfl rfl
      have hp : PassesOwn (model X.prog X.w) X.A X.env X.xe := by
        subst hX
        exact passes_of rfl
      have hst : X.stack = X.env :: X.outer := by
        subst hX
        rfl
      have hfr : X.env.frame = some X.env.locals := by
        subst hX
        rfl
      have hbody : TyBl T (phi t.tab k) X (defBody st) d.body := compB_ok (compS_ok 60 hst hfr hp ctx) hb
      refine ⟨_, pb_w, ?_⟩
      cases hx : exB (phi t.tab k) d.body (ws.map some ++ List.replicate (d.nn - ws.length) none) μ with
      | none => rw [hx] at e; cases e
      | some q =>
        rw [hx] at e
        have hws : ws.length = vs.length := Paired.length rw0
        have er0 : ERel T (ws.map some ++ List.replicate (d.nn - ws.length) none) (L2.start N vs) F0 A0 := by
          unfold L2.start
          rw [hnn, hws]
          exact start_rel _ rw0
        refine hbody _ μ _ H F0 A0 q _ _ tk s0 er0 hx ?_
        have cutA : ∀ {A' : List Addr}, A0 <+: A' → A'.take μ.length = A0 := fun {A'} h => by
          obtain ⟨B, rfl⟩ := h
          rw [← s0.len, List.take_left']
          rfl
        obtain ⟨fl, m⟩ := q
        cases fl with
        | nx ρ' =>
          simp only [outD] at e
          cases e
          intro σ' H' F' A' x' s' er'
          have s2 := s'.cut μ.length
          rw [cutA x'.pre] at s2
          exact po .non H' F' A0 ⟨x'.sub, List.prefix_refl _⟩ s2 (by simp only [RepW, Rep])
        | bk ρ' => simp only [outD] at e; cases e
        | ct ρ' => simp only [outD] at e; cases e
        | xc dd ρ' =>
          simp only [outD] at e
          cases e
          intro cls dx σ' H' F' A' x' s' er' xr
          have s2 := s'.cut μ.length
          rw [cutA x'.pre] at s2
          exact po cls dx H' F' A0 ⟨x'.sub, List.prefix_refl _⟩ s2 xr
        | rt u =>
          simp only [outD] at e
          split at e
          · cases e
            exact fun v H' F' A' x' s' r' => po v H' F' A' x' s' r'
          · split at e
            · cases e
            · rename_i y m1 hd
              cases e
              intro v H' F' A' x' s' r'
              obtain ⟨F2, s2, sb, rp⟩ := s'.toD r' hd
              have s3 := s2.cut μ.length
              rw [cutA x'.pre] at s3
              exact po v H' F2 A0 ⟨x'.sub.trans sb, List.prefix_refl _⟩ s3 rp
    · cases e
  exact F2
end
end PI
/-! PI19: classes of errors, made. -/
namespace PI
open PySem PySem.Spec PyProof.Rows L2

theorem heap_one (a : Addr) (o : Obj) (h : o.isFreed = false) : ∃ g : Heap, g.get? a = some o := by
  refine ⟨⟨Array.replicate (a + 1) o, {}⟩, Heap.get?_some_iff.mpr ⟨?_, h⟩⟩
  simp
theorem exo_ne {a C : Addr} {d od : Option Addr} {cls : Value} : exo a C d ≠ exAt a cls od := fun z => by
  obtain ⟨g, hg⟩ := heap_one a { cls := cls, dict := od, data := .fields #[] } rfl
  have q : (fun h : Heap => ∃ t1 : Addr, h.get? a = some ({ cls := .ref C, dict := d, data := .fields #[.ref t1, .none, .none, .none, .bool false, .none] } : Obj)) = fun h : Heap => ∃ (oe : Obj) (vs : Array Value), h.get? a = some oe ∧ Zc cls od oe ∧ oe.data = .fields vs := HO.ext.inj z
  have q2 := congrFun q g
  have t : ∃ t1 : Addr, g.get? a = some ({ cls := .ref C, dict := d, data := .fields #[.ref t1, .none, .none, .none, .bool false, .none] } : Obj) := by
    rw [q2]
    exact ⟨_, _, hg, ⟨rfl, rfl⟩, rfl⟩
  obtain ⟨t1, ht⟩ := t
  rw [hg] at ht
  have := congrArg Obj.data (Option.some.inj ht)
  have := Data.fields.inj this
  have := congrArg Array.size this
  simp at this
theorem del_sub {F : Hp} {a b : Addr} {o : HO} (h : L2.del F a b = some o) : F b = some o ∧ b ≠ a := by
  unfold L2.del at h
  split at h
  · cases h
  · exact ⟨h, ‹_›⟩
mutual
theorem rep_del {T : Tb} {F : Hp} {a C : Addr} {od : Option Addr} (ha : F a = some (exo a C od)) : ∀ (d : D) (v : V), Rep T F d v → Rep T (L2.del F a) d v
  | .non, v, h => by simpa only [Rep] using h
  | .bl b, v, h => by simpa only [Rep] using h
  | .int i, v, h => by simpa only [Rep] using h
  | .str s, v, h => by simpa only [Rep] using h
  | .fn f, v, h => by simpa only [Rep] using h
  | .tup ds, v, h => by
    simp only [Rep] at h ⊢
    obtain ⟨b, vs, rfl, s, r⟩ := h
    refine ⟨b, vs, rfl, ?_, reps_del ha ds vs r⟩
    rcases s with (s | ⟨o, s⟩) | s
    · refine .inl (.inl ?_)
      rw [del_ne (at_ne ha s exo_tup)]
      exact s
    · refine .inl (.inr ⟨o, ?_⟩)
      rw [del_ne (at_ne ha s exo_frz)]
      exact s
    · exact .inr s
  | .lst ds, v, h => by
    simp only [Rep] at h ⊢
    obtain ⟨b, vs, rfl, s, r⟩ := h
    refine ⟨b, vs, rfl, ?_, reps_del ha ds vs r⟩
    rw [del_ne (at_ne ha s (fun z => by have z' : HO.ext _ = HO.lst vs := z; cases z'))]
    exact s
  | .scr ds, v, h => by
    simp only [Rep] at h ⊢
    obtain ⟨b, vs, rfl, s, r⟩ := h
    refine ⟨b, vs, rfl, ?_, reps_del ha ds vs r⟩
    rcases s with (s | ⟨o, s⟩) | s
    · refine .inl (.inl ?_)
      rw [del_ne (at_ne ha s (fun z => by have z' : HO.ext _ = HO.lst vs := z; cases z'))]
      exact s
    · refine .inl (.inr ⟨o, ?_⟩)
      rw [del_ne (at_ne ha s exo_frz)]
      exact s
    · exact .inr s
  | .dic ks ds, v, h => by
    simp only [Rep] at h ⊢
    obtain ⟨b, vs, rfl, r, kl, h1, h2, h3⟩ := h
    refine ⟨b, vs, rfl, reps_del ha ds vs r, kl, h1, h2, ?_⟩
    rw [del_ne (at_ne ha h3 (fun z => by have z' : HO.ext _ = HO.dK (kl.zip vs) := z; cases z'))]
    exact h3
  | .ins c ns ds, v, h => by
    simp only [Rep] at h ⊢
    obtain ⟨b, C', dx, vs, rfl, h1, h2, h3, r⟩ := h
    refine ⟨b, C', dx, vs, rfl, h1, ?_, h3, reps_del ha ds vs r⟩
    rw [del_ne (at_ne ha h2 (fun z => by have z' : HO.ext _ = HO.ins C' dx (ns.zip vs) := z; cases z'))]
    exact h2
  | .exc c ns ds, v, h => by
    simp only [Rep] at h ⊢
    obtain ⟨b, C', od', vs, rfl, h1, h2, h3, r, h4⟩ := h
    have hb : b ≠ a := fun z => by
      subst z
      rw [ha] at h2
      exact exo_ne (Option.some.inj h2)
    refine ⟨b, C', od', vs, rfl, h1, ?_, h3, reps_del ha ds vs r, ?_⟩
    · rw [del_ne hb]
      exact h2
    · rcases h4 with z | ⟨dx, z1, z2⟩
      · exact .inl z
      · refine .inr ⟨dx, z1, ?_⟩
        rw [del_ne (at_ne ha z2 (fun z => by have z' : HO.ext _ = HO.xd (ns.zip vs) := z; cases z'))]
        exact z2
theorem reps_del {T : Tb} {F : Hp} {a C : Addr} {od : Option Addr} (ha : F a = some (exo a C od)) : ∀ (ds : List D) (vs : List V), Reps T F ds vs → Reps T (L2.del F a) ds vs
  | [], vs, h => by simpa only [Reps] using h
  | d :: ds, vs, h => by
    simp only [Reps] at h ⊢
    obtain ⟨v, r, rfl, h1, h2⟩ := h
    exact ⟨v, r, rfl, rep_del ha d v h1, reps_del ha ds r h2⟩
end

section
variable {T : Tb} {Φ : Phi} {μ : Mu} {H F : Hp} {A : List Addr}
/-- all that stands and doesn't change -/
def wide (H F : Hp) (A : List Addr) : Hp := fun b => match F b with
  | some o => some o
  | none => if b ∈ A then none else H b
theorem wide_sub : Sub F (wide H F A) := fun b o e => by
  unfold wide
  rw [e]
theorem SRel.wide (s : SRel T μ H F A) : SRel T μ H (wide H F A) A := by
  refine ⟨fun b o e => ?_, s.len, s.nod, s.thr, fun k a o h1 h2 => ?_⟩
  · unfold PI.wide at e
    split at e
    · rename_i u hu
      cases e
      exact s.sub _ _ hu
    · split at e
      · cases e
      · exact e
  · have hA : a ∈ A := List.mem_of_getElem? h1
    refine (s.obj k a o h1 h2).mono wide_sub fun ho => ⟨?_, rfl⟩
    unfold PI.wide
    rw [(s.obj k a o h1 h2).nF ho]
    exact if_pos hA
theorem wide_none (s : SRel T μ H F A) {F' H' : Hp} {A' : List Addr} {μ' : Mu} (s' : SRel T μ' H' F' A') (x : Ext (wide H F A) A F' A') {b : Addr} (hb : H' b = none) : H b = none := by
  have h1 : F' b = none := s'.sub.free hb
  have h2 : wide H F A b = none := x.sub.free h1
  unfold wide at h2
  split at h2
  · cases h2
  · split at h2
    · rename_i hA
      obtain ⟨B, rfl⟩ := x.pre
      exact absurd hb (s'.thr b (List.mem_append_left _ hA))
    · exact h2
end

/-- what an error's own __init__ promises -/
def spIni (T : Tb) (K : PySem.W.Frag) (Φ : Phi) (C : Addr) (f : Str) (ie : IE) : Sp := fun vs H Q E => ∃ a y w μ F A r, vs = [.ref a, y] ∧ H a = some (exo a C none) ∧ RepW T F A w y ∧ SRel T μ H F A ∧ F a = some (exo a C none) ∧ evIni ie Φ w μ = some r ∧
  (match r with
    | .ok d μ' => ∀ z H' F' A' dx, Ext F A F' A' → SRel T μ' H' F' A' → μ'.length = μ.length → Rep T F' d z → H' dx = none → dx ≠ a → Q .non (upd (upd H' dx (exd dx [(f, z)])) a (exo a C (some dx)))
    | .er d μ' => ∀ cls dd H' F' A', Ext F A F' A' → SRel T μ' H' F' A' → XRep T F' d cls dd → E cls dd H')
section
variable {P : Program} {w : World} {T : Tb} {mg : Str → Option Value} {base : Heap} {t : Txt} {k : Nat}
theorem ini_ok {x qual p : Str} {st : Stmt} {fa C : Addr} {fd : FuncData} {f : Str} {ie : IE} {e : Expr} {p1 p2 pos : Pos} (h1 : Env1 P w T mg base t k) (F : FunD T.K x qual (defArgs st) (defBody st) (defScope st) [] [] fa fd) (S : FnScope ["self", p] ["self", p] (defScope st)) (hb : defBody st = [.Assign [.Attribute (.Name "self" p1) f p2] e pos])
    (hv : Vis (defScope st) "self") (he : compE 60 (t.cc ["self", p] (defScope st) [] false) e = some ie) (hs : swB e = true) (hC : OexC T.K C) (hno : PySem.W.findIn T.K (.ref C) f = some none) :
    FnOk P w T.K mg base (L2.CX P w) (2 * k + 1) fa fd ["self", p] (spIni T T.K (phi t.tab k) C f ie) := by
  refine F.ok S (fun vs H Q E h => by obtain ⟨a, y, _, _, _, _, _, rfl, _⟩ := h; rfl) (fun cdv A outer s H vs Q E hr h => ?_)
  obtain ⟨a, y, w0, μ, F0, A0, r, rfl, ha, rw0, s0, hFa, ev, po⟩ := h
  generalize hX : cxOf (L2.CX P w) P w T.K mg base ["self", p] qual (defScope st) fa cdv A outer s H E = X
  have cmp : Comp P w T.K mg base X := by
    subst hX
    exact ⟨rfl, rfl, rfl, rfl, rfl⟩
  have hr' : Room (2 * k) X.A := by
    subst hX
    exact hr
  have ctx : CtxOk T (phi t.tab k) (t.cc ["self", p] (defScope st) [] false) X := by
    refine h1.ctx cmp ?_ ?_ ?_ ?_ ?_ ?_ hr'
    · subst hX; rfl
    · subst hX; exact S.nd
    · subst hX; rfl
    · subst hX; exact fun _ => rfl
    · subst hX; rfl
    · subst hX
      have := hr.un
      show (A.deeper _).units + 65 < cLine
      omega
  have tk : Takes X (fun c dd _ h => E c dd h) := by
    subst hX
    exact takes_of rfl rfl rfl rfl
  have hself : PE X (.Name "self" p1) (tVar 0) := by
    refine pv 0 ?_ ?_
    · rw [ctx.N]; rfl
    · rw [ctx.sc]; exact hv
  have hE := (compE_ok 60 ctx e ie he).1
  rw [hb]
  refine ⟨_, pss_one (ps_ost (f := f) hself pe_w (swB_ok hs _ _ _)), ?_⟩
  have er0 : ERel T [none, some w0] (L2.start ["self", p] [.ref a, y]) F0 A0 := by
    refine ⟨rfl, fun i u q => ?_⟩
    match i, q with
    | 1, q =>
      simp at q
      subst q
      exact ⟨y, rfl, rw0⟩
  unfold evIni at ev
  refine hE.then (rep := fun F _ d z => Rep T F d z) (Q2 := fun z H' => ∀ dx, H' dx = none → dx ≠ a → H' a = some (exo a C none) → Q .non (upd (upd H' dx (exd dx [(f, z)])) a (exo a C (some dx)))) tk s0 er0 ev ?_ (fun u μ1 v H1 F1 A1 x s1 er1 r1 e1 p1 => ?_)
  · cases r with
    | er d m => exact po
    | ok d m =>
      intro z H' F' A' x s' rz dx h1 h2 h3
      refine po z H' F' A' dx x s' ?_ rz h1 h2
      rcases bind_some ev with ⟨d', m', _, z⟩ | ⟨u, m', _, e2⟩
      · cases z
      · split at e2
        · cases e2
        · split at e2
          · rename_i hl
            cases e2
            exact hl
          · cases e2
  · split at e1
    · cases e1
    · rename_i d μ2 hd
      split at e1
      · cases e1
        obtain ⟨F2, s2, sb, rp⟩ := s1.toD r1 hd
        have hH1 : H1 a = some (exo a C none) := s1.sub _ _ (x.sub _ _ hFa)
        refine ⟨.ref a, rfl, a, C, rfl, cmp.K ▸ hC, cmp.K ▸ hno, .inl ⟨hH1, fun dx n1 n2 => ?_⟩⟩
        exact p1 v H1 F2 A1 ⟨sb, List.prefix_refl _⟩ s2 rp dx n1 n2 hH1
      · cases e1
end
end PI
/-! PI20: .. called. -/
namespace PI
open PySem PySem.Spec PyProof.Rows L2
section
variable {T : Tb} {Φ Φ' : Phi} {X : Cx} {x c p f : Str} {C fI : Addr} {fd : FuncData} {j : Nat} {ie : IE}
/-- the error leaves its own __init__: the store without it -/
theorem ini_end {a dx : Addr} {μ μ' : Mu} {H F H' F' : Hp} {A A' : List Addr} {d : D} {z : V} (s : SRel T μ H F A) (na : H a = none) (x1 : Ext (upd (wide H F A) a (exo a C none)) A F' A') (s' : SRel T μ' H' F' A') (hl : μ'.length = μ.length) (rz : Rep T F' d z) (hdx : H' dx = none) (hne : dx ≠ a) (hc : T.ca c = some C) :
    H dx = none ∧ ∃ F'' : Hp, Ext F A F'' A' ∧ SRel T μ' (upd (L2.del (upd (upd H' dx (exd dx [(f, z)])) a (exo a C (some dx))) a) dx (.xd [(f, z)])) F'' A' ∧ XRep T F'' (.exc c [f] [d]) (.ref C) (some dx) := by
  have sw := s.wide
  have nw : wide H F A a = none := by
    have := sw.sub.free na
    exact this
  have sb0 : Sub (wide H F A) (upd (wide H F A) a (exo a C none)) := fun b o e => by
    rw [upd_ne (ne_of_none e nw)]
    exact e
  have hFa : F' a = some (exo a C none) := x1.sub _ _ upd_same
  have hFd : F' dx = none := s'.sub.free hdx
  have eA : A' = A := by
    obtain ⟨B, rfl⟩ := x1.pre
    have h1 := s'.len
    have h2 := s.len
    rw [List.length_append, h2, hl] at h1
    have : B = [] := List.length_eq_zero_iff.mp (by omega)
    rw [this, List.append_nil]
  subst eA
  have Hd : H dx = none := wide_none s s' ⟨sb0.trans x1.sub, x1.pre⟩ hdx
  have nA : ∀ b, b ∈ A' → b ≠ a ∧ b ≠ dx := fun b hb => ⟨fun z => s.thr b hb (z ▸ na), fun z => s.thr b hb (z ▸ Hd)⟩
  have hN : ∀ {b : Addr}, b ≠ a → b ≠ dx → upd (L2.del (upd (upd H' dx (exd dx [(f, z)])) a (exo a C (some dx))) a) dx (.xd [(f, z)]) b = H' b := fun {b} h1 h2 => by
    rw [upd_ne h2, del_ne h1, upd_ne h1, upd_ne h2]
  have dn : L2.del F' a dx = none := by
    rw [del_ne hne]
    exact hFd
  have sb1 : Sub (L2.del F' a) (upd (L2.del F' a) dx (.xd [(f, z)])) := fun b o e => by
    rw [upd_ne (ne_of_none e dn)]
    exact e
  have mv : ∀ {y : D} {v : V}, Rep T F' y v → Rep T (upd (L2.del F' a) dx (.xd [(f, z)])) y v := fun {y v} r => Rep.mono sb1 y v (rep_del hFa y v r)
  refine ⟨Hd, upd (L2.del F' a) dx (.xd [(f, z)]), ⟨fun b o e => ?_, List.prefix_refl _⟩, ⟨fun b o e => ?_, s'.len, s'.nod, fun b hb => ?_, fun i b o h1 h2 => ?_⟩, C, hc, rfl, .inr ⟨dx, [z], rfl, upd_same, rfl, .cons (mv rz) .nil⟩⟩
  · have e2 : F' b = some o := x1.sub _ _ (sb0 _ _ (wide_sub _ _ e))
    refine sb1 _ _ ?_
    rw [del_ne]
    · exact e2
    · intro q
      subst q
      rw [s.sub.free na] at e
      cases e
  · by_cases hb : b = dx
    · subst hb
      rw [upd_same] at e ⊢
      exact e
    · rw [upd_ne hb] at e
      obtain ⟨e1, e2⟩ := del_sub e
      rw [hN e2 hb]
      exact s'.sub _ _ e1
  · obtain ⟨n1, n2⟩ := nA b hb
    rw [hN n1 n2]
    exact s'.thr b hb
  · have hb : b ∈ A' := List.mem_of_getElem? h1
    obtain ⟨n1, n2⟩ := nA b hb
    have q := s'.obj i b o h1 h2
    cases o with
    | lst ds =>
      obtain ⟨q1, vs, q2, q3⟩ := q
      refine ⟨?_, vs, ?_, (reps_del hFa _ _ q3).mono sb1⟩
      · rw [upd_ne n2, del_ne n1]
        exact q1
      · rw [hN n1 n2]
        exact q2
    | dic ks ds =>
      obtain ⟨q1, vs, q3, kl, q4, q5, q6⟩ := q
      refine ⟨?_, vs, (reps_del hFa _ _ q3).mono sb1, kl, q4, q5, ?_⟩
      · rw [upd_ne n2, del_ne n1]
        exact q1
      · rw [hN n1 n2]
        exact q6
    | fz y => exact mv q
theorem make_ini (T1 : OexC X.K C) (iC : PySem.W.findIn X.K (.ref C) "__init__" = some (some (.ref fI))) (tI : PySem.W.typeIn X.K (.ref fI) = some (.type "function")) (F1 : FnOk X.prog X.w X.K X.mg X.base (L2.CX X.prog X.w) j fI fd ["self", p] (spIni T X.K Φ' C f ie)) (hr : Room (j + 1) X.A)
    (hphi : ∀ w μ, Φ x [w] μ = (evIni ie Φ' w μ).bind fun d μ1 => rok (.d (.exc c [f] [d])) μ1) (hl1 : ∀ ws μ r, Φ x ws μ = some r → ws.length = 1) (hc : T.ca c = some C) {us : List Value} {kw : List (Str × Value)} {u : Value} {v : V} (rv : RelV v u) (hus : us.length ≤ sizeLine)
    (hb : ∀ (s : Shared) (self : Value), X.K.In s.heap → BindsTo s fd ⟨self :: us, kw⟩ ((["self", p] : List Str).zip [self, u])) : MakeAt T Φ X C x us kw [v] := by
  intro pins σ H1 s1 Q E tk I1 h
  obtain ⟨ws, μ, F, A, r, rw0, s0, hr0, po⟩ := h
  obtain ⟨w0, rfl⟩ : ∃ w0, ws = [w0] := by
    have := hl1 _ _ _ hr0
    match ws, this with
    | [w0], _ => exact ⟨w0, rfl⟩
  have rw1 : RepW T F A w0 v := by
    cases rw0 with
    | cons a b => exact a
  obtain ⟨nm, q, N, bs, bm, sn, sub, ab, col, dd, k0, k1, k2, k3, k5, hC, hbm⟩ := T1.cls
  obtain ⟨hp, g, dr, t1, os⟩ := s1
  have hsz : hp.objs.size ≤ hp.objs.size + 1 := Nat.le_succ _
  generalize hea : hp.objs.size + 1 = ea at *
  have hn : H1 ea = none := I1.hok.fresh hsz
  have kk : ∀ b o, hp.get? b = some o → ((hp.push (PySem.W.kdv_tup us)).push (PySem.HandSPX.excO C hp.objs.size)).get? b = some o := fun b o e => Heap.get?_push_of_some _ (Heap.get?_push_of_some _ e)
  have hget : ((hp.push (PySem.W.kdv_tup us)).push (PySem.HandSPX.excO C hp.objs.size)).get? ea = some (PySem.HandSPX.excO C hp.objs.size) := by
    rw [← hea]
    heap_get
  have I2 : Inv X pins σ (upd H1 ea (exo ea C none)) ⟨(hp.push (PySem.W.kdv_tup us)).push (PySem.HandSPX.excO C hp.objs.size), g, dr, t1, os⟩ :=
    I1.laid (t' := t1) (a := ea) (o := exo ea C none) (h' := (hp.push (PySem.W.kdv_tup us)).push (PySem.HandSPX.excO C hp.objs.size)) kk hsz (exo_ok hget)
  have r2 : Vals [V.ref ea, v] [Value.ref ea, u] := .cons rfl (.cons rv .nil)
  rw [hphi] at hr0
  have hsp : spIni T X.K Φ' C f ie [.ref ea, v] (upd H1 ea (exo ea C none)) (fun v H2 => v = .non ∧ ∃ (d : Addr) (fs : List (Str × V)), H2 ea = some (exo ea C (some d)) ∧ H2 d = some (exd d fs) ∧ H1 d = none ∧ Q (.ref C) (some d) (upd (L2.del H2 ea) d (.xd fs))) (fun c d h => E c d σ h) := by
    have sw := s0.wide
    obtain ⟨s2, sb⟩ := sw.new (o := exo ea C none) hn
    have x0 : Ext F A (upd (wide H1 F A) ea (exo ea C none)) A := ⟨wide_sub.trans sb, List.prefix_refl _⟩
    rcases bind_some hr0 with ⟨d, m, e1, rfl⟩ | ⟨d, m, e1, e2⟩
    · exact ⟨ea, v, w0, μ, _, A, _, rfl, upd_same, rw1.mono x0, s2, upd_same, e1, fun cls dd H' F' A' x1 s1 xr => po cls dd H' F' A' (x0.trans x1) s1 xr⟩
    · cases e2
      refine ⟨ea, v, w0, μ, _, A, _, rfl, upd_same, rw1.mono x0, s2, upd_same, e1, fun z H' F' A' dx x1 s1 hl rz n1 n2 => ⟨rfl, dx, [(f, z)], upd_same, ?_, ?_, ?_⟩⟩
      · rw [upd_ne n2, upd_same]
      · exact (ini_end (f := f) (c := c) (C := C) s0 hn x1 s1 hl rz n1 n2 hc).1
      · obtain ⟨_, F'', x3, s3, xr⟩ := ini_end (f := f) (c := c) (C := C) s0 hn x1 s1 hl rz n1 n2 hc
        obtain ⟨d0, hd0, post⟩ := po
        cases hd0
        exact post _ _ _ _ _ x3 s3 xr
  refine wpAny_call (Kwx.call_kw PySem.F.excBase_ValueError (fun Y => PySem.HandSPX.refsVE_contains Y bm hbm) (I1.kIn _ _ hC) (PySem.W.looks_findIn I1.kIn iC) (fun self => PySem.W.bind_fn I1.kIn self tI) hus ?_)
  rw [hea]
  refine codeAny_mono (F1.run _ X.stack _ _ ⟨Value.ref ea :: us, kw⟩ [Value.ref ea, u] [V.ref ea, v] _ _ (hr.make C us kw) (I2.env0.make C us kw) (hb _ (.ref ea) I2.kIn) r2 hsp) fun rr s' hq' => ?_
  cases rr with
  | error er => exact (passAt (W := E) tk σ) pins _ _ er s' I2 hq'
  | ok fl =>
    cases fl with
    | ret u =>
      obtain ⟨v2, H2, os2, bare2, un2, hok2, rv2, ev2, d, fs, e1, e2, hd1, q2⟩ := hq'
      subst ev2
      obtain ⟨h2, g2, d2, t2, os'⟩ := s'
      have r3 : u = Value.none := by
        cases rv2
        rfl
      refine ⟨r3, ?_⟩
      have hsz2 : hp.objs.size ≤ ea := by omega
      exact mk_end (raises_own T1.exC T1.tyC) I1 hsz2 kk un2 hok2 os2 bare2 e1 e2 hd1 q2
    | next => exact False.elim hq'
    | brk => exact False.elim hq'
    | cont => exact False.elim hq'
end
end PI
/-! PI21: the whole text is known. -/
namespace PI
open PySem PySem.Spec PyProof.Rows L2
/-- what the kernel reckons of a def -/
def entB (t : Txt) (e : Entry) : Prop := FnScope e.N e.ps (defScope e.st) ∧ e.d.np = e.ps.length ∧ e.d.nn = e.N.length ∧ compS.compB (compS true 60 (t.cc e.N (defScope e.st) e.mv e.d.keep)) (defBody e.st) = some e.d.body
/-- what stands behind the top -/
structure HereF (T : Tb) (mg : Str → Option Value) (t : Txt) (e : Entry) : Prop where
  ex : ∃ fa fd, mg e.name = some (.ref fa) ∧ FunD T.K e.name e.qual (defArgs e.st) (defBody e.st) (defScope e.st) [] [] fa fd ∧ Binds T.K fd e.ps [] ∧
    ∀ ks pm, t.kf e.name ks = some pm → ∀ (s : Shared) (ws us : List Value), T.K.In s.heap → ws.length = ks.length → permL pm ws = some us → BindsTo s fd ⟨[], ks.zip ws⟩ (e.ps.zip us)
/-- a class of errors without own __init__ | with one of one field -/
structure HereX0 (T : Tb) (t : Txt) (m : EntX) (C : Addr) : Prop where
  ex : ∃ bmB B newId initId, ExcBaseFacts B newId initId bmB ∧ PySem.W.excIn T.K C bmB newId = true
  sb : PySem.W.subIn T.K (.ref C) (.type "BaseException") = some true
  ty : PySem.W.typeIn T.K (.ref C) = some (.type "type")
  kf : ∀ ks, t.kf m.name ks = none
structure HereX1 (T : Tb) (t : Txt) (m : EntX) (C : Addr) (f : Str) (g : Option Str) : Prop where
  ox : OexC T.K C
  no : PySem.W.findIn T.K (.ref C) f = some none
  ex : ∃ (fI : Addr) (fd : FuncData) (p : Str) (st : Stmt) (xn qual : Str) (p1 p2 pos : Pos) (e : Expr), PySem.W.findIn T.K (.ref C) "__init__" = some (some (.ref fI)) ∧ PySem.W.typeIn T.K (.ref fI) = some (.type "function") ∧
    FunD T.K xn qual (defArgs st) (defBody st) (defScope st) [] [] fI fd ∧ FnScope ["self", p] ["self", p] (defScope st) ∧ defBody st = [.Assign [.Attribute (.Name "self" p1) f p2] e pos] ∧ Vis (defScope st) "self" ∧
    compE 60 (t.cc ["self", p] (defScope st) [] false) e = some (iniE g) ∧ swB e = true ∧ Binds T.K fd ["self", p] [] ∧
    ∀ ks pm, t.kf m.name ks = some pm → ks = [p] ∧ pm = [0] ∧ ∀ (s : Shared) (self u : Value), T.K.In s.heap → BindsTo s fd ⟨[self], [(p, u)]⟩ ((["self", p] : List Str).zip [self, u])
structure HereX (T : Tb) (mg : Str → Option Value) (t : Txt) (m : EntX) : Prop where
  ex : ∃ C, mg m.name = some (.ref C) ∧ T.ca m.name = some C ∧ PySem.W.keepIn T.K (.ref C) = true ∧ (match m.fo with
    | none => HereX0 T t m C
    | some (f, g) => HereX1 T t m C f g)
section
variable {P : Program} {w : World} {T : Tb} {mg : Str → Option Value} {base : Heap} {t : Txt}
theorem tab_exc {x : Str} {m : EntX} (h1 : t.L.find? (fun e => e.name == x) = none) (h2 : t.M.find? (fun e => e.name == x) = some m) : m ∈ t.M ∧ m.name = x ∧ t.tab x = some (.exc x m.fo) := by
  have hn : m.name = x := by
    have := List.find?_some h2
    simpa using this
  refine ⟨List.mem_of_find?_eq_some h2, hn, ?_⟩
  unfold Txt.tab
  rw [h1, h2]
  subst hn
  rfl
theorem tab_fn {x : Str} {e : Entry} (h1 : t.L.find? (fun e => e.name == x) = some e) : e ∈ t.L ∧ e.name = x ∧ t.tab x = some (.fn e.d) := by
  have hn : e.name = x := by
    have := List.find?_some h1
    simpa using this
  refine ⟨List.mem_of_find?_eq_some h1, hn, ?_⟩
  unfold Txt.tab
  rw [h1]
theorem known_fn {k : Nat} {x : Str} {e : Entry} (h : Env1 P w T mg base t k) (hE : entB t e) (hH : HereF T mg t e) (hn : e.name = x) (ht : t.tab x = some (.fn e.d)) : Known P w T mg base t (k + 1) x e.d.np := by
  subst hn
  obtain ⟨fa, fd, m, f, b, kb⟩ := hH.ex
  obtain ⟨e1, e2, e3, e4⟩ := hE
  refine ⟨fun ws μ r z => ?_, fa, m, f.kp, fun Y c hr => ?_⟩
  · simp only [phi, ht, callD] at z
    split at z
    · assumption
    · cases z
  · have ok := def_ok (k := k) (mv := e.mv) h f e1 ht e2 e3 e4
    exact run_of_fn ok b kb c hr
theorem phi_exc0 {k : Nat} {x : Str} (ht : t.tab x = some (.exc x none)) {ws : List W} {μ : Mu} {r : X1 W} (h : phi t.tab (k + 1) x ws μ = some r) : ws = [] ∧ r = .ok (.d (.exc x [] [])) μ := by
  simp only [phi, ht] at h
  unfold excD at h
  split at h
  · cases h
    exact ⟨rfl, rfl⟩
  · rename_i z
    cases z
  · cases h
theorem known_exc {k : Nat} {x : Str} {m : EntX} (h : Env1 P w T mg base t k) (hH : HereX T mg t m) (hn : m.name = x) (ht : t.tab x = some (.exc x m.fo)) :
    KnownM P w T mg base t (k + 1) x ∧ (∀ ws μ r, phi t.tab (k + 1) x ws μ = some r → ws.length = (if m.fo.isSome then 1 else 0)) ∧ ∀ ws μ w m', phi t.tab (k + 1) x ws μ = some (.ok w m') → ∃ c ns ds, w = .d (.exc c ns ds) := by
  subst hn
  obtain ⟨C, h1, h2, h3, h4⟩ := hH.ex
  cases hfo : m.fo with
  | none =>
    rw [hfo] at h4 ht
    have h4 : HereX0 T t m C := h4
    obtain ⟨⟨bmB, B, newId, initId, FB, q⟩, sb, ty, nk⟩ := h4
    refine ⟨⟨C, h1, h3, fun Y c hr => ?_⟩, fun ws μ r z => ?_, fun ws μ w m' z => ?_⟩
    rotate_left
    · rw [(phi_exc0 ht z).1]
      rfl
    · obtain ⟨_, e⟩ := phi_exc0 ht z
      cases e
      exact ⟨_, _, _, rfl⟩
    · obtain ⟨rfl, rfl, hK, rfl, rfl⟩ := c
      refine ⟨fun us vs rv pins σ H s Q E tk I hs => ?_, fun ks pm ws zs vs hk => by rw [nk] at hk; cases hk⟩
      obtain ⟨ws, μ, F, A, r, r0, s0, hp, po⟩ := hs
      obtain ⟨rfl, rfl⟩ := phi_exc0 ht hp
      cases r0
      cases rv
      obtain ⟨hp0, g, dr, tk0, os⟩ := s
      rw [← hK] at q sb ty
      obtain ⟨bm, N, nm, qn, bs, hdct, sn, sub, ab, col, dd, k0, k1, k2, k3, k5, mN, hC, hN, hni, OT⟩ := exc_obj I.kIn q
      refine wpAny_call_exc_subT FB OT hC hN hni (fun h' e hm => ?_) (Nat.zero_le _)
      obtain ⟨d0, hd0, post⟩ := po
      cases hd0
      exact mk_of I hm (raises_own sb ty) (post _ none H F A (.refl _ _) s0 ⟨C, h2, rfl, .inl ⟨rfl, rfl, rfl⟩⟩) (I.hok.gone hm.new)
  | some fg =>
    obtain ⟨f, g⟩ := fg
    rw [hfo] at h4 ht
    have h4 : HereX1 T t m C f g := h4
    obtain ⟨ox, no, fI, fd, p, st, xn, qual, p1, p2, pos, e, iC, tI, FD, FS, hb, hv, he, hs, bi, kw⟩ := h4
    have hphi : ∀ w μ, phi t.tab (k + 1) m.name [w] μ = (evIni (iniE g) (phi t.tab k) w μ).bind fun d μ1 => rok (.d (.exc m.name [f] [d])) μ1 := fun w μ => by
      simp only [phi, ht, excD]
    have hl : ∀ ws μ r, phi t.tab (k + 1) m.name ws μ = some r → ws.length = 1 := fun ws μ r z => by
      simp only [phi, ht] at z
      unfold excD at z
      split at z
      · rename_i q
        cases q
      · rfl
      · cases z
    refine ⟨⟨C, h1, h3, fun Y c hr => ?_⟩, fun ws μ r z => hl ws μ r z, fun ws μ w m' z => ?_⟩
    rotate_left
    · obtain ⟨w0, rfl⟩ : ∃ w0, ws = [w0] := by
        have := hl _ _ _ z
        match ws, this with
        | [w0], _ => exact ⟨w0, rfl⟩
      rw [hphi] at z
      rcases bind_some z with ⟨d, m, e1, q⟩ | ⟨d, m, e1, e2⟩
      · cases q
      · cases e2
        exact ⟨_, _, _, rfl⟩
    · have ok := ini_ok (f := f) (C := C) h FD FS hb hv he hs ox no
      obtain ⟨rfl, rfl, hK, rfl, rfl⟩ := c
      rw [← hK] at ok ox iC tI bi
      refine ⟨fun us vs rv => ?_, fun ks pm ws zs vs hk rz hlen hpm => ?_⟩
      · cases rv with
        | nil =>
          intro pins σ H s Q E tk I hs
          obtain ⟨ws, μ, F, A, r, r0, s0, hp, po⟩ := hs
          cases r0
          have := hl _ _ _ hp
          cases this
        | @cons v u vs us r1 r2 =>
          cases r2 with
          | nil =>
            refine make_ini ox iC tI ok hr hphi hl h2 r1 (by rw [sizeLine_eq]; simp) (fun s self hK => ?_)
            exact bi s [self, u] hK rfl
          | cons r3 r4 =>
            intro pins σ H s Q E tk I hs
            obtain ⟨ws, μ, F, A, r, r0, s0, hp, po⟩ := hs
            have := hl _ _ _ hp
            rw [Paired.length r0] at this
            simp at this
      · obtain ⟨rfl, rfl, kb⟩ := kw ks pm hk
        cases rz with
        | nil => cases hlen
        | @cons v u zs ws r1 r2 =>
          cases r2 with
          | cons r3 r4 => simp at hlen
          | nil =>
            simp only [permL] at hpm
            cases hpm
            exact make_ini ox iC tI ok hr hphi hl h2 r1 (Nat.zero_le _) fun s self hI => kb s self u (hK ▸ hI)
/-- what must be so once for all -/
structure Base (P : Program) (w : World) (T : Tb) (mg : Str → Option Value) (base : Heap) (t : Txt) : Prop where
  E : ∀ e ∈ t.L, entB t e
  F : ∀ e ∈ t.L, HereF T mg t e
  X : ∀ m ∈ t.M, HereX T mg t m
  blt : ∀ y ∈ bltNames, mg y = none
  cst : ∀ y z, t.cst y = some z → ∃ u v, mg y = some u ∧ RelV v u ∧ ∀ F, Rep T F z v
  cls : ∀ Y, Comp P w T.K mg base Y → ∀ x l, t.cls x = some l → ClsOk T Y x l
  err : ∀ c C, T.ca c = some C → ErrC T.K C fieldNames
theorem all_known (b : Base P w T mg base t) : ∀ k, Env1 P w T mg base t k
  | 0 => by
    refine ⟨b.blt, b.cst, fun y n hy => ?_, fun y hy => ?_, b.cls, b.err⟩
    · refine ⟨fun ws μ r z => (by cases z), ?_⟩
      have no : ∀ Y fa us kw vs, RunAt T (phi t.tab 0) Y fa y n us kw vs := fun Y fa us kw vs pins σ H s Q E tk I hs => by
        obtain ⟨_, _, _, _, _, _, _, _, z, _⟩ := hs
        cases z
      unfold Txt.own at hy
      split at hy
      · rename_i e he
        obtain ⟨h1, h2, h3⟩ := tab_fn he
        obtain ⟨fa, fd, m, f, _⟩ := (b.F e h1).ex
        exact ⟨fa, h2 ▸ m, f.kp, fun Y _ _ => ⟨fun _ _ _ => no _ _ _ _ _, fun _ _ _ _ _ _ _ _ _ => no _ _ _ _ _⟩⟩
      · rename_i he
        split at hy
        · rename_i m hm
          obtain ⟨h1, h2, h3⟩ := tab_exc he hm
          obtain ⟨C, g1, g2, g3, _⟩ := (b.X m h1).ex
          exact ⟨C, h2 ▸ g1, g3, fun Y _ _ => ⟨fun _ _ _ => no _ _ _ _ _, fun _ _ _ _ _ _ _ _ _ => no _ _ _ _ _⟩⟩
        · cases hy
    · have no : ∀ Y fa us kw vs, MakeAt T (phi t.tab 0) Y fa y us kw vs := fun Y fa us kw vs pins σ H s Q E tk I hs => by
        obtain ⟨_, _, _, _, _, _, _, z, _⟩ := hs
        cases z
      unfold Txt.mkr at hy
      obtain ⟨y1, y2⟩ := Bool.and_eq_true_iff.mp hy
      obtain ⟨m, hm⟩ := Option.isSome_iff_exists.mp y2
      obtain ⟨h1, h2, h3⟩ := tab_exc (by simpa using y1) hm
      obtain ⟨C, g1, g2, g3, _⟩ := (b.X m h1).ex
      exact ⟨C, h2 ▸ g1, g3, fun Y _ _ => ⟨fun _ _ _ => no _ _ _ _ _, fun _ _ _ _ _ _ _ _ _ => no _ _ _ _ _⟩⟩
  | k + 1 => by
    have ih := all_known b k
    refine ⟨b.blt, b.cst, fun y n hy => ?_, fun y hy => ?_, b.cls, b.err⟩
    · unfold Txt.own at hy
      split at hy
      · rename_i e he
        obtain ⟨h1, h2, h3⟩ := tab_fn he
        cases hy
        exact known_fn ih (b.E e h1) (b.F e h1) h2 h3
      · rename_i he
        split at hy
        · rename_i m hm
          obtain ⟨h1, h2, h3⟩ := tab_exc he hm
          obtain ⟨q1, q2, q3⟩ := known_exc ih (b.X m h1) h2 h3
          cases hy
          obtain ⟨C, g1, g2, g3⟩ := q1.ex
          exact ⟨q2, C, g1, g2, fun Y c hr => ⟨fun us vs rv => run_of_make ((g3 Y c hr).1 us vs rv) q3, fun ks pm ws zs vs a1 a2 a3 a4 => run_of_make ((g3 Y c hr).2 ks pm ws zs vs a1 a2 a3 a4) q3⟩⟩
        · cases hy
    · unfold Txt.mkr at hy
      obtain ⟨y1, y2⟩ := Bool.and_eq_true_iff.mp hy
      obtain ⟨m, hm⟩ := Option.isSome_iff_exists.mp y2
      obtain ⟨h1, h2, h3⟩ := tab_exc (by simpa using y1) hm
      exact (known_exc ih (b.X m h1) h2 h3).1
end
end PI
/-! PI22: from the head's facts to the law. -/
namespace PI
open PySem PySem.Spec PyProof.Rows L2

/-- what the kernel looks at of a class of errors with an own __init__ -/
def oexB (K : PySem.W.Frag) (C : Addr) : Bool :=
  (match K.lookup C with
    | some ⟨.type ty, _, .cls ⟨_, _, mro, _, _, hd, _, _, _, _, dl⟩, sl⟩ => decide (ty = "type") && (!dl && (hd && ((match mro with
        | .ref C1 :: bm => decide (C1 = C) && PySem.HandSPX.refsVE bm
        | _ => false) && (match sl.toList with
        | [_, _, _, _, some (.builtin n), _] => decide (n = "ValueError.__new__")
        | _ => false))))
    | _ => false) &&
  (He.eqO (PySem.W.findIn K (.ref C) "__setattr__") (some (some (.builtin "object.__setattr__"))) && (decide (PySem.W.subIn K (.ref C) (.type "BaseException") = some true) && (decide (PySem.W.typeIn K (.ref C) = some (.type "type")) && PySem.W.keepIn K (.ref C))))
theorem oexB_ok {K : PySem.W.Frag} {C : Addr} (h : oexB K C = true) : OexC K C := by
  obtain ⟨h1, h⟩ := He.ba h
  obtain ⟨h2, h⟩ := He.ba h
  obtain ⟨h3, h⟩ := He.ba h
  obtain ⟨h4, h5⟩ := He.ba h
  refine ⟨?_, He.eqO_ok h2, of_decide_eq_true h3, of_decide_eq_true h4, h5⟩
  split at h1
  · rename_i ty dd nm bs mro ns qn hd sn sub ab col dl sl ho
    obtain ⟨a1, g1⟩ := He.ba h1
    obtain ⟨a2, g2⟩ := He.ba g1
    obtain ⟨a3, g3⟩ := He.ba g2
    obtain ⟨a4, a5⟩ := He.ba g3
    split at a4
    · rename_i C1 bm
      obtain ⟨b1, b2⟩ := He.ba a4
      split at a5
      · rename_i k0 k1 k2 k3 n k5 hs
        have e1 : ty = "type" := of_decide_eq_true a1
        have e2 : dl = false := by simpa using a2
        have e3 : hd = true := a3
        have e4 : C1 = C := of_decide_eq_true b1
        have e5 : n = "ValueError.__new__" := of_decide_eq_true a5
        have e6 : sl = #[k0, k1, k2, k3, some (.builtin n), k5] := by
          obtain ⟨l⟩ := sl
          simp only at hs
          rw [hs]
        subst e1 e2 e3 e4 e5 e6
        exact ⟨nm, qn, ns, bs, bm, sn, sub, ab, col, dd, k0, k1, k2, k3, k5, ho, b2⟩
      · cases a5
    · cases a4
  · cases h1
def excB (K : PySem.W.Frag) (D : Addr) : Bool := He.eqO (PySem.W.findIn K (.ref D) "__getattribute__") (some (some (.builtin "BaseException.__getattribute__"))) && (He.eqO (PySem.W.findIn K (.ref D) "__getattr__") (some none) && (decide (PySem.W.subIn K (.ref D) (.type "BaseException") = some true) && (PySem.W.hasDictIn K D &&
  (He.eqO (PySem.W.findIn K (.ref D) "__class__") (some (some (.builtin "object.__class__"))) && (He.eqO (PySem.W.specialIn K (.builtin "object.__class__") "__get__") (some (some (.builtin "getset_descriptor.__get__"))) && (decide (PySem.W.takesIn K (.builtin "object.__class__") = some true) && decide (PySem.W.mroIn K D (.type "object") = some true)))))))
theorem excB_ok {K : PySem.W.Frag} {D : Addr} (h : excB K D = true) : ExcC K D := by
  obtain ⟨h1, h⟩ := He.ba h
  obtain ⟨h2, h⟩ := He.ba h
  obtain ⟨h3, h⟩ := He.ba h
  obtain ⟨h4, h⟩ := He.ba h
  obtain ⟨h5, h⟩ := He.ba h
  obtain ⟨h6, h⟩ := He.ba h
  obtain ⟨h7, h8⟩ := He.ba h
  exact ⟨He.eqO_ok h1, He.eqO_ok h2, of_decide_eq_true h3, h4, He.eqO_ok h5, He.eqO_ok h6, of_decide_eq_true h7, of_decide_eq_true h8⟩
/-- an own __init__ of one field, as it is written -/
structure IniD where
  p : Str
  st : Stmt
  qual : Str
  p1 : Pos
  p2 : Pos
  pos : Pos
  e : Expr
/-- what is said of a text and of its names; cl: the classes that isinstance and except are asked about (own, or a built-in one) -/
structure Law where
  L : List Entry
  M : List (EntX × Option IniD)
  cst : List (Str × D)
  klF : List (Entry × List Str × List Nat)
  klX : List (EntX × IniD)
  cl : List (Str × Option String × List Str)
def Law.kf (l : Law) (x : Str) (ks : List Str) : Option (List Nat) := match l.klF.find? fun q => q.1.name == x && q.2.1 == ks with
  | some q => some q.2.2
  | none => match l.klX.find? fun q => q.1.name == x && [q.2.p] == ks with
    | some _ => some [0]
    | none => none
def Law.t (l : Law) : Txt := { L := l.L, M := l.M.map (·.1), cst := fun y => l.cst.lookup y, kf := l.kf, cls := fun y => (l.cl.find? fun q => q.1 == y).map (·.2.2) }
def clsV (K : PySem.W.Frag) (q : Str × Option String × List Str) : Value := match q.2.1 with
  | none => .ref (He.ga K q.1)
  | some n => .type n
/-- what the kernel looks at of the errors and the classes -/
def Law.exB (l : Law) (K : PySem.W.Frag) : Bool :=
  (l.M.all fun m => PySem.W.keepIn K (.ref (He.ga K m.1.name)) && (xfB K (He.ga K m.1.name) && (excB K (He.ga K m.1.name) && ((fieldNames.all fun f => He.eqO (PySem.W.findIn K (.ref (He.ga K m.1.name)) f) (some none)) && (match m.1.fo, m.2 with
    | none, _ => PySem.W.excIn K (He.ga K m.1.name) He.veBase "ValueError.__new__" && (decide (PySem.W.subIn K (.ref (He.ga K m.1.name)) (.type "BaseException") = some true) && decide (PySem.W.typeIn K (.ref (He.ga K m.1.name)) = some (.type "type")))
    | some f, some _ => oexB K (He.ga K m.1.name) && (He.eqO (PySem.W.findIn K (.ref (He.ga K m.1.name)) f.1) (some none) && (He.eqO (PySem.W.findIn K (.ref (He.ga K m.1.name)) "__init__") (some (some (.ref (He.ma K (He.ga K m.1.name) "__init__")))) && decide (PySem.W.typeIn K (.ref (He.ma K (He.ga K m.1.name) "__init__")) = some (.type "function"))))
    | _, _ => false))))) &&
  (l.cl.all fun q => (["NoneType", "bool", "int", "str", "tuple", "list"].all fun ty => decide (PySem.W.kitOne K (.type ty) (clsV K q) = some false)) && (l.M.all fun m => decide (PySem.W.kitOne K (.ref (He.ga K m.1.name)) (clsV K q) = some (q.2.2.contains m.1.name)) && decide (PySem.W.exmOne K (.ref (He.ga K m.1.name)) (clsV K q) = some (q.2.2.contains m.1.name))))
def Law.T (l : Law) (K : PySem.W.Frag) : Tb := { K := K, fa := fun _ => none, ca := fun c => if (l.M.any fun m => m.1.name == c) = true then some (He.ga K c) else none }
/-- the defs that the head tells -/
def defOf (e : Entry) : He.DefD := ⟨(e.name, none), e.name, e.qual, defArgs e.st, defBody e.st, defScope e.st, [], []⟩
def iniOf (m : EntX) (i : IniD) : He.DefD := ⟨(m.name, some "__init__"), "__init__", i.qual, defArgs i.st, defBody i.st, defScope i.st, [], []⟩
def Law.fn (l : Law) : List He.DefD := l.L.map defOf ++ l.M.filterMap fun m => m.2.map (iniOf m.1)
def faC (q : Str × D) : He.Fa := match q.2 with
  | .int i => .int q.1 i
  | .str s => .str q.1 s
  | _ => .free q.1
def Law.fa (l : Law) : List He.Fa := (l.L.map fun e => .glo e.name) ++ ((l.M.map fun m => .glo m.1.name) ++ ((bltNames.map fun x => .free x) ++ (l.cl.map fun q => if q.2.1.isSome then .free q.1 else .glo q.1) ++ (l.cst.map faC)))
/-- how the arguments of a def bind -/
structure BindE (e : Entry) : Prop where
  pos : ∀ (kV doc pm : Value) (an : Option Addr) (cdv ct : Value) (us : List Value), us.length = e.ps.length → bindArgs (PySem.W.fnOf e.name e.qual (defArgs e.st) (defBody e.st) (defScope e.st) .none kV doc pm an cdv ct) ⟨us, []⟩ = pure (e.ps.zip us)
def BindK (e : Entry) (ks : List Str) (pm : List Nat) : Prop := ∀ (kV doc pm' : Value) (an : Option Addr) (cdv ct : Value) (ws us : List Value), ws.length = ks.length → permL pm ws = some us →
  bindArgs (PySem.W.fnOf e.name e.qual (defArgs e.st) (defBody e.st) (defScope e.st) .none kV doc pm' an cdv ct) ⟨[], ks.zip ws⟩ = pure (e.ps.zip us)
structure BindI (m : EntX) (i : IniD) : Prop where
  pos : ∀ (kV doc pm : Value) (an : Option Addr) (cdv ct : Value) (us : List Value), us.length = 2 → bindArgs (PySem.W.fnOf "__init__" i.qual (defArgs i.st) (defBody i.st) (defScope i.st) .none kV doc pm an cdv ct) ⟨us, []⟩ = pure ((["self", i.p] : List Str).zip us)
  kw : ∀ (kV doc pm : Value) (an : Option Addr) (cdv ct : Value) (self u : Value), bindArgs (PySem.W.fnOf "__init__" i.qual (defArgs i.st) (defBody i.st) (defScope i.st) .none kV doc pm an cdv ct) ⟨[self], [(i.p, u)]⟩ = pure ((["self", i.p] : List Str).zip [self, u])
/-- what is reckoned of a law's text -/
structure Law.Good (l : Law) : Prop where
  E : ∀ e ∈ l.L, entB l.t e
  B : ∀ e ∈ l.L, BindE e
  K : ∀ q ∈ l.klF, BindK q.1 q.2.1 q.2.2
  I : ∀ m ∈ l.M, ∀ i, m.2 = some i → BindI m.1 i ∧ FnScope ["self", i.p] ["self", i.p] (defScope i.st) ∧ defBody i.st = [.Assign [.Attribute (.Name "self" i.p1) ((m.1.fo.map (·.1)).getD "") i.p2] i.e i.pos] ∧ Vis (defScope i.st) "self" ∧
    compE 60 (l.t.cc ["self", i.p] (defScope i.st) [] false) i.e = some (iniE ((m.1.fo.map (·.2)).getD none)) ∧ swB i.e = true
  nL : (l.L.map (·.name)).Nodup
  nM : (l.M.map (·.1.name)).Nodup
  dis : ∀ x ∈ l.L.map (·.name), x ∉ l.M.map (·.1.name)
  sF : ∀ q ∈ l.klF, q.1 ∈ l.L
  sX : ∀ q ∈ l.klX, (q.1, some q.2) ∈ l.M
  fo : ∀ m ∈ l.M, m.1.fo.isSome = m.2.isSome
  blt : ∀ q ∈ l.cl, ∀ n, q.2.1 = some n → bootBuiltins q.1 = some (.type n) ∧ q.1 ≠ "__name__"
  cst : ∀ q ∈ l.cst, (∃ i, q.2 = .int i) ∨ ∃ s, q.2 = .str s
theorem nodup_key {α : Type} {f : α → Str} : ∀ {l : List α}, (l.map f).Nodup → ∀ {a b : α}, a ∈ l → b ∈ l → f a = f b → a = b
  | [], _, _, _, h, _, _ => by cases h
  | x :: l, n, a, b, ha, hb, e => by
    simp only [List.map_cons, List.nodup_cons] at n
    obtain ⟨n1, n2⟩ := n
    rcases List.mem_cons.mp ha with z1 | h1
    · rcases List.mem_cons.mp hb with z2 | h2
      · rw [z1, z2]
      · subst z1
        exact absurd (e ▸ List.mem_map_of_mem h2) n1
    · rcases List.mem_cons.mp hb with z2 | h2
      · subst z2
        exact absurd (e ▸ List.mem_map_of_mem h1) n1
      · exact nodup_key n2 h1 h2 e

theorem lookup_in {α : Type} {y : Str} {z : α} : ∀ {l : List (Str × α)}, l.lookup y = some z → (y, z) ∈ l
  | [], h => by cases h
  | (a, b) :: l, h => by
    simp only [List.lookup] at h
    split at h
    · rename_i q
      cases h
      rw [eq_of_beq q]
      exact List.mem_cons_self
    · exact List.mem_cons_of_mem _ (lookup_in h)
/-- the facts together -/
structure Law.Says (l : Law) (K : PySem.W.Frag) : Prop where
  facts : ∀ f ∈ l.fa, f.ok K = true
  defs : ∀ d ∈ l.fn, ∃ fd, FunD K d.name d.qual d.params d.body d.scope (d.dvs K) (d.kws K) (He.fAd K d.at_) fd
  ex : l.exB K = true
section
variable {l : Law} {K : PySem.W.Frag} {h : Heap} {mg : Str → Option Value} {P : Program} {w : World}
theorem says_fn (c : l.Says K) (X : K.In h) (G : h.Ns mainGlobals mg) {e : Entry} (he : e ∈ l.L) : mg e.name = some (.ref (He.ga K e.name)) ∧ ∃ fd, FunD K e.name e.qual (defArgs e.st) (defBody e.st) (defScope e.st) [] [] (He.ga K e.name) fd := by
  refine ⟨He.glo_ok X G (c.facts _ ?_), ?_⟩
  · unfold Law.fa
    exact List.mem_append_left _ (List.mem_map_of_mem (f := fun e : Entry => He.Fa.glo e.name) he)
  · exact c.defs (defOf e) (by unfold Law.fn; exact List.mem_append_left _ (List.mem_map_of_mem he))
theorem says_glo (c : l.Says K) (X : K.In h) (G : h.Ns mainGlobals mg) {m : EntX × Option IniD} (hm : m ∈ l.M) : mg m.1.name = some (.ref (He.ga K m.1.name)) := by
  refine He.glo_ok X G (c.facts _ ?_)
  unfold Law.fa
  exact List.mem_append_right _ (List.mem_append_left _ (List.mem_map_of_mem (f := fun m : EntX × Option IniD => He.Fa.glo m.1.name) hm))
theorem kf_fn (g : l.Good) {e : Entry} (he : e ∈ l.L) {ks : List Str} {pm : List Nat} (hk : l.kf e.name ks = some pm) : BindK e ks pm := by
  unfold Law.kf at hk
  split at hk
  · rename_i q hq
    cases hk
    have h1 := List.find?_some hq
    simp only [Bool.and_eq_true, beq_iff_eq] at h1
    have h2 := List.mem_of_find?_eq_some hq
    have e1 := nodup_key g.nL (g.sF _ h2) he h1.1
    have := g.K _ h2
    rw [e1, h1.2] at this
    exact this
  · split at hk
    · rename_i q hq
      have h1 := List.find?_some hq
      simp only [Bool.and_eq_true, beq_iff_eq] at h1
      have h2 := g.sX _ (List.mem_of_find?_eq_some hq)
      exact absurd (h1.1 ▸ List.mem_map_of_mem (f := fun m : EntX × Option IniD => m.1.name) h2) (g.dis e.name (List.mem_map_of_mem he))
    · cases hk
theorem kf_x (g : l.Good) {m : EntX × Option IniD} (hm : m ∈ l.M) {ks : List Str} {pm : List Nat} (hk : l.kf m.1.name ks = some pm) : ∃ i, m.2 = some i ∧ ks = [i.p] ∧ pm = [0] := by
  unfold Law.kf at hk
  split at hk
  · rename_i q hq
    have h1 := List.find?_some hq
    simp only [Bool.and_eq_true, beq_iff_eq] at h1
    have h2 := g.sF _ (List.mem_of_find?_eq_some hq)
    exact absurd (List.mem_map_of_mem (f := fun m : EntX × Option IniD => m.1.name) hm) (h1.1 ▸ g.dis q.1.name (List.mem_map_of_mem h2))
  · split at hk
    · rename_i q hq
      have h1 := List.find?_some hq
      simp only [Bool.and_eq_true, beq_iff_eq] at h1
      have h2 := g.sX _ (List.mem_of_find?_eq_some hq)
      have e1 := nodup_key g.nM h2 hm h1.1
      cases hk
      exact ⟨q.2, by rw [← e1], h1.2.symm, rfl⟩
    · cases hk
theorem binds_fn {x qual : Str} {params : Arguments} {body : List Stmt} {scope : Scope} {f : Addr} {fd : FuncData} {args : Args} {bs : List (Str × Value)} (F : FunD K x qual params body scope [] [] f fd)
    (hb : ∀ (kV doc pm : Value) (an : Option Addr) (cdv ct : Value), bindArgs (PySem.W.fnOf x qual params body scope .none kV doc pm an cdv ct) args = pure bs) (s : Shared) : BindsTo s fd args bs := by
  obtain ⟨oc, od, dV, kV, doc, pm, an, cdv, ct, osl, rfl, lk, hcd, hD, hK⟩ := F.ex
  rcases hD with ⟨_, rfl⟩ | ⟨e, _⟩
  · exact .of_eq (hb kV doc pm an cdv ct)
  · exact absurd rfl e
theorem ca_some {c : Str} {C : Addr} (hc : (l.T K).ca c = some C) : ∃ m ∈ l.M, m.1.name = c ∧ C = He.ga K c := by
  unfold Law.T at hc
  simp only at hc
  split at hc
  · rename_i z
    cases hc
    obtain ⟨m, h1, h2⟩ := List.any_eq_true.mp z
    exact ⟨m, h1, by simpa using h2, rfl⟩
  · cases hc
theorem base_of (g : l.Good) (c : l.Says K) (X : K.In h) (G : h.Ns mainGlobals mg) (base : Heap) : Base P w (l.T K) mg base l.t := by
  obtain ⟨ex1, ex2⟩ := He.ba (show l.exB K = true from c.ex)
  have em : ∀ m ∈ l.M, _ := fun m hm => List.all_eq_true.mp ex1 m hm
  refine ⟨g.E, fun e he => ?_, fun m hm => ?_, fun y hy => ?_, fun y z hy => ?_, fun Y cm x ls hx => ?_, fun cn C hc => ?_⟩
  · obtain ⟨h1, fd, F⟩ := says_fn c X G he
    exact ⟨_, fd, h1, F, F.bindsN (g.B e he).pos, fun ks pm hk s ws us _ h2 h3 => binds_fn F (fun kV doc pm' an cdv ct => kf_fn g he hk kV doc pm' an cdv ct ws us h2 h3) s⟩
  · obtain ⟨m', hm', rfl⟩ := List.mem_map.mp (show m ∈ l.M.map (·.1) from hm)
    have q := em m' hm'
    obtain ⟨q1, q⟩ := He.ba q
    obtain ⟨q2, q⟩ := He.ba q
    obtain ⟨q3, q⟩ := He.ba q
    obtain ⟨q4, q5⟩ := He.ba q
    have hca : (l.T K).ca m'.1.name = some (He.ga K m'.1.name) := by
      unfold Law.T
      simp only
      rw [if_pos (List.any_eq_true.mpr ⟨m', hm', by simp⟩)]
    refine ⟨_, says_glo c X G hm', hca, q1, ?_⟩
    have hfo := g.fo m' hm'
    cases h1 : m'.1.fo with
    | none =>
      rw [h1] at q5
      obtain ⟨a1, q5⟩ := He.ba q5
      obtain ⟨a2, a3⟩ := He.ba q5
      refine ⟨⟨He.veBase, _, _, _, PySem.F.excBase_ValueError, a1⟩, of_decide_eq_true a2, of_decide_eq_true a3, fun ks => ?_⟩
      cases hk : l.kf m'.1.name ks with
      | none => exact hk
      | some pm =>
        obtain ⟨i, h2, _⟩ := kf_x g hm' hk
        rw [h1, h2] at hfo
        cases hfo
    | some fg =>
      cases h2 : m'.2 with
      | none =>
        rw [h1, h2] at hfo
        cases hfo
      | some i =>
        rw [h1, h2] at q5
        obtain ⟨a1, q5⟩ := He.ba q5
        obtain ⟨a2, q5⟩ := He.ba q5
        obtain ⟨a3, a4⟩ := He.ba q5
        obtain ⟨bi, fs, db, vi, ce, sw⟩ := g.I m' hm' i h2
        obtain ⟨fd, F⟩ := c.defs (iniOf m'.1 i) (by
          unfold Law.fn
          exact List.mem_append_right _ (List.mem_filterMap.mpr ⟨m', hm', by rw [h2]; rfl⟩))
        have F : FunD K "__init__" i.qual (defArgs i.st) (defBody i.st) (defScope i.st) [] [] (He.ma K (He.ga K m'.1.name) "__init__") fd := F
        rw [h1] at db ce
        exact ⟨oexB_ok a1, He.eqO_ok a2, _, fd, i.p, i.st, "__init__", i.qual, i.p1, i.p2, i.pos, i.e, He.eqO_ok a3, of_decide_eq_true a4, F, fs, db, vi, ce, sw, F.bindsN bi.pos, fun ks pm hk => by
          obtain ⟨i2, k1, k2, k3⟩ := kf_x g hm' hk
          rw [h2] at k1
          cases k1
          exact ⟨k2, k3, fun s self u _ => binds_fn F (fun kV doc pm' an cdv ct => bi.kw kV doc pm' an cdv ct self u) s⟩⟩
  · refine He.free_ok X G (c.facts _ ?_)
    unfold Law.fa
    exact List.mem_append_right _ (List.mem_append_right _ (List.mem_append_left _ (List.mem_append_left _ (List.mem_map_of_mem hy))))
  · obtain ⟨hz⟩ : Nonempty ((y, z) ∈ l.cst) := ⟨by
      have : l.cst.lookup y = some z := hy
      exact lookup_in this⟩
    have hf := c.facts (faC (y, z)) (by
      unfold Law.fa
      exact List.mem_append_right _ (List.mem_append_right _ (List.mem_append_right _ (List.mem_map_of_mem hz))))
    rcases g.cst _ hz with ⟨i, e⟩ | ⟨s, e⟩
    · cases (show z = .int i from e)
      obtain ⟨tk, ht⟩ := He.int_ok X G hf
      exact ⟨_, .int i, ht, ⟨tk, rfl⟩, fun F => by simp only [Rep]⟩
    · cases (show z = .str s from e)
      obtain ⟨tk, ht⟩ := He.str_ok X G hf
      exact ⟨_, .str s, ht, ⟨tk, rfl⟩, fun F => by simp only [Rep]⟩
  · obtain ⟨q, hq, rfl⟩ := Option.map_eq_some_iff.mp (show (l.cl.find? fun q => q.1 == x).map (·.2.2) = some ls from hx)
    have hn : q.1 = x := by simpa using List.find?_some hq
    subst hn
    have hm := List.mem_of_find?_eq_some hq
    obtain ⟨z1, z2⟩ := He.ba (List.all_eq_true.mp ex2 q hm)
    have cK : Y.K = K := cm.K
    have hf := c.facts (if q.2.1.isSome then .free q.1 else .glo q.1) (by
      unfold Law.fa
      exact List.mem_append_right _ (List.mem_append_right _ (List.mem_append_left _ (List.mem_append_right _ (List.mem_map_of_mem (f := fun q : Str × Option String × List Str => if q.2.1.isSome then He.Fa.free q.1 else He.Fa.glo q.1) hm)))))
    refine ⟨clsV K q, ?_, ?_, fun ty ht => ?_, fun cn C hc => ?_⟩
    · rw [cm.mg]
      cases hb : q.2.1 with
      | none =>
        rw [hb] at hf
        left
        have := He.glo_ok X G hf
        unfold clsV
        rw [hb]
        exact this
      | some n =>
        rw [hb] at hf
        right
        obtain ⟨b1, b2⟩ := g.blt q hm n hb
        refine ⟨He.free_ok X G hf, ?_, b2⟩
        unfold clsV
        rw [hb]
        exact b1
    · unfold clsV
      cases q.2.1 with
      | none => exact ⟨.ref (He.ga K q.1), rfl, fun u hu => hu⟩
      | some n => exact ⟨.ty n, rfl, fun u hu => hu⟩
    · rw [cK]
      exact of_decide_eq_true (List.all_eq_true.mp z1 ty ht)
    · obtain ⟨m, hm2, rfl, rfl⟩ := ca_some hc
      obtain ⟨y1, y2⟩ := He.ba (List.all_eq_true.mp z2 m hm2)
      have q := em m hm2
      obtain ⟨q1, q⟩ := He.ba q
      obtain ⟨q2, q⟩ := He.ba q
      obtain ⟨q3, q⟩ := He.ba q
      rw [cK]
      exact ⟨excB_ok q3, of_decide_eq_true y1, of_decide_eq_true y2⟩
  · obtain ⟨m, hm2, rfl, rfl⟩ := ca_some hc
    have q := em m hm2
    obtain ⟨q1, q⟩ := He.ba q
    obtain ⟨q2, q⟩ := He.ba q
    obtain ⟨q3, q⟩ := He.ba q
    obtain ⟨q4, q5⟩ := He.ba q
    exact ⟨xfB_ok q2, fun f hf => He.eqO_ok (List.all_eq_true.mp q4 f hf)⟩
end
end PI
/-! PI23: the law. -/
namespace PI
open PySem PySem.Spec PyProof.Rows L2
theorem tab_mem {l : Law} (g : l.Good) {e : Entry} (he : e ∈ l.L) : l.t.tab e.name = some (.fn e.d) := by
  have : l.L.find? (fun z => z.name == e.name) = some e := by
    cases hf : l.L.find? (fun z => z.name == e.name) with
    | none =>
      have := List.find?_eq_none.mp hf e he
      simp at this
    | some e2 =>
      have h1 := List.find?_some hf
      have h2 := List.mem_of_find?_eq_some hf
      rw [nodup_key g.nL h2 he (by simpa using h1)]
  unfold Txt.tab
  rw [show l.t.L = l.L from rfl, this]
theorem reps_ints {T : Tb} {F : Hp} : ∀ ns : List Int, Reps T F (ns.map D.int) (ns.map V.int)
  | [] => .nil
  | n :: ns => .cons (by simp only [Rep]) (reps_ints ns)
theorem law_pi {l : Law} (g : l.Good) {ol : PySem.W.OpenLaw} {q : Program} {loose : List Str} {XP : (Str → Option Value) → Heap → Prop} {d : DefRec} {N nn k : Nat} {e : Entry} {x : Str} (hn : ol.most = some nn) (hn2 : nn ≤ sizeLine) (hdf : d.params.defaults = []) (hr : Room (2 * (k + 1)) callerA)
    (he : e ∈ l.L) (hname : e.name = d.name) (hps : e.ps = [x]) (hphi : ∀ ns : List Int, ns.length ≤ nn → ∃ μ, phi l.t.tab (k + 1) e.name [.d (.scr (ns.map .int))] [] = some (.ok (.d (.bl true)) μ)) :
    PySem.W.WalkO q loose XP (He.hookX N l.fa l.fn [] [] l.exB).says ol.row.toRowW d [] (fun f vs => PySem.call f vs) := by
  refine Att.attach_call hn hdf fun w s₀ s₁ mg mb fa o pm cd doc a vs ns G Y ho hd hcd hmg hobj hints hlen hg => ?_
  obtain ⟨K, KX, c⟩ := Y
  have cs : l.Says K := ⟨fun f hf => c.t.d.facts hf, fun d hd => c.t.d.defs hd, c.more⟩
  obtain ⟨m1, fd, F⟩ := says_fn cs KX G.T.g he
  rw [hname, hmg] at m1
  have efa : fa = He.ga K e.name := by
    rw [hname]
    cases m1
    rfl
  rw [← efa] at F
  obtain ⟨S, hnp, hnn, hb⟩ := g.E e he
  have np1 : e.d.np = 1 := by
    rw [hnp, hps]
    rfl
  refine law_call (CX := L2.CX ol.prog w) (sp := spF (l.T K) (phi l.t.tab (k + 1)) e.name e.d.np) (x := x) (fd := fd) (K := K) KX G.T.g G.T.b G.T.builtins G.T.nolimit hg hobj hints (Nat.le_trans hlen hn2) hr (fun base _ _ => ?_) (fun s u => ?_) (fun H hO hS => ?_) fun H er s' z => ?_
  · have := def_ok (k := k) (P := ol.prog) (w := w) (base := base) (all_known (base_of g cs KX G.T.g base) k) F S (tab_mem g he) hnp hnn hb
    rw [hps] at this
    exact this
  · have := F.bindsA (ps := e.ps) (g.B e he).pos s [u] (by rw [hps]; rfl)
    rw [hps] at this
    exact this
  · obtain ⟨μ, hp⟩ := hphi ns hlen
    refine ⟨np1.symm, _, [], H, [], _, .cons ?_ .nil, ⟨fun _ _ z => z, rfl, List.nodup_nil, fun a ha => (by cases ha), fun k a o h1 => (by simp at h1)⟩, hp, fun v H' F' A' x' s' r => ?_⟩
    · simp only [RepW, Rep]
      exact ⟨a, _, rfl, hS, reps_ints ns⟩
    · simp only [RepW, Rep] at r
      exact r
  · obtain ⟨_, _, _, _, _, _, _, _, _, _, _, _, z⟩ := z
    exact z
end PI
namespace PI.K00
open PySem PySem.Spec PyProof.Rows L2 PI
def topS (i : Nat) : Stmt := PySem.Challenge.pw_letahead_k00_errors.main.body.getD i (.Pass ⟨0, 0, 0, 0⟩)
def iniS (i : Nat) : Stmt := match topS i with
  | .ClassDef _ _ _ (s :: _) _ _ _ _ _ _ _ => s
  | s => s
def iP1 (s : Stmt) : Pos := match defBody s with
  | [.Assign [.Attribute (.Name _ p) _ _] _ _] => p
  | _ => default
def iP2 (s : Stmt) : Pos := match defBody s with
  | [.Assign [.Attribute _ _ p] _ _] => p
  | _ => default
def iP (s : Stmt) : Pos := match defBody s with
  | [.Assign _ _ p] => p
  | _ => default
def iE (s : Stmt) : Expr := match defBody s with
  | [.Assign _ e _] => e
  | _ => .Constant .none 0 ⟨0, 0, 0, 0⟩
def b_copied : List IS := [.ife (.op (.isi [.tlist]) [.var 0]) [.ret (.lc [1] (.one 1) (.seq (.var 0)) [] (.call "copied" [.var 1]))] [], .ife (.op (.isi [.ttuple]) [.var 0]) [.ret (.op .tuple [.lc [1] (.one 1) (.seq (.var 0)) [] (.call "copied" [.var 1])])] [], .ret (.var 0)]
def e_copied : Entry := ⟨"copied", "copied", topS 1, ["thing", "part"], ["thing"], [], ⟨1, 2, false, b_copied⟩⟩
def b_law_box : List IS := [.set (.one 2) (.ite (.op .lt [.var 1, .op .len [.var 0]]) (.op .ix [.var 0, .var 1]) (.cst (.int 0))), .retm (.lst [.op .mul [.op .abs [.var 2], .op .int [.op .ge [.op .abs [.var 2], .op .pow [.cst (.int 10), .cst (.int 18)]]]], .op .add [.op .add [.op .mod [.op .int [.var 2], .cst (.int 2305843009213693951)], .op .mul [.cst (.int 39373), .var 1]], .cst (.int 90500)], .cst (.int 0)])]
def e_law_box : Entry := ⟨"_law_box", "_law_box", topS 16, ["_law_script", "_law_k", "_law_cell"], ["_law_script", "_law_k"], [], ⟨2, 3, true, b_law_box⟩⟩
def b_law_take : List IS := [.ife (.op .gt [.op .ix [.var 0, .cst (.int 0)], .cst (.int 0)]) [.set (.one 2) (.op .mod [.op .int [.op .ix [.var 0, .cst (.int 0)]], .var 1]), .setix (.var 0) (.cst (.int 0)) (.op .fdiv [.op .ix [.var 0, .cst (.int 0)], .var 1]), .ret (.var 2)] [], .setix (.var 0) (.cst (.int 2)) (.op .add [.op .ix [.var 0, .cst (.int 2)], .cst (.int 1)]), .set (.one 3) (.op .mod [.op .int [.op .mul [.op .add [.op .ix [.var 0, .cst (.int 1)], .op .mul [.cst (.int 48271), .op .ix [.var 0, .cst (.int 2)]]], .op .add [.cst (.int 39373), .op .ix [.var 0, .cst (.int 2)]]]], .cst (.int 2147483647)]), .set (.one 4) (.op .add [.op .mod [.op .int [.var 3], .cst (.int 40009)], .cst (.int 7)]), .set (.one 5) (.op .mod [.op .int [.op .mul [.op .add [.op .add [.var 3, .op .ix [.var 0, .cst (.int 2)]], .op .fdiv [.op .ix [.var 0, .cst (.int 1)], .cst (.int 1000003)]], .var 4]], .cst (.int 2147483629)]), .ret (.op .mod [.op .int [.op .fdiv [.op .mod [.op .int [.op .add [.op .mul [.var 5, .cst (.int 48271)], .var 3]], .cst (.int 2147483587)], .cst (.int 64)]], .var 1])]
def e_law_take : Entry := ⟨"_law_take", "_law_take", topS 17, ["_law_box_here", "_law_size_so", "_law_some", "_law_once", "_law_far", "_law_again"], ["_law_box_here", "_law_size_so"], [], ⟨2, 6, false, b_law_take⟩⟩
def b_law_cells : List IS := [.setm 2 (.or (.op .list [.sl false true (.var 0) (.cst .non) (.var 1)]) (.lst [.cst (.int 0)])), .for_ (.tup [3, 4]) (.enu (.sl true true (.var 0) (.var 1) (.cst (.int 63)))) [.set (.one 5) (.op .mod [.op .int [.var 3], .var 1]), .setix (.var 2) (.var 5) (.op .add [.op .ix [.var 2, .var 5], .op .mul [.var 4, .op .add [.var 3, .cst (.int 2)]]])], .ret (.var 2)]
def e_law_cells : Entry := ⟨"_law_cells", "_law_cells", topS 18, ["_law_script", "_law_top_so", "_law_cells_so", "_law_k", "_law_cell", "_law_at_so"], ["_law_script", "_law_top_so"], ["_law_cells_so"], ⟨2, 6, false, b_law_cells⟩⟩
def b_law_of : List IS := [.ret (.op .ix [.var 1, .call "_law_take" [.var 0, .op .len [.var 1]]])]
def e_law_of : Entry := ⟨"_law_of", "_law_of", topS 19, ["_law_box_here", "_law_goods_so"], ["_law_box_here", "_law_goods_so"], [], ⟨2, 2, false, b_law_of⟩⟩
def b_law_same : List IS := [.ife (.op (.isi [.tlist, .ttuple]) [.var 1]) [.ife (.op .ne [.op (.isi [.tlist]) [.var 0], .op (.isi [.tlist]) [.var 1]]) [.ret (.cst (.bl false))] [], .ife (.op .ne [.op (.isi [.ttuple]) [.var 0], .op (.isi [.ttuple]) [.var 1]]) [.ret (.cst (.bl false))] [], .ret (.and (.op .eq [.op .len [.var 0], .op .len [.var 1]]) (.op .all [.lc [2, 3] (.tup [2, 3]) (.zip (.var 0) (.var 1)) [] (.call "_law_same" [.var 2, .var 3])]))] [], .ife (.or (.op .isN [.var 1]) (.op (.isi [.tbool, .tstr]) [.var 1])) [.ret (.and (.op .eq [.var 0, .var 1]) (.and (.op .eq [.op (.isi [.tbool]) [.var 0], .op (.isi [.tbool]) [.var 1]]) (.op .eq [.op .isN [.var 0], .op .isN [.var 1]])))] [], .ret (.and (.op (.isi [.tint]) [.var 0]) (.and (.op .not [.op (.isi [.tbool]) [.var 0]]) (.op .eq [.var 0, .var 1])))]
def e_law_same : Entry := ⟨"_law_same", "_law_same", topS 20, ["_law_got", "_law_due", "_law_mine", "_law_its"], ["_law_got", "_law_due"], [], ⟨2, 4, false, b_law_same⟩⟩
def b_law_sorts : List IS := [.set (.one 1) (.lst [.op (.isx ["BadPair"]) [.var 0], .op (.isx ["BadText"]) [.var 0], .op (.isx ["BadLine"]) [.var 0]]), .set (.one 1) (.op .add [.var 1, .lst [.op (.isx ["NoPlace"]) [.var 0], .op (.isx ["NoKind"]) [.var 0]]]), .set (.one 1) (.op .add [.var 1, .lst [.op (.isx ["NotHandedOn"]) [.var 0]]]), .set (.one 1) (.op .add [.var 1, .lst [.op (.isx ["NothingDone"]) [.var 0], .op (.isx ["Known"]) [.var 0]]]), .set (.one 1) (.op .add [.var 1, .lst [.op (.isx ["NoBook"]) [.var 0]]]), .ret (.op .add [.var 1, .lst [.op (.isx ["NoNumber"]) [.var 0], .op (.isx ["BadAnswer"]) [.var 0], .op (.isx ["AllKnown"]) [.var 0]]])]
def e_law_sorts : Entry := ⟨"_law_sorts", "_law_sorts", topS 21, ["_law_caught", "_law_kinds_so"], ["_law_caught"], [], ⟨1, 2, false, b_law_sorts⟩⟩
def b_law_right : List IS := [.set2 1 2 (.op .sub [.call "_law_take" [.var 0, .op .pow [.cst (.int 10), .cst (.int 9)]], .op .mul [.cst (.int 5), .op .pow [.cst (.int 10), .cst (.int 8)]]]) (.call "_law_of" [.var 0, .lst [.cst (.str "a"), .cst (.str "ants"), .cst (.str "abcdefgh"), .cst (.str "zz")]]), .set (.one 3) (.lst [.call "BadPair" [.var 1], .call "BadText" [.var 1], .call "BadLine" [.var 1], .call "NoPlace" [.var 1]]), .set (.one 3) (.op .add [.var 3, .lst [.call "NoKind" [.var 2], .call "NotHandedOn" [], .call "NothingDone" []]]), .set (.one 3) (.op .add [.var 3, .lst [.call "Known" [.var 2], .call "NoBook" [.var 2], .call "NoNumber" [.var 1], .call "BadAnswer" [.var 2], .call "AllKnown" []]]), .for_ (.tup [4, 5]) (.enu (.var 3)) [.ife (.op .not [.call "_law_same" [.call "_law_sorts" [.var 5], .lc [8] (.one 8) (.rng1 (.cst (.int 12))) [] (.op .eq [.var 8, .var 4])]]) [.ret (.cst (.bl false))] [], .ife (.or (.op .not [.op (.isx ["AllKnown", "BadAnswer", "BadLine", "BadPair", "BadText", "Known", "NoBook", "NoKind", "NoNumber", "NoPlace", "NotHandedOn", "NothingDone"]) [.var 5]]) (.or (.op .not [.op (.isx ["AllKnown", "BadAnswer", "BadLine", "BadPair", "BadText", "Known", "NoBook", "NoKind", "NoNumber", "NoPlace", "NotHandedOn", "NothingDone"]) [.var 5]]) (.op (.isx []) [.var 5]))) [.ret (.cst (.bl false))] []], .set (.one 6) (.lst [.fld "place" (.op .ix [.var 3, .cst (.int 0)]), .fld "piece" (.op .ix [.var 3, .cst (.int 1)]), .fld "number" (.op .ix [.var 3, .cst (.int 2)]), .fld "number" (.op .ix [.var 3, .cst (.int 3)]), .fld "name" (.op .ix [.var 3, .cst (.int 4)])]), .set (.one 6) (.op .add [.var 6, .lst [.fld "name" (.op .ix [.var 3, .cst (.int 7)]), .fld "name" (.op .ix [.var 3, .cst (.int 8)]), .fld "number" (.op .ix [.var 3, .cst (.int 9)]), .fld "answer" (.op .ix [.var 3, .cst (.int 10)])]]), .set (.one 7) (.lst [.var 1, .var 1, .var 1, .var 1, .var 2, .var 2, .var 2, .var 1, .var 2]), .set (.one 6) (.op .add [.var 6, .lst [.fld "place" (.callK "BadPair" [0] [.var 1]), .fld "piece" (.callK "BadText" [0] [.cst (.int 7)])]]), .set (.one 6) (.op .add [.var 6, .lst [.fld "number" (.callK "BadLine" [0] [.op .neg [.cst (.int 1)]]), .fld "number" (.callK "NoPlace" [0] [.cst (.int 3)])]]), .set (.one 7) (.op .add [.var 7, .lst [.var 1, .cst (.int 7), .op .neg [.cst (.int 1)], .cst (.int 3)]]), .set (.one 6) (.op .add [.var 6, .lst [.fld "name" (.callK "NoKind" [0] [.cst (.str "b")]), .fld "name" (.callK "Known" [0] [.var 2])]]), .set (.one 6) (.op .add [.var 6, .lst [.fld "name" (.callK "NoBook" [0] [.var 2]), .fld "answer" (.callK "BadAnswer" [0] [.var 2])]]), .ret (.call "_law_same" [.op .add [.var 6, .lst [.fld "number" (.callK "NoNumber" [0] [.op .pow [.cst (.int 10), .cst (.int 30)]])]], .op .add [.var 7, .lst [.cst (.str "b"), .var 2, .var 2, .var 2, .op .pow [.cst (.int 10), .cst (.int 30)]]]])]
def e_law_right : Entry := ⟨"_law_right", "_law_right", topS 22, ["_law_box_here", "_law_far", "_law_tag", "_law_every_so", "_law_k", "_law_own", "_law_got", "_law_due", "_law_j"], ["_law_box_here"], [], ⟨1, 9, false, b_law_right⟩⟩
def b_law : List IS := [.set (.one 1) (.call "_law_cells" [.var 0, .cst (.int 3)]), .ret (.op .all [.lc [2] (.one 2) (.rng1 (.op .len [.var 1])) [] (.call "_law_right" [.call "_law_box" [.var 1, .var 2]])])]
def e_law : Entry := ⟨"law", "law", topS 23, ["_law_script", "_law_cells_here", "_law_k"], ["_law_script"], [], ⟨1, 3, false, b_law⟩⟩
def x_AllKnown : EntX := ⟨"AllKnown", none⟩
def x_BadAnswer : EntX := ⟨"BadAnswer", some ("answer", some "copied")⟩
def i_BadAnswer : IniD := ⟨"answer", iniS 4, "BadAnswer.__init__", iP1 (iniS 4), iP2 (iniS 4), iP (iniS 4), iE (iniS 4)⟩
def x_BadLine : EntX := ⟨"BadLine", some ("number", none)⟩
def i_BadLine : IniD := ⟨"number", iniS 5, "BadLine.__init__", iP1 (iniS 5), iP2 (iniS 5), iP (iniS 5), iE (iniS 5)⟩
def x_BadPair : EntX := ⟨"BadPair", some ("place", none)⟩
def i_BadPair : IniD := ⟨"place", iniS 6, "BadPair.__init__", iP1 (iniS 6), iP2 (iniS 6), iP (iniS 6), iE (iniS 6)⟩
def x_BadText : EntX := ⟨"BadText", some ("piece", none)⟩
def i_BadText : IniD := ⟨"piece", iniS 7, "BadText.__init__", iP1 (iniS 7), iP2 (iniS 7), iP (iniS 7), iE (iniS 7)⟩
def x_Known : EntX := ⟨"Known", some ("name", none)⟩
def i_Known : IniD := ⟨"name", iniS 8, "Known.__init__", iP1 (iniS 8), iP2 (iniS 8), iP (iniS 8), iE (iniS 8)⟩
def x_NoBook : EntX := ⟨"NoBook", some ("name", none)⟩
def i_NoBook : IniD := ⟨"name", iniS 9, "NoBook.__init__", iP1 (iniS 9), iP2 (iniS 9), iP (iniS 9), iE (iniS 9)⟩
def x_NoKind : EntX := ⟨"NoKind", some ("name", none)⟩
def i_NoKind : IniD := ⟨"name", iniS 10, "NoKind.__init__", iP1 (iniS 10), iP2 (iniS 10), iP (iniS 10), iE (iniS 10)⟩
def x_NoNumber : EntX := ⟨"NoNumber", some ("number", none)⟩
def i_NoNumber : IniD := ⟨"number", iniS 11, "NoNumber.__init__", iP1 (iniS 11), iP2 (iniS 11), iP (iniS 11), iE (iniS 11)⟩
def x_NoPlace : EntX := ⟨"NoPlace", some ("number", none)⟩
def i_NoPlace : IniD := ⟨"number", iniS 12, "NoPlace.__init__", iP1 (iniS 12), iP2 (iniS 12), iP (iniS 12), iE (iniS 12)⟩
def x_NotHandedOn : EntX := ⟨"NotHandedOn", none⟩
def x_NothingDone : EntX := ⟨"NothingDone", none⟩
def law0 : Law := { L := [e_copied, e_law_box, e_law_take, e_law_cells, e_law_of, e_law_same, e_law_sorts, e_law_right, e_law], M := [(x_AllKnown, none), (x_BadAnswer, some i_BadAnswer), (x_BadLine, some i_BadLine), (x_BadPair, some i_BadPair), (x_BadText, some i_BadText), (x_Known, some i_Known), (x_NoBook, some i_NoBook), (x_NoKind, some i_NoKind), (x_NoNumber, some i_NoNumber), (x_NoPlace, some i_NoPlace), (x_NotHandedOn, none), (x_NothingDone, none)], cst := [], klF := [], klX := [(x_BadPair, i_BadPair), (x_BadText, i_BadText), (x_BadLine, i_BadLine), (x_NoPlace, i_NoPlace), (x_NoKind, i_NoKind), (x_Known, i_Known), (x_NoBook, i_NoBook), (x_BadAnswer, i_BadAnswer), (x_NoNumber, i_NoNumber)], cl := [("BadPair", none, ["BadPair"]), ("BadText", none, ["BadText"]), ("BadLine", none, ["BadLine"]), ("NoPlace", none, ["NoPlace"]), ("NoKind", none, ["NoKind"]), ("NotHandedOn", none, ["NotHandedOn"]), ("NothingDone", none, ["NothingDone"]), ("Known", none, ["Known"]), ("NoBook", none, ["NoBook"]), ("NoNumber", none, ["NoNumber"]), ("BadAnswer", none, ["BadAnswer"]), ("AllKnown", none, ["AllKnown"]), ("LookupError", some "LookupError", []), ("QueueError", none, ["AllKnown", "BadAnswer", "BadLine", "BadPair", "BadText", "Known", "NoBook", "NoKind", "NoNumber", "NoPlace", "NotHandedOn", "NothingDone"]), ("ValueError", some "ValueError", ["AllKnown", "BadAnswer", "BadLine", "BadPair", "BadText", "Known", "NoBook", "NoKind", "NoNumber", "NoPlace", "NotHandedOn", "NothingDone"])] }
theorem s_copied : FnScope e_copied.N e_copied.ps (defScope e_copied.st) := ⟨rfl, rfl, rfl, by decide +kernel, rfl, by decide +kernel, by decide +kernel⟩
theorem ent_copied : entB law0.t e_copied := ⟨s_copied, rfl, rfl, by kernel_rfl⟩
theorem bd_copied : BindE e_copied := ⟨fun kV doc pm an cdv ct us hl => by
  have hl : us.length = 1 := hl
  match us, hl with
  | [_], _ => rfl⟩
theorem s_law_box : FnScope e_law_box.N e_law_box.ps (defScope e_law_box.st) := ⟨rfl, rfl, rfl, by decide +kernel, rfl, by decide +kernel, by decide +kernel⟩
theorem ent_law_box : entB law0.t e_law_box := ⟨s_law_box, rfl, rfl, by kernel_rfl⟩
theorem bd_law_box : BindE e_law_box := ⟨fun kV doc pm an cdv ct us hl => by
  have hl : us.length = 2 := hl
  match us, hl with
  | [_, _], _ => rfl⟩
theorem s_law_take : FnScope e_law_take.N e_law_take.ps (defScope e_law_take.st) := ⟨rfl, rfl, rfl, by decide +kernel, rfl, by decide +kernel, by decide +kernel⟩
theorem ent_law_take : entB law0.t e_law_take := ⟨s_law_take, rfl, rfl, by kernel_rfl⟩
theorem bd_law_take : BindE e_law_take := ⟨fun kV doc pm an cdv ct us hl => by
  have hl : us.length = 2 := hl
  match us, hl with
  | [_, _], _ => rfl⟩
theorem s_law_cells : FnScope e_law_cells.N e_law_cells.ps (defScope e_law_cells.st) := ⟨rfl, rfl, rfl, by decide +kernel, rfl, by decide +kernel, by decide +kernel⟩
theorem ent_law_cells : entB law0.t e_law_cells := ⟨s_law_cells, rfl, rfl, by kernel_rfl⟩
theorem bd_law_cells : BindE e_law_cells := ⟨fun kV doc pm an cdv ct us hl => by
  have hl : us.length = 2 := hl
  match us, hl with
  | [_, _], _ => rfl⟩
theorem s_law_of : FnScope e_law_of.N e_law_of.ps (defScope e_law_of.st) := ⟨rfl, rfl, rfl, by decide +kernel, rfl, by decide +kernel, by decide +kernel⟩
theorem ent_law_of : entB law0.t e_law_of := ⟨s_law_of, rfl, rfl, by kernel_rfl⟩
theorem bd_law_of : BindE e_law_of := ⟨fun kV doc pm an cdv ct us hl => by
  have hl : us.length = 2 := hl
  match us, hl with
  | [_, _], _ => rfl⟩
theorem s_law_same : FnScope e_law_same.N e_law_same.ps (defScope e_law_same.st) := ⟨rfl, rfl, rfl, by decide +kernel, rfl, by decide +kernel, by decide +kernel⟩
theorem ent_law_same : entB law0.t e_law_same := ⟨s_law_same, rfl, rfl, by kernel_rfl⟩
theorem bd_law_same : BindE e_law_same := ⟨fun kV doc pm an cdv ct us hl => by
  have hl : us.length = 2 := hl
  match us, hl with
  | [_, _], _ => rfl⟩
theorem s_law_sorts : FnScope e_law_sorts.N e_law_sorts.ps (defScope e_law_sorts.st) := ⟨rfl, rfl, rfl, by decide +kernel, rfl, by decide +kernel, by decide +kernel⟩
theorem ent_law_sorts : entB law0.t e_law_sorts := ⟨s_law_sorts, rfl, rfl, by kernel_rfl⟩
theorem bd_law_sorts : BindE e_law_sorts := ⟨fun kV doc pm an cdv ct us hl => by
  have hl : us.length = 1 := hl
  match us, hl with
  | [_], _ => rfl⟩
theorem s_law_right : FnScope e_law_right.N e_law_right.ps (defScope e_law_right.st) := ⟨rfl, rfl, rfl, by decide +kernel, rfl, by decide +kernel, by decide +kernel⟩
theorem ent_law_right : entB law0.t e_law_right := ⟨s_law_right, rfl, rfl, by kernel_rfl⟩
theorem bd_law_right : BindE e_law_right := ⟨fun kV doc pm an cdv ct us hl => by
  have hl : us.length = 1 := hl
  match us, hl with
  | [_], _ => rfl⟩
theorem s_law : FnScope e_law.N e_law.ps (defScope e_law.st) := ⟨rfl, rfl, rfl, by decide +kernel, rfl, by decide +kernel, by decide +kernel⟩
theorem ent_law : entB law0.t e_law := ⟨s_law, rfl, rfl, by kernel_rfl⟩
theorem bd_law : BindE e_law := ⟨fun kV doc pm an cdv ct us hl => by
  have hl : us.length = 1 := hl
  match us, hl with
  | [_], _ => rfl⟩
theorem bi_BadAnswer : BindI x_BadAnswer i_BadAnswer := ⟨fun kV doc pm an cdv ct us hl => by
  match us, hl with
  | [_, _], _ => rfl, fun kV doc pm an cdv ct self u => rfl⟩
theorem si_BadAnswer : FnScope ["self", i_BadAnswer.p] ["self", i_BadAnswer.p] (defScope i_BadAnswer.st) := ⟨rfl, rfl, rfl, by decide +kernel, rfl, by decide +kernel, by decide +kernel⟩
theorem bi_BadLine : BindI x_BadLine i_BadLine := ⟨fun kV doc pm an cdv ct us hl => by
  match us, hl with
  | [_, _], _ => rfl, fun kV doc pm an cdv ct self u => rfl⟩
theorem si_BadLine : FnScope ["self", i_BadLine.p] ["self", i_BadLine.p] (defScope i_BadLine.st) := ⟨rfl, rfl, rfl, by decide +kernel, rfl, by decide +kernel, by decide +kernel⟩
theorem bi_BadPair : BindI x_BadPair i_BadPair := ⟨fun kV doc pm an cdv ct us hl => by
  match us, hl with
  | [_, _], _ => rfl, fun kV doc pm an cdv ct self u => rfl⟩
theorem si_BadPair : FnScope ["self", i_BadPair.p] ["self", i_BadPair.p] (defScope i_BadPair.st) := ⟨rfl, rfl, rfl, by decide +kernel, rfl, by decide +kernel, by decide +kernel⟩
theorem bi_BadText : BindI x_BadText i_BadText := ⟨fun kV doc pm an cdv ct us hl => by
  match us, hl with
  | [_, _], _ => rfl, fun kV doc pm an cdv ct self u => rfl⟩
theorem si_BadText : FnScope ["self", i_BadText.p] ["self", i_BadText.p] (defScope i_BadText.st) := ⟨rfl, rfl, rfl, by decide +kernel, rfl, by decide +kernel, by decide +kernel⟩
theorem bi_Known : BindI x_Known i_Known := ⟨fun kV doc pm an cdv ct us hl => by
  match us, hl with
  | [_, _], _ => rfl, fun kV doc pm an cdv ct self u => rfl⟩
theorem si_Known : FnScope ["self", i_Known.p] ["self", i_Known.p] (defScope i_Known.st) := ⟨rfl, rfl, rfl, by decide +kernel, rfl, by decide +kernel, by decide +kernel⟩
theorem bi_NoBook : BindI x_NoBook i_NoBook := ⟨fun kV doc pm an cdv ct us hl => by
  match us, hl with
  | [_, _], _ => rfl, fun kV doc pm an cdv ct self u => rfl⟩
theorem si_NoBook : FnScope ["self", i_NoBook.p] ["self", i_NoBook.p] (defScope i_NoBook.st) := ⟨rfl, rfl, rfl, by decide +kernel, rfl, by decide +kernel, by decide +kernel⟩
theorem bi_NoKind : BindI x_NoKind i_NoKind := ⟨fun kV doc pm an cdv ct us hl => by
  match us, hl with
  | [_, _], _ => rfl, fun kV doc pm an cdv ct self u => rfl⟩
theorem si_NoKind : FnScope ["self", i_NoKind.p] ["self", i_NoKind.p] (defScope i_NoKind.st) := ⟨rfl, rfl, rfl, by decide +kernel, rfl, by decide +kernel, by decide +kernel⟩
theorem bi_NoNumber : BindI x_NoNumber i_NoNumber := ⟨fun kV doc pm an cdv ct us hl => by
  match us, hl with
  | [_, _], _ => rfl, fun kV doc pm an cdv ct self u => rfl⟩
theorem si_NoNumber : FnScope ["self", i_NoNumber.p] ["self", i_NoNumber.p] (defScope i_NoNumber.st) := ⟨rfl, rfl, rfl, by decide +kernel, rfl, by decide +kernel, by decide +kernel⟩
theorem bi_NoPlace : BindI x_NoPlace i_NoPlace := ⟨fun kV doc pm an cdv ct us hl => by
  match us, hl with
  | [_, _], _ => rfl, fun kV doc pm an cdv ct self u => rfl⟩
theorem si_NoPlace : FnScope ["self", i_NoPlace.p] ["self", i_NoPlace.p] (defScope i_NoPlace.st) := ⟨rfl, rfl, rfl, by decide +kernel, rfl, by decide +kernel, by decide +kernel⟩
theorem good0 : law0.Good where
  E := List.forall_mem_cons.2 ⟨ent_copied, List.forall_mem_cons.2 ⟨ent_law_box, List.forall_mem_cons.2 ⟨ent_law_take, List.forall_mem_cons.2 ⟨ent_law_cells, List.forall_mem_cons.2 ⟨ent_law_of, List.forall_mem_cons.2 ⟨ent_law_same, List.forall_mem_cons.2 ⟨ent_law_sorts, List.forall_mem_cons.2 ⟨ent_law_right, List.forall_mem_cons.2 ⟨ent_law, List.forall_mem_nil _⟩⟩⟩⟩⟩⟩⟩⟩⟩
  B := List.forall_mem_cons.2 ⟨bd_copied, List.forall_mem_cons.2 ⟨bd_law_box, List.forall_mem_cons.2 ⟨bd_law_take, List.forall_mem_cons.2 ⟨bd_law_cells, List.forall_mem_cons.2 ⟨bd_law_of, List.forall_mem_cons.2 ⟨bd_law_same, List.forall_mem_cons.2 ⟨bd_law_sorts, List.forall_mem_cons.2 ⟨bd_law_right, List.forall_mem_cons.2 ⟨bd_law, List.forall_mem_nil _⟩⟩⟩⟩⟩⟩⟩⟩⟩
  K := List.forall_mem_nil _
  I := List.forall_mem_cons.2 ⟨fun i hi => (by cases hi), List.forall_mem_cons.2 ⟨fun i hi => (by cases hi; exact ⟨bi_BadAnswer, si_BadAnswer, by kernel_rfl, Or.inl rfl, by kernel_rfl, rfl⟩), List.forall_mem_cons.2 ⟨fun i hi => (by cases hi; exact ⟨bi_BadLine, si_BadLine, by kernel_rfl, Or.inl rfl, by kernel_rfl, rfl⟩), List.forall_mem_cons.2 ⟨fun i hi => (by cases hi; exact ⟨bi_BadPair, si_BadPair, by kernel_rfl, Or.inl rfl, by kernel_rfl, rfl⟩), List.forall_mem_cons.2 ⟨fun i hi => (by cases hi; exact ⟨bi_BadText, si_BadText, by kernel_rfl, Or.inl rfl, by kernel_rfl, rfl⟩), List.forall_mem_cons.2 ⟨fun i hi => (by cases hi; exact ⟨bi_Known, si_Known, by kernel_rfl, Or.inl rfl, by kernel_rfl, rfl⟩), List.forall_mem_cons.2 ⟨fun i hi => (by cases hi; exact ⟨bi_NoBook, si_NoBook, by kernel_rfl, Or.inl rfl, by kernel_rfl, rfl⟩), List.forall_mem_cons.2 ⟨fun i hi => (by cases hi; exact ⟨bi_NoKind, si_NoKind, by kernel_rfl, Or.inl rfl, by kernel_rfl, rfl⟩), List.forall_mem_cons.2 ⟨fun i hi => (by cases hi; exact ⟨bi_NoNumber, si_NoNumber, by kernel_rfl, Or.inl rfl, by kernel_rfl, rfl⟩), List.forall_mem_cons.2 ⟨fun i hi => (by cases hi; exact ⟨bi_NoPlace, si_NoPlace, by kernel_rfl, Or.inl rfl, by kernel_rfl, rfl⟩), List.forall_mem_cons.2 ⟨fun i hi => (by cases hi), List.forall_mem_cons.2 ⟨fun i hi => (by cases hi), List.forall_mem_nil _⟩⟩⟩⟩⟩⟩⟩⟩⟩⟩⟩⟩
  nL := by decide +kernel
  nM := by decide +kernel
  dis := by decide +kernel
  sF := List.forall_mem_nil _
  sX := List.forall_mem_cons.2 ⟨(by simp [law0]), List.forall_mem_cons.2 ⟨(by simp [law0]), List.forall_mem_cons.2 ⟨(by simp [law0]), List.forall_mem_cons.2 ⟨(by simp [law0]), List.forall_mem_cons.2 ⟨(by simp [law0]), List.forall_mem_cons.2 ⟨(by simp [law0]), List.forall_mem_cons.2 ⟨(by simp [law0]), List.forall_mem_cons.2 ⟨(by simp [law0]), List.forall_mem_cons.2 ⟨(by simp [law0]), List.forall_mem_nil _⟩⟩⟩⟩⟩⟩⟩⟩⟩
  fo := List.forall_mem_cons.2 ⟨rfl, List.forall_mem_cons.2 ⟨rfl, List.forall_mem_cons.2 ⟨rfl, List.forall_mem_cons.2 ⟨rfl, List.forall_mem_cons.2 ⟨rfl, List.forall_mem_cons.2 ⟨rfl, List.forall_mem_cons.2 ⟨rfl, List.forall_mem_cons.2 ⟨rfl, List.forall_mem_cons.2 ⟨rfl, List.forall_mem_cons.2 ⟨rfl, List.forall_mem_cons.2 ⟨rfl, List.forall_mem_cons.2 ⟨rfl, List.forall_mem_nil _⟩⟩⟩⟩⟩⟩⟩⟩⟩⟩⟩⟩
  blt := List.forall_mem_cons.2 ⟨fun n hn => (by cases hn), List.forall_mem_cons.2 ⟨fun n hn => (by cases hn), List.forall_mem_cons.2 ⟨fun n hn => (by cases hn), List.forall_mem_cons.2 ⟨fun n hn => (by cases hn), List.forall_mem_cons.2 ⟨fun n hn => (by cases hn), List.forall_mem_cons.2 ⟨fun n hn => (by cases hn), List.forall_mem_cons.2 ⟨fun n hn => (by cases hn), List.forall_mem_cons.2 ⟨fun n hn => (by cases hn), List.forall_mem_cons.2 ⟨fun n hn => (by cases hn), List.forall_mem_cons.2 ⟨fun n hn => (by cases hn), List.forall_mem_cons.2 ⟨fun n hn => (by cases hn), List.forall_mem_cons.2 ⟨fun n hn => (by cases hn), List.forall_mem_cons.2 ⟨fun n hn => (by cases hn; exact ⟨by decide +kernel, by decide⟩), List.forall_mem_cons.2 ⟨fun n hn => (by cases hn), List.forall_mem_cons.2 ⟨fun n hn => (by cases hn; exact ⟨by decide +kernel, by decide⟩), List.forall_mem_nil _⟩⟩⟩⟩⟩⟩⟩⟩⟩⟩⟩⟩⟩⟩⟩
  cst := List.forall_mem_nil _
end PI.K00
namespace PI.K00
open PySem PySem.Spec PyProof.Rows L2 PI
theorem phi_take (k : Nat) (ws : List W) (μ : Mu) : phi law0.t.tab (k + 1) "_law_take" ws μ = callD e_law_take.d (phi law0.t.tab k) ws μ := rfl
theorem take1 (k : Nat) (μ : Mu) (b : Nat) (x y c n : Int) (hb : μ[b]? = some (.lst [.int x, .int y, .int c])) (hx : 0 < x) (hn : 0 < n) (hn2 : n < 1073741824) :
    phi law0.t.tab (k + 1) "_law_take" [.r b, .d (.int n)] μ = some (.ok (.d (.int (x % n))) (μ.set b (.lst [.int (x / n), .int y, .int c]))) := by
  rw [phi_take]
  have hl : b < μ.length := (List.getElem?_eq_some_iff.mp hb).1
  have e : (μ.set b (.lst [.int (x / n), .int y, .int c])).take μ.length = μ.set b (.lst [.int (x / n), .int y, .int c]) := List.take_of_length_le (by simp)
  simp [callD, e_law_take, b_law_take, exB, exS, evE, evL, evT, R.bind, R.st, R.of, views, view, toD, toDs, hb, sem, dIx, atI, ixN, truth, hx, hn, hn2, Tg.put, outD, e]
theorem take2 (k : Nat) (μ : Mu) (b : Nat) (x y c n : Int) (hb : μ[b]? = some (.lst [.int x, .int y, .int c])) (hx : ¬ 0 < x) (hn : 0 < n) (hc : 0 ≤ c) (hc2 : c < 1000000000000) :
    ∃ v, 0 ≤ v ∧ v < n ∧ phi law0.t.tab (k + 1) "_law_take" [.r b, .d (.int n)] μ = some (.ok (.d (.int v)) (μ.set b (.lst [.int x, .int y, .int (c + 1)]))) := by
  rw [phi_take]
  have hl : b < μ.length := (List.getElem?_eq_some_iff.mp hb).1
  have e : (μ.set b (.lst [.int x, .int y, .int (c + 1)])).take μ.length = μ.set b (.lst [.int x, .int y, .int (c + 1)]) := List.take_of_length_le (by simp)
  have m1 : ∀ z, mulOk z (39373 + (c + 1)) = true := fun z => by
    unfold mulOk
    simp only [Bool.or_eq_true, decide_eq_true_eq]
    right
    omega
  have m2 : ∀ z, mulOk 48271 z = true := fun z => rfl
  have m3 : ∀ z, mulOk z 48271 = true := fun z => by
    unfold mulOk
    simp only [Bool.or_eq_true, decide_eq_true_eq]
    right
    omega
  have m4 : ∀ z w, mulOk z (w % 40009 + 7) = true := fun z w => by
    unfold mulOk
    simp only [Bool.or_eq_true, decide_eq_true_eq]
    right
    omega
  have hs : ∀ o, (μ.set b o)[b]? = some o := fun o => List.getElem?_set_self hl
  have key : ∃ z : Int, callD e_law_take.d (phi law0.t.tab k) [.r b, .d (.int n)] μ = some (.ok (.d (.int (z % n))) (μ.set b (.lst [.int x, .int y, .int (c + 1)]))) := by
    simp [callD, e_law_take, b_law_take, exB, exS, evE, evL, evT, R.bind, R.st, R.of, views, view, toD, toDs, hb, hs, sem, dIx, dAdd, dMul, m1, m2, m3, m4, atI, ixN, truth, hx, hn, Tg.put, outD, e]
    exact ⟨_, rfl⟩
  obtain ⟨z, hz⟩ := key
  exact ⟨z % n, Int.emod_nonneg _ (by omega), Int.emod_lt_of_pos _ hn, hz⟩

theorem take_ok (k : Nat) (μ : Mu) (b : Nat) (x y c n : Int) (hb : μ[b]? = some (.lst [.int x, .int y, .int c])) (hn : 0 < n) (hn2 : n < 1073741824) (hc : 0 ≤ c) (hc2 : c < 1000000000000) :
    ∃ v x' c', 0 ≤ v ∧ v < n ∧ 0 ≤ c' ∧ c' ≤ c + 1 ∧ phi law0.t.tab (k + 1) "_law_take" [.r b, .d (.int n)] μ = some (.ok (.d (.int v)) (μ.set b (.lst [.int x', .int y, .int c']))) := by
  by_cases hx : 0 < x
  · exact ⟨x % n, x / n, c, Int.emod_nonneg _ (by omega), Int.emod_lt_of_pos _ hn, hc, by omega, take1 k μ b x y c n hb hx hn hn2⟩
  · obtain ⟨v, h1, h2, h3⟩ := take2 k μ b x y c n hb hx hn hc hc2
    exact ⟨v, x, c + 1, h1, h2, by omega, by omega, h3⟩
theorem lop_inv {f : D → Env → Mu → RS} (P : Env → Mu → Prop) : ∀ (xs : List D) (ρ : Env) (μ : Mu), (∀ x ∈ xs, ∀ ρ μ, P ρ μ → ∃ ρ' μ', f x ρ μ = some (.nx ρ', μ') ∧ P ρ' μ') → P ρ μ → ∃ ρ' μ', lop f xs ρ μ = some (.nx ρ', μ') ∧ P ρ' μ'
  | [], ρ, μ, _, h => ⟨ρ, μ, rfl, h⟩
  | x :: xs, ρ, μ, hf, h => by
    obtain ⟨ρ1, μ1, e1, h1⟩ := hf x List.mem_cons_self ρ μ h
    obtain ⟨ρ2, μ2, e2, h2⟩ := lop_inv P xs ρ1 μ1 (fun y hy => hf y (List.mem_cons_of_mem _ hy)) h1
    exact ⟨ρ2, μ2, by simp only [lop, e1, e2], h2⟩
theorem box_ok (k : Nat) (μ : Mu) (cs : List D) (i : Nat) (v : Int) (hi : cs[i]? = some (.int v)) (hi2 : i < 1000) :
    ∃ x y, phi law0.t.tab (k + 1) "_law_box" [.d (.lst cs), .d (.int i)] μ = some (.ok (.r μ.length) (μ ++ [.lst [.int x, .int y, .int 0]])) := by
  have hl : i < cs.length := (List.getElem?_eq_some_iff.mp hi).1
  have h1 : (i : Int) < cs.length := by omega
  have h3 : cs[i] = D.int v := (List.getElem?_eq_some_iff.mp hi).2
  have h2 : ixN cs.length (i : Int) = some i := by
    unfold ixN
    rw [if_pos (by omega), if_pos h1]
    simp
  have m1 : ∀ z (p : Prop) [Decidable p], mulOk z (if p then 1 else 0) = true := fun z p _ => by
    unfold mulOk
    split <;> simp
  have m2 : mulOk 39373 i = true := rfl
  have key : ∃ x y, callD e_law_box.d (phi law0.t.tab k) [.d (.lst cs), .d (.int i)] μ = some (.ok (.r μ.length) (μ ++ [.lst [.int x, .int y, .int 0]])) := by
    simp [callD, e_law_box, b_law_box, exB, exS, evE, evL, evT, R.bind, R.st, R.of, views, view, toD, toDs, sem, dIx, dAdd, dMul, m1, m2, atI, h2, h3, hl, truth, Tg.put, outD, lim]
  exact key

theorem collect_map {f : D → Mu → R (Option D)} {g : D → D} {μ : Mu} : ∀ (xs : List D) (acc : List D), (∀ x ∈ xs, ∀ acc, f x (μ ++ [.lst acc]) = some (.ok (some (g x)) (μ ++ [.lst acc]))) → acc.length + xs.length ≤ lim → collect f μ.length xs (μ ++ [.lst acc]) = some (μ ++ [.lst (acc ++ xs.map g)])
  | [], acc, _, _ => by simp [collect]
  | x :: xs, acc, h, hl => by
    have h1 := h x List.mem_cons_self acc
    have h2 : (μ ++ [O.lst acc])[μ.length]? = some (.lst acc) := by simp
    have h3 : acc.length < lim := by
      simp only [List.length_cons] at hl
      omega
    have h4 : ((μ ++ [O.lst acc]).take (μ.length + 1)).set μ.length (.lst (acc ++ [g x])) = μ ++ [.lst (acc ++ [g x])] := by
      rw [List.take_of_length_le (by simp)]
      simp
    simp only [collect, h1, h2, if_pos h3, h4]
    rw [collect_map xs (acc ++ [g x]) (fun y hy => h y (List.mem_cons_of_mem _ hy)) (by simp only [List.length_append, List.length_cons, List.length_nil] at hl ⊢; omega)]
    simp
mutual
def nice : D → Bool
  | .non => true
  | .bl _ => true
  | .int _ => true
  | .str s => PyData.strOk s
  | .tup xs => nices xs && decide (xs.length ≤ 1000)
  | .lst xs => nices xs && decide (xs.length ≤ 1000)
  | _ => false
def nices : List D → Bool
  | [] => true
  | x :: r => nice x && nices r
end
mutual
def dep : D → Nat
  | .tup xs => deps xs + 1
  | .lst xs => deps xs + 1
  | _ => 1
def deps : List D → Nat
  | [] => 0
  | x :: r => max (dep x) (deps r)
end
theorem zip_self : ∀ xs : List D, xs.zipWith (fun x y => (D.tup [x, y] : D)) xs = xs.map fun x => .tup [x, x]
  | [] => rfl
  | x :: xs => by simp [zip_self xs]
theorem bools_true : ∀ n : Nat, dBools (List.replicate n (.bl true)) = some (List.replicate n true)
  | 0 => rfl
  | n + 1 => by simp [List.replicate_succ, dBools, bools_true n]
def lcF (Φ : Phi) (vs : List Nat) (t : Tg) (cs : List IE) (e : IE) (ρ : Env) (x : D) (m : Mu) : R (Option D) := match t.put x (wipeE ρ vs) with
  | none => none
  | some ρ1 => (evC Φ cs ρ1 m).bind fun b m1 => if b = true then (evE Φ e ρ1 m1).bind fun w m2 => match toD w m2 with
      | none => none
      | some (y, m3) => rok (some y) m3
    else rok none m1
theorem ev_lc_map {Φ : Phi} {vs : List Nat} {t : Tg} {it : IT} {cs : List IE} {e : IE} {ρ : Env} {μ : Mu} {xs : List D} (g : D → D) (ht : evT Φ it ρ μ = some (.ok xs μ)) (hf : ∀ x ∈ xs, ∀ acc, lcF Φ vs t cs e ρ x (μ ++ [.lst acc]) = some (.ok (some (g x)) (μ ++ [.lst acc]))) (hl : xs.length ≤ lim) :
    evE Φ (.lc vs t it cs e) ρ μ = some (.ok (.d (.lst (xs.map g))) μ) := by
  rw [evE, ht]
  show (match collect (lcF Φ vs t cs e ρ) μ.length xs (μ ++ [.lst []]) with
      | none => none
      | some μ2 => match μ2[μ.length]? with
        | some (.lst ys) => (rok (W.d (.lst ys)) (μ2.take μ.length) : R W)
        | _ => none) = _
  rw [collect_map xs [] hf (by simpa using hl)]
  simp
theorem same_list (k : Nat) (μ : Mu) (xs : List D) (h : ∀ x ∈ xs, ∀ μ, phi law0.t.tab k "_law_same" [.d x, .d x] μ = some (.ok (.d (.bl true)) μ)) (hl : xs.length ≤ 1000) (ρ : Env) (a b : Option W) (hr : ρ = [some (.d (.lst xs)), some (.d (.lst xs)), a, b] ∨ ρ = [some (.d (.tup xs)), some (.d (.tup xs)), a, b]) :
    evE (phi law0.t.tab k) (.op .all [.lc [2, 3] (.tup [2, 3]) (.zip (.var 0) (.var 1)) [] (.call "_law_same" [.var 2, .var 3])]) ρ μ = some (.ok (.d (.bl true)) μ) := by
  have ht : evT (phi law0.t.tab k) (.zip (.var 0) (.var 1)) ρ μ = some (.ok (xs.map fun x => D.tup [x, x]) μ) := by
    rcases hr with rfl | rfl <;> simp [evT, evE, R.bind, toD, zip_self]
  have hlc : evE (phi law0.t.tab k) (.lc [2, 3] (.tup [2, 3]) (.zip (.var 0) (.var 1)) [] (.call "_law_same" [.var 2, .var 3])) ρ μ = some (.ok (.d (.lst (List.replicate xs.length (.bl true)))) μ) := by
    rw [ev_lc_map (fun _ => .bl true) ht (fun x hx acc => ?_) (by simp [lim]; omega)]
    · rw [List.map_map, show (xs.map ((fun _ => D.bl true) ∘ fun x => D.tup [x, x])) = List.replicate xs.length (.bl true) from List.eq_replicate_iff.mpr ⟨by simp, fun b hb => by obtain ⟨_, _, rfl⟩ := List.mem_map.mp hb; rfl⟩]
    · obtain ⟨y, hy, rfl⟩ := List.mem_map.mp hx
      rcases hr with rfl | rfl <;> simp [lcF, Tg.put, putL, wipeE, evC, evE, evL, R.bind, h y hy, toD]
  rw [evE]
  simp only [evL, hlc, R.bind]
  simp [views, view, sem, bools_true]
theorem tyEq (a b : Ty) : (a == b) = decide (a = b) := rfl
theorem eqv_ok (b : Bool) : dEq (.bl b) (.bl b) = some true := by cases b <;> decide
theorem eqv_non : dEq .non .non = some true := by decide
theorem eqv_int (i : Int) : dEq (.int i) (.int i) = some true := by simp [dEq, D.py, SeqAt.shaped, PyData.eqv, PyData.canLay0, PyData.depth]
theorem eqv_str (i : Str) (h : PyData.strOk i = true) : dEq (.str i) (.str i) = some true := by simp [h, dEq, D.py, SeqAt.shaped, PyData.eqv, PyData.canLay0, PyData.depth]
mutual
theorem same_ok : ∀ (d : D) (k : Nat) (μ : Mu), nice d = true → dep d ≤ k → phi law0.t.tab k "_law_same" [.d d, .d d] μ = some (.ok (.d (.bl true)) μ)
  | d, 0, μ, h, hk => by cases d <;> simp [dep] at hk
  | d, k + 1, μ, h, hk => by
    show outD false μ.length (exB (phi law0.t.tab k) b_law_same [some (.d d), some (.d d), none, none] μ) = _
    cases d with
    | non => simp (decide := true) [b_law_same, exB, exS, evE, evL, R.bind, R.st, R.of, views, view, sem, dTys, dTy, tyEq, truth, outD, toD, eqv_ok, eqv_non]
    | bl b => simp (decide := true) [b_law_same, exB, exS, evE, evL, R.bind, R.st, R.of, views, view, sem, dTys, dTy, tyEq, truth, outD, toD, eqv_ok]
    | int b => simp (decide := true) [b_law_same, exB, exS, evE, evL, R.bind, R.st, R.of, views, view, sem, dTys, dTy, tyEq, truth, outD, toD, eqv_ok, eqv_int]
    | str b =>
      simp only [nice] at h
      simp (decide := true) [b_law_same, exB, exS, evE, evL, R.bind, R.st, R.of, views, view, sem, dTys, dTy, tyEq, truth, outD, toD, eqv_ok, eqv_str b h]
    | tup xs =>
      simp only [nice, Bool.and_eq_true, decide_eq_true_eq] at h
      have hs := same_list k μ xs (fun x hx μ => sames_ok xs k μ h.1 (by simp only [dep] at hk; omega) x hx) h.2 [some (.d (.tup xs)), some (.d (.tup xs)), none, none] none none (.inr rfl)
      simp (decide := true) [b_law_same, exB, exS, ↓hs, evE, evL, R.bind, R.st, R.of, views, view, sem, dTys, dTy, tyEq, truth, outD, toD, eqv_ok, eqv_int]
    | lst xs =>
      simp only [nice, Bool.and_eq_true, decide_eq_true_eq] at h
      have hs := same_list k μ xs (fun x hx μ => sames_ok xs k μ h.1 (by simp only [dep] at hk; omega) x hx) h.2 [some (.d (.lst xs)), some (.d (.lst xs)), none, none] none none (.inl rfl)
      simp (decide := true) [b_law_same, exB, exS, ↓hs, evE, evL, R.bind, R.st, R.of, views, view, sem, dTys, dTy, tyEq, truth, outD, toD, eqv_ok, eqv_int]
    | _ => simp [nice] at h
theorem sames_ok : ∀ (ds : List D) (k : Nat) (μ : Mu), nices ds = true → deps ds ≤ k → ∀ x ∈ ds, phi law0.t.tab k "_law_same" [.d x, .d x] μ = some (.ok (.d (.bl true)) μ)
  | [], k, μ, h, hk, x, hx => by cases hx
  | d :: ds, k, μ, h, hk, x, hx => by
    simp only [nices, Bool.and_eq_true] at h
    simp only [deps] at hk
    rcases List.mem_cons.mp hx with e | hx
    · rw [e]
      exact same_ok d k μ h.1 (by omega)
    · exact sames_ok ds k μ h.2 (by omega) x hx
end
end PI.K00
namespace PI.K00
open PySem PySem.Spec PyProof.Rows L2 PI
theorem of_ok (k : Nat) (μ : Mu) (b : Nat) (x y c : Int) (gs : List D) (hb : μ[b]? = some (.lst [.int x, .int y, .int c])) (hg : gs ≠ []) (hg2 : gs.length ≤ 1000) (hc : 0 ≤ c) (hc2 : c < 1000000000000) :
    ∃ g ∈ gs, ∃ x' c', 0 ≤ c' ∧ c' ≤ c + 1 ∧ phi law0.t.tab (k + 2) "_law_of" [.r b, .d (.lst gs)] μ = some (.ok (.d g) (μ.set b (.lst [.int x', .int y, .int c']))) := by
  have hp : 0 < gs.length := List.length_pos_iff.mpr hg
  obtain ⟨v, x', c', h1, h2, h3, h4, h5⟩ := take_ok k μ b x y c gs.length hb (by omega) (by omega) hc hc2
  have hl : b < μ.length := (List.getElem?_eq_some_iff.mp hb).1
  have hv : v.toNat < gs.length := by omega
  have hx : ixN gs.length v = some v.toNat := by
    unfold ixN
    rw [if_pos h1, if_pos h2]
  have hgv : gs[v.toNat]? = some gs[v.toNat] := List.getElem?_eq_getElem hv
  refine ⟨gs[v.toNat], List.getElem_mem hv, x', c', h3, h4, ?_⟩
  show outD false μ.length (exB (phi law0.t.tab (k + 1)) b_law_of [some (.r b), some (.d (.lst gs))] μ) = _
  have e : (μ.set b (.lst [.int x', .int y, .int c'])).take μ.length = μ.set b (.lst [.int x', .int y, .int c']) := List.take_of_length_le (by simp)
  simp [b_law_of, exB, exS, evE, evL, R.bind, R.st, R.of, views, view, sem, h5, dIx, atI, hx, hgv, outD, toD, e]
def names : List Str := ["BadPair", "BadText", "BadLine", "NoPlace", "NoKind", "NotHandedOn", "NothingDone", "Known", "NoBook", "NoNumber", "BadAnswer", "AllKnown"]
theorem sorts_ok (k : Nat) (μ : Mu) (c : Str) (ns : List Str) (vs : List D) : phi law0.t.tab (k + 1) "_law_sorts" [.d (.exc c ns vs)] μ = some (.ok (.d (.lst (names.map fun n => .bl ([n].contains c)))) μ) := by
  show outD false μ.length (exB (phi law0.t.tab k) b_law_sorts [some (.d (.exc c ns vs)), none] μ) = _
  simp [b_law_sorts, exB, exS, evE, evL, R.bind, R.st, R.of, views, view, sem, dIs, toDs, toD, dAdd, outD, lim, names]
theorem copied_str (k : Nat) (μ : Mu) (s : Str) : phi law0.t.tab (k + 1) "copied" [.d (.str s)] μ = some (.ok (.d (.str s)) μ) := by
  show outD false μ.length (exB (phi law0.t.tab k) b_copied [some (.d (.str s)), none] μ) = _
  simp [b_copied, exB, exS, evE, evL, R.bind, R.st, R.of, views, view, sem, dTys, dTy, tyEq, truth, toDs, toD, outD]
theorem mk1 (k : Nat) (μ : Mu) (d : D) (c f : Str) (h : law0.t.tab c = some (.exc c (some (f, none)))) : phi law0.t.tab (k + 1) c [.d d] μ = some (.ok (.d (.exc c [f] [d])) μ) := by
  simp only [phi, h]
  simp [excD, evIni, iniE, evE, R.bind, toD]
theorem mk0 (k : Nat) (μ : Mu) (c : Str) (h : law0.t.tab c = some (.exc c none)) : phi law0.t.tab (k + 1) c [] μ = some (.ok (.d (.exc c [] [])) μ) := by
  simp only [phi, h]
  simp [excD]
theorem mkA (k : Nat) (μ : Mu) (s : Str) : phi law0.t.tab (k + 2) "BadAnswer" [.d (.str s)] μ = some (.ok (.d (.exc "BadAnswer" ["answer"] [.str s])) μ) := by
  show excD "BadAnswer" (some ("answer", some "copied")) (phi law0.t.tab (k + 1)) [.d (.str s)] μ = _
  simp [excD, evIni, iniE, evE, evL, R.bind, toD, copied_str]
theorem exB_nx {Φ : Phi} {s : IS} {r : List IS} {ρ ρ' : Env} {μ μ' : Mu} (h : exS Φ s ρ μ = some (.nx ρ', μ')) : exB Φ (s :: r) ρ μ = exB Φ r ρ' μ' := by
  simp only [exB, h]
theorem dEq_int (a b : Int) : dEq (.int a) (.int b) = some (decide (a = b)) := by
  simp [dEq, D.py, SeqAt.shaped, PyData.eqv, PyData.canLay0, PyData.depth]
  rfl
def every (far : Int) (tag : Str) : List D := [.exc "BadPair" ["place"] [.int far], .exc "BadText" ["piece"] [.int far], .exc "BadLine" ["number"] [.int far], .exc "NoPlace" ["number"] [.int far], .exc "NoKind" ["name"] [.str tag], .exc "NotHandedOn" [] [], .exc "NothingDone" [] [],
  .exc "Known" ["name"] [.str tag], .exc "NoBook" ["name"] [.str tag], .exc "NoNumber" ["number"] [.int far], .exc "BadAnswer" ["answer"] [.str tag], .exc "AllKnown" [] []]
theorem m_BadPair (k : Nat) (μ : Mu) (d : D) : phi law0.t.tab (k + 1) "BadPair" [.d d] μ = some (.ok (.d (.exc "BadPair" ["place"] [d])) μ) := mk1 k μ d _ _ rfl
theorem m_BadText (k : Nat) (μ : Mu) (d : D) : phi law0.t.tab (k + 1) "BadText" [.d d] μ = some (.ok (.d (.exc "BadText" ["piece"] [d])) μ) := mk1 k μ d _ _ rfl
theorem m_BadLine (k : Nat) (μ : Mu) (d : D) : phi law0.t.tab (k + 1) "BadLine" [.d d] μ = some (.ok (.d (.exc "BadLine" ["number"] [d])) μ) := mk1 k μ d _ _ rfl
theorem m_NoPlace (k : Nat) (μ : Mu) (d : D) : phi law0.t.tab (k + 1) "NoPlace" [.d d] μ = some (.ok (.d (.exc "NoPlace" ["number"] [d])) μ) := mk1 k μ d _ _ rfl
theorem m_NoNumber (k : Nat) (μ : Mu) (d : D) : phi law0.t.tab (k + 1) "NoNumber" [.d d] μ = some (.ok (.d (.exc "NoNumber" ["number"] [d])) μ) := mk1 k μ d _ _ rfl
theorem m_NoKind (k : Nat) (μ : Mu) (d : D) : phi law0.t.tab (k + 1) "NoKind" [.d d] μ = some (.ok (.d (.exc "NoKind" ["name"] [d])) μ) := mk1 k μ d _ _ rfl
theorem m_Known (k : Nat) (μ : Mu) (d : D) : phi law0.t.tab (k + 1) "Known" [.d d] μ = some (.ok (.d (.exc "Known" ["name"] [d])) μ) := mk1 k μ d _ _ rfl
theorem m_NoBook (k : Nat) (μ : Mu) (d : D) : phi law0.t.tab (k + 1) "NoBook" [.d d] μ = some (.ok (.d (.exc "NoBook" ["name"] [d])) μ) := mk1 k μ d _ _ rfl
theorem m_NotHandedOn (k : Nat) (μ : Mu) : phi law0.t.tab (k + 1) "NotHandedOn" [] μ = some (.ok (.d (.exc "NotHandedOn" [] [])) μ) := mk0 k μ _ rfl
theorem m_NothingDone (k : Nat) (μ : Mu) : phi law0.t.tab (k + 1) "NothingDone" [] μ = some (.ok (.d (.exc "NothingDone" [] [])) μ) := mk0 k μ _ rfl
theorem m_AllKnown (k : Nat) (μ : Mu) : phi law0.t.tab (k + 1) "AllKnown" [] μ = some (.ok (.d (.exc "AllKnown" [] [])) μ) := mk0 k μ _ rfl

def rho (b : Nat) (far : Int) (tag : Str) (a c : Option W) : Env := [some (.r b), some (.d (.int far)), some (.d (.str tag)), some (.d (.lst (every far tag))), a, c, none, none, none]
/-- one turn of the loop over the twelve errors -/
def turnB : List IS := match b_law_right with
  | [_, _, _, _, .for_ _ _ b, _, _, _, _, _, _, _, _, _] => b
  | _ => []
def restB : List IS := b_law_right.drop 5
theorem right_eq : b_law_right = b_law_right.take 4 ++ (.for_ (.tup [4, 5]) (.enu (.var 3)) turnB) :: restB := rfl
theorem range12 (k : Nat) (μ : Mu) (i : Nat) (ρ : Env) (h4 : ρ[4]? = some (some (.d (.int i)))) (hl : ρ.length = 9) :
    evE (phi law0.t.tab k) (.lc [8] (.one 8) (.rng1 (.cst (.int 12))) [] (.op .eq [.var 8, .var 4])) ρ μ = some (.ok (.d (.lst ((List.range 12).map fun j => .bl (decide (j = i))))) μ) := by
  have ht : evT (phi law0.t.tab k) (.rng1 (.cst (.int 12))) ρ μ = some (.ok ((List.range 12).map fun j => D.int (0 + (j : Nat))) μ) := by
    simp [evT, evE, R.bind]
  rw [ev_lc_map (fun d => match d with | .int j => .bl (decide (j = (i : Int))) | _ => .non) ht (fun x hx acc => ?_) (by simp [lim])]
  · rw [List.map_map]
    have : ((fun d => match d with | D.int j => D.bl (decide (j = (i : Int))) | _ => D.non) ∘ fun (j : Nat) => D.int (0 + (j : Nat))) = fun j : Nat => D.bl (decide (j = i)) := by
      funext j
      simp
      constructor <;> omega
    rw [this]
  · obtain ⟨j, hj, rfl⟩ := List.mem_map.mp hx
    match ρ, hl, h4 with
    | [a0, a1, a2, a3, a4, a5, a6, a7, a8], _, h4 =>
      simp at h4
      subst h4
      simp [lcF, Tg.put, wipeE, evC, evE, evL, R.bind, views, view, sem, dEq_int, toD]
theorem turn (k : Nat) (μ : Mu) (b : Nat) (far : Int) (tag : Str) (a c : Option W) (i : Nat) (cn : Str) (ns : List Str) (vs : List D) (hc : (names.map fun n => D.bl ([n].contains cn)) = ((List.range 12).map fun j => .bl (decide (j = i)))) (hm : names.contains cn = true) :
    exB (phi law0.t.tab (k + 3)) turnB (rho b far tag (some (.d (.int i))) (some (.d (.exc cn ns vs)))) μ = some (.nx (rho b far tag (some (.d (.int i))) (some (.d (.exc cn ns vs)))), μ) := by
  have h1 := range12 (k + 3) μ i (rho b far tag (some (.d (.int i))) (some (.d (.exc cn ns vs)))) rfl rfl
  have h2 := sorts_ok (k + 2) μ cn ns vs
  rw [hc] at h2
  have hn : nice (.lst ((List.range 12).map fun j => D.bl (decide (j = i)))) = true := by
    simp [nice, nices, List.range, List.range.loop]
  have hd : dep (.lst ((List.range 12).map fun j => D.bl (decide (j = i)))) = 2 := by
    simp [dep, deps, List.range, List.range.loop]
  have h3 := same_ok (.lst ((List.range 12).map fun j => D.bl (decide (j = i)))) (k + 3) μ hn (by rw [hd]; omega)
  have h5 : (["AllKnown", "BadAnswer", "BadLine", "BadPair", "BadText", "Known", "NoBook", "NoKind", "NoNumber", "NoPlace", "NotHandedOn", "NothingDone"] : List Str).contains cn = true := by
    simp [names] at hm ⊢
    rcases hm with h | h | h | h | h | h | h | h | h | h | h | h <;> simp [h]
  have g5 : (rho b far tag (some (.d (.int i))) (some (.d (.exc cn ns vs))))[5]? = some (some (.d (.exc cn ns vs))) := rfl
  generalize rho b far tag (some (.d (.int i))) (some (.d (.exc cn ns vs))) = ρ at h1 g5 ⊢
  show exB (phi law0.t.tab (k + 3)) [.ife (.op .not [.call "_law_same" [.call "_law_sorts" [.var 5], .lc [8] (.one 8) (.rng1 (.cst (.int 12))) [] (.op .eq [.var 8, .var 4])]]) [.ret (.cst (.bl false))] [],
    .ife (.or (.op .not [.op (.isx ["AllKnown", "BadAnswer", "BadLine", "BadPair", "BadText", "Known", "NoBook", "NoKind", "NoNumber", "NoPlace", "NotHandedOn", "NothingDone"]) [.var 5]]) (.or (.op .not [.op (.isx ["AllKnown", "BadAnswer", "BadLine", "BadPair", "BadText", "Known", "NoBook", "NoKind", "NoNumber", "NoPlace", "NotHandedOn", "NothingDone"]) [.var 5]]) (.op (.isx []) [.var 5]))) [.ret (.cst (.bl false))] []] ρ μ = _
  simp only [exB, exS, evE, evL, g5, ↓h1, h2, h3, h5, R.bind, R.st, rok, views, view, sem, dIs, truth, Option.map_some, Option.bind_some, Bool.not_true, Bool.not_false, List.contains_nil]
end PI.K00
namespace PI.K00
open PySem PySem.Spec PyProof.Rows L2 PI
theorem loop12 (k : Nat) (μ : Mu) (b : Nat) (far : Int) (tag : Str) : ∃ a c, exS (phi law0.t.tab (k + 3)) (.for_ (.tup [4, 5]) (.enu (.var 3)) turnB) (rho b far tag none none) μ = some (.nx (rho b far tag a c), μ) := by
  have ht : evT (phi law0.t.tab (k + 3)) (.enu (.var 3)) (rho b far tag none none) μ = some (.ok ((List.range 12).zipWith (fun i x => .tup [.int (i : Nat), x]) (every far tag)) μ) := by
    simp [evT, evE, R.bind, rho, toD, every]
  have step : ∀ x ∈ (List.range 12).zipWith (fun i x => D.tup [.int (i : Nat), x]) (every far tag), ∀ ρ m, (m = μ ∧ ∃ a c, ρ = rho b far tag a c) → ∃ ρ' μ', (match Tg.put (.tup [4, 5]) x ρ with
      | none => none
      | some r1 => exB (phi law0.t.tab (k + 3)) turnB r1 m) = some (.nx ρ', μ') ∧ μ' = μ ∧ ∃ a c, ρ' = rho b far tag a c := by
    intro x hx ρ m hp
    obtain ⟨rfl, a, c, rfl⟩ := hp
    have go : ∀ (i : Nat) (cn : Str) (ns : List Str) (vs : List D), (names.map fun n => D.bl ([n].contains cn)) = ((List.range 12).map fun j => .bl (decide (j = i))) → names.contains cn = true →
        ∃ ρ' μ', (match Tg.put (.tup [4, 5]) (.tup [.int i, .exc cn ns vs]) (rho b far tag a c) with
          | none => none
          | some r1 => exB (phi law0.t.tab (k + 3)) turnB r1 m) = some (.nx ρ', μ') ∧ μ' = m ∧ ∃ a c, ρ' = rho b far tag a c := fun i cn ns vs h1 h2 =>
      ⟨rho b far tag (some (.d (.int i))) (some (.d (.exc cn ns vs))), m, turn k m b far tag a c i cn ns vs h1 h2, rfl, _, _, rfl⟩
    simp only [every, List.range, List.range.loop, List.zipWith_cons_cons, List.zipWith_nil_right, List.mem_cons, List.not_mem_nil, or_false] at hx
    rcases hx with rfl | rfl | rfl | rfl | rfl | rfl | rfl | rfl | rfl | rfl | rfl | rfl
    · exact go 0 _ _ _ rfl rfl
    · exact go 1 _ _ _ rfl rfl
    · exact go 2 _ _ _ rfl rfl
    · exact go 3 _ _ _ rfl rfl
    · exact go 4 _ _ _ rfl rfl
    · exact go 5 _ _ _ rfl rfl
    · exact go 6 _ _ _ rfl rfl
    · exact go 7 _ _ _ rfl rfl
    · exact go 8 _ _ _ rfl rfl
    · exact go 9 _ _ _ rfl rfl
    · exact go 10 _ _ _ rfl rfl
    · exact go 11 _ _ _ rfl rfl
  obtain ⟨ρ', μ', h1, h2, a, c, h3⟩ := lop_inv _ _ _ μ step ⟨rfl, none, none, rfl⟩
  subst h2 h3
  refine ⟨a, c, ?_⟩
  simp only [exS, ht, R.st]
  exact h1
theorem rest_ok (k : Nat) (μ : Mu) (b : Nat) (far : Int) (tag : Str) (a c : Option W) (ht : PyData.strOk tag = true) : exB (phi law0.t.tab (k + 4)) restB (rho b far tag a c) μ = some (.rt (.d (.bl true)), μ) := by
  have e30 : (1000000000000000000000000000000 : Int) = 10 ^ 30 := by decide
  have h1 := same_ok (.lst [.int far, .int far, .int far, .int far, .str tag, .str tag, .str tag, .int far, .str tag, .int far, .int 7, .int (-1), .int 3, .str "b", .str tag, .str tag, .str tag, .int 1000000000000000000000000000000]) (k + 4) μ (by simp [nice, nices, ht]; decide +kernel) (by simp [dep, deps])
  simp [restB, b_law_right, rho, every, exB, exS, evE, evL, R.bind, R.st, R.of, views, view, sem, dIx, atI, ixN, dFld, List.lookup, toDs, toD, dAdd, lim, permL, m_BadPair, m_BadText, m_BadLine, m_NoPlace, m_NoNumber, m_NoKind, m_Known, m_NoBook, mkA, h1]
end PI.K00
namespace PI.K00
open PySem PySem.Spec PyProof.Rows L2 PI
theorem collect_mapT {f : D → Mu → R (Option D)} {g : D → D} {μ : Mu} : ∀ (xs : List D) (acc : List D), (∀ x ∈ xs, ∀ acc, ∃ t, f x (μ ++ [.lst acc]) = some (.ok (some (g x)) (μ ++ [.lst acc] ++ t))) → acc.length + xs.length ≤ lim → collect f μ.length xs (μ ++ [.lst acc]) = some (μ ++ [.lst (acc ++ xs.map g)])
  | [], acc, _, _ => by simp [collect]
  | x :: xs, acc, h, hl => by
    obtain ⟨t, h1⟩ := h x List.mem_cons_self acc
    have h2 : (μ ++ [O.lst acc] ++ t)[μ.length]? = some (.lst acc) := by simp
    have h3 : acc.length < lim := by
      simp only [List.length_cons] at hl
      omega
    have h4 : ((μ ++ [O.lst acc] ++ t).take (μ.length + 1)).set μ.length (.lst (acc ++ [g x])) = μ ++ [.lst (acc ++ [g x])] := by
      rw [List.take_left' (by simp)]
      simp
    simp only [collect, h1, h2, if_pos h3, h4]
    rw [collect_mapT xs (acc ++ [g x]) (fun y hy => h y (List.mem_cons_of_mem _ hy)) (by simp only [List.length_append, List.length_cons, List.length_nil] at hl ⊢; omega)]
    simp
theorem ev_lc_mapT {Φ : Phi} {vs : List Nat} {t : Tg} {it : IT} {cs : List IE} {e : IE} {ρ : Env} {μ : Mu} {xs : List D} (g : D → D) (ht : evT Φ it ρ μ = some (.ok xs μ)) (hf : ∀ x ∈ xs, ∀ acc, ∃ tl, lcF Φ vs t cs e ρ x (μ ++ [.lst acc]) = some (.ok (some (g x)) (μ ++ [.lst acc] ++ tl))) (hl : xs.length ≤ lim) :
    evE Φ (.lc vs t it cs e) ρ μ = some (.ok (.d (.lst (xs.map g))) μ) := by
  rw [evE, ht]
  show (match collect (lcF Φ vs t cs e ρ) μ.length xs (μ ++ [.lst []]) with
      | none => none
      | some μ2 => match μ2[μ.length]? with
        | some (.lst ys) => (rok (W.d (.lst ys)) (μ2.take μ.length) : R W)
        | _ => none) = _
  rw [collect_mapT xs [] hf (by simpa using hl)]
  simp
def tags : List D := [.str "a", .str "ants", .str "abcdefgh", .str "zz"]
theorem right_ok (k : Nat) (μ : Mu) (b : Nat) (x y c : Int) (hb : μ[b]? = some (.lst [.int x, .int y, .int c])) (hc : 0 ≤ c) (hc2 : c < 100000000000) :
    ∃ x' c', 0 ≤ c' ∧ c' ≤ c + 2 ∧ phi law0.t.tab (k + 5) "_law_right" [.r b] μ = some (.ok (.d (.bl true)) (μ.set b (.lst [.int x', .int y, .int c']))) := by
  have hl : b < μ.length := (List.getElem?_eq_some_iff.mp hb).1
  obtain ⟨v, x1, c1, a1, a2, a3, a4, a5⟩ := take_ok (k + 3) μ b x y c 1000000000 hb (by omega) (by omega) hc (by omega)
  have hb1 : (μ.set b (.lst [.int x1, .int y, .int c1]))[b]? = some (.lst [.int x1, .int y, .int c1]) := List.getElem?_set_self hl
  obtain ⟨g, hg, x2, c2, b1, b2, b3⟩ := of_ok (k + 2) _ b x1 y c1 tags hb1 (by simp [tags]) (by simp [tags]) a3 (by omega)
  rw [List.set_set] at b3
  obtain ⟨tag, rfl, hs⟩ : ∃ tag, g = .str tag ∧ PyData.strOk tag = true := by
    simp only [tags, List.mem_cons, List.not_mem_nil, or_false] at hg
    rcases hg with rfl | rfl | rfl | rfl
    · exact ⟨_, rfl, by decide +kernel⟩
    · exact ⟨_, rfl, by decide +kernel⟩
    · exact ⟨_, rfl, by decide +kernel⟩
    · exact ⟨_, rfl, by decide +kernel⟩
  refine ⟨x2, c2, b1, by omega, ?_⟩
  obtain ⟨a, c, l1⟩ := loop12 (k + 1) (μ.set b (.lst [.int x2, .int y, .int c2])) b (v - 500000000) tag
  have l2 := rest_ok k (μ.set b (.lst [.int x2, .int y, .int c2])) b (v - 500000000) tag a c hs
  have s4 : exB (phi law0.t.tab (k + 4)) b_law_right [some (.r b), none, none, none, none, none, none, none, none] μ = exB (phi law0.t.tab (k + 4)) ((.for_ (.tup [4, 5]) (.enu (.var 3)) turnB) :: restB) (rho b (v - 500000000) tag none none) (μ.set b (.lst [.int x2, .int y, .int c2])) := by
    rw [right_eq]
    generalize IS.for_ (.tup [4, 5]) (.enu (.var 3)) turnB :: restB = rest
    simp only [tags] at b3
    simp [b_law_right, exB, exS, evE, evL, R.bind, R.st, R.of, views, view, sem, toDs, toD, dAdd, dMul, mulOk, lim, a5, b3, m_BadPair, m_BadText, m_BadLine, m_NoPlace, m_NoNumber, m_NoKind, m_Known, m_NoBook, m_NotHandedOn, m_NothingDone, m_AllKnown, mkA, rho, every]
  show outD false μ.length (exB (phi law0.t.tab (k + 4)) b_law_right [some (.r b), none, none, none, none, none, none, none, none] μ) = _
  rw [s4, exB_nx l1, l2]
  simp [outD, toD, List.take_of_length_le]
end PI.K00
namespace PI.K00
open PySem PySem.Spec PyProof.Rows L2 PI
def cellB : List IS := match b_law_cells with
  | [_, .for_ _ _ b, _] => b
  | _ => []
def rhoC (s : List D) (b : Nat) (a c d : Option W) : Env := [some (.d (.scr s)), some (.d (.int 3)), some (.r b), a, c, d]
theorem cell_turn (Φ : Phi) (s : List D) (μ : Mu) (cs : List Int) (a c d : Option W) (i : Nat) (v : Int) (hcs : cs.length = 3) (hi : i < 1000) :
    ∃ (cs' : List Int) (a c d : Option W), exB Φ cellB (rhoC s μ.length (some (.d (.int i))) (some (.d (.int v))) d) (μ ++ [.lst (cs.map .int)]) = some (.nx (rhoC s μ.length a c d), μ ++ [.lst (cs'.map .int)]) ∧ cs'.length = 3 := by
  have hm : ((i : Int) % 3) = ((i % 3 : Nat) : Int) := by omega
  have hlt : i % 3 < 3 := Nat.mod_lt _ (by omega)
  have hg : (cs.map D.int)[i % 3]? = some (.int cs[i % 3]) := by
    rw [List.getElem?_map, List.getElem?_eq_getElem (by omega)]
    rfl
  have hx : ixN (cs.map D.int).length ((i % 3 : Nat) : Int) = some (i % 3) := by
    unfold ixN
    have l3 : (cs.map D.int).length = 3 := by simp [hcs]
    rw [l3, if_pos (by omega), if_pos (by omega), Int.toNat_natCast]
  have m1 : mulOk v ((i : Int) + 2) = true := by
    unfold mulOk
    simp only [Bool.or_eq_true, decide_eq_true_eq]
    right
    omega
  have hk : (μ ++ [O.lst (cs.map D.int)])[μ.length]? = some (.lst (cs.map D.int)) := by simp
  obtain ⟨z, hz⟩ : ∃ z, cs[i % 3]'(by omega) = z := ⟨_, rfl⟩
  rw [hz] at hg
  refine ⟨cs.set (i % 3) (z + v * ((i : Int) + 2)), some (.d (.int i)), some (.d (.int v)), some (.d (.int ((i % 3 : Nat) : Int))), ?_, by simp [hcs]⟩
  have hset : (μ ++ [O.lst (cs.map D.int)]).set μ.length (.lst ((cs.map D.int).set (i % 3) (.int (z + v * ((i : Int) + 2))))) = μ ++ [.lst ((cs.set (i % 3) (z + v * ((i : Int) + 2))).map D.int)] := by
    rw [List.map_set]
    simp
  rw [← hset]
  generalize μ ++ [O.lst (cs.map D.int)] = M at hk ⊢
  generalize cs.map D.int = C at hg hx hk ⊢
  simp only [cellB, b_law_cells, rhoC, exB, exS, evE, evL, R.bind, R.st, R.of, rok, views, view, sem, hm, dIx, atI, dAdd, dMul, m1, hx, hg, hk, toD, List.getElem?_cons_succ, List.getElem?_cons_zero, Option.bind_some, List.set_cons_succ, List.set_cons_zero, if_true, Int.reduceLT, reduceIte]

theorem mem_enum {ys : List D} {x : D} (h : x ∈ (List.range ys.length).zipWith (fun i x => D.tup [.int (i : Nat), x]) ys) : ∃ i v, i < ys.length ∧ v ∈ ys ∧ x = .tup [.int (i : Nat), v] := by
  obtain ⟨j, hj, rfl⟩ := List.mem_iff_getElem.mp h
  have hj2 : j < ys.length := by simpa using hj
  exact ⟨j, ys[j], hj2, List.getElem_mem hj2, by simp⟩
theorem cells_ok (k : Nat) (μ : Mu) (ns : List Int) (hn : ns.length ≤ 63) : ∃ cs : List Int, cs ≠ [] ∧ cs.length ≤ 3 ∧ phi law0.t.tab (k + 1) "_law_cells" [.d (.scr (ns.map .int)), .d (.int 3)] μ = some (.ok (.d (.lst (cs.map .int))) μ) := by
  generalize hΦ : phi law0.t.tab k = Φ
  have hA : evE Φ (.sl false true (.var 0) (.cst .non) (.var 1)) [some (.d (.scr (ns.map .int))), some (.d (.int 3)), none, none, none, none] μ = some (.ok (.d (.lst ((ns.take 3).map .int))) μ) := by
    have e : HT.sIx ns.length ns.length (some 3) = min 3 ns.length := HT.sIx_nat _ _ 3
    simp [evE, R.bind, R.of, toI, view, dCut, HT.sIx_none, e, List.map_take]
  obtain ⟨init, i1, i2, i3, hI⟩ : ∃ init : List Int, init ≠ [] ∧ init.length ≤ 3 ∧ (3 ≤ ns.length → init.length = 3) ∧ exS Φ (.setm 2 (.or (.op .list [.sl false true (.var 0) (.cst .non) (.var 1)]) (.lst [.cst (.int 0)]))) [some (.d (.scr (ns.map .int))), some (.d (.int 3)), none, none, none, none] μ = some (.nx (rhoC (ns.map .int) μ.length none none none), μ ++ [.lst (init.map .int)]) := by
    cases ns with
    | nil =>
      refine ⟨[0], by simp, by simp, by simp, ?_⟩
      simp only [exS, evE, evL, ↓hA, R.bind, R.st, views, view, sem, truth]
      simp [truth, toDs, toD, lim, rhoC]
    | cons n ns =>
      refine ⟨(n :: ns).take 3, by simp, by simp; omega, fun h => by simp at h ⊢; omega, ?_⟩
      simp only [exS, evE, evL, ↓hA, R.bind, R.st, views, view, sem, truth]
      simp [truth, rhoC]
  have hB : ∃ ys : List D, ys.length ≤ 63 ∧ (∀ y ∈ ys, ∃ v, y = .int v) ∧ (ns.length < 3 → ys = []) ∧ ∀ m, evT Φ (.enu (.sl true true (.var 0) (.var 1) (.cst (.int 63)))) (rhoC (ns.map .int) μ.length none none none) m = some (.ok ((List.range ys.length).zipWith (fun i x => D.tup [.int (i : Nat), x]) ys) m) := by
    refine ⟨((ns.map D.int).drop (HT.sIx (ns.map D.int).length 0 (some 3))).take (HT.sIx (ns.map D.int).length (ns.map D.int).length (some 63) - HT.sIx (ns.map D.int).length 0 (some 3)), ?_, fun y hy => ?_, fun h => ?_, fun m => ?_⟩
    · simp only [List.length_take, List.length_drop, List.length_map]
      omega
    · have := List.mem_of_mem_drop (List.mem_of_mem_take hy)
      obtain ⟨v, _, rfl⟩ := List.mem_map.mp this
      exact ⟨v, rfl⟩
    · have e : HT.sIx (ns.map D.int).length 0 (some 3) = min 3 (ns.map D.int).length := HT.sIx_nat _ _ 3
      rw [e, List.drop_eq_nil_of_le (by simp; omega)]
      simp
    · simp only [evT, evE, R.bind, rhoC, List.getElem?_cons_succ, List.getElem?_cons_zero, toI, rok, view, dCut, R.of, Option.bind_some, Option.map_some, toD, if_true]
  obtain ⟨ys, y1, y2, y3, hB⟩ := hB
  have step : ∀ x ∈ (List.range ys.length).zipWith (fun i x => D.tup [.int (i : Nat), x]) ys, ∀ ρ m, (∃ (cs : List Int) (a c d : Option W), cs.length = 3 ∧ ρ = rhoC (ns.map .int) μ.length a c d ∧ m = μ ++ [.lst (cs.map .int)]) → ∃ ρ' m', (match Tg.put (.tup [3, 4]) x ρ with
      | none => none
      | some r1 => exB Φ cellB r1 m) = some (.nx ρ', m') ∧ ∃ (cs : List Int) (a c d : Option W), cs.length = 3 ∧ ρ' = rhoC (ns.map .int) μ.length a c d ∧ m' = μ ++ [.lst (cs.map .int)] := by
    intro x hx ρ m hp
    obtain ⟨cs, a, c, d, hl, rfl, rfl⟩ := hp
    obtain ⟨i, v, hi, hv, rfl⟩ := mem_enum hx
    obtain ⟨v, rfl⟩ := y2 v hv
    obtain ⟨cs', a', c', d', e, hl'⟩ := cell_turn Φ (ns.map .int) μ cs a c d i v hl (by omega)
    exact ⟨_, _, e, cs', a', c', d', hl', rfl, rfl⟩
  have hL : ∃ (cs : List Int) (a c d : Option W), cs ≠ [] ∧ cs.length ≤ 3 ∧ exS Φ (.for_ (.tup [3, 4]) (.enu (.sl true true (.var 0) (.var 1) (.cst (.int 63)))) cellB) (rhoC (ns.map .int) μ.length none none none) (μ ++ [.lst (init.map .int)]) = some (.nx (rhoC (ns.map .int) μ.length a c d), μ ++ [.lst (cs.map .int)]) := by
    by_cases h3 : ns.length < 3
    · have := y3 h3
      subst this
      refine ⟨init, none, none, none, i1, i2, ?_⟩
      simp only [exS, hB, R.st]
      rfl
    · obtain ⟨ρ', m', e, cs, a, c, d, hl, rfl, rfl⟩ := lop_inv _ _ _ _ step ⟨init, none, none, none, i3 (by omega), rfl, rfl⟩
      refine ⟨cs, a, c, d, (fun z => by rw [z] at hl; cases hl), by omega, ?_⟩
      simp only [exS, hB, R.st]
      exact e
  obtain ⟨cs, a, c, d, c1, c2, hL⟩ := hL
  refine ⟨cs, c1, c2, ?_⟩
  show outD false μ.length (exB (phi law0.t.tab k) [.setm 2 (.or (.op .list [.sl false true (.var 0) (.cst .non) (.var 1)]) (.lst [.cst (.int 0)])), .for_ (.tup [3, 4]) (.enu (.sl true true (.var 0) (.var 1) (.cst (.int 63)))) cellB, .ret (.var 2)] [some (.d (.scr (ns.map .int))), some (.d (.int 3)), none, none, none, none] μ) = _
  rw [hΦ, exB_nx hI, exB_nx hL]
  simp [exB, exS, evE, R.st, rhoC, outD, toD]
end PI.K00
namespace PI.K00
open PySem PySem.Spec PyProof.Rows L2 PI
theorem rng_ok {Φ : Phi} {a : IE} {ρ : Env} {μ m : Mu} {n : Int} (h : evE Φ a ρ μ = some (.ok (.d (.int n)) m)) (h0 : 0 ≤ n) (h1 : n < 1000000) : evT Φ (.rng1 a) ρ μ = some (.ok ((List.range n.toNat).map fun j => D.int (0 + (j : Nat))) m) := by
  rw [evT, h]
  show (if -(2 ^ 62) ≤ n ∧ n < 2 ^ 62 then (rok ((List.range n.toNat).map fun i => D.int (0 + (i : Nat))) m : R (List D)) else none) = _
  rw [if_pos]
  constructor
  · exact Int.le_trans (by decide) h0
  · exact Int.lt_of_lt_of_le h1 (by decide)
theorem law_t (k : Nat) (s : W) (cs : List Int) (h : cs.length ≤ 3) : evT (phi law0.t.tab (k + 6)) (.rng1 (.op .len [.var 1])) [some s, some (.d (.lst (cs.map .int))), none] [] = some (.ok ((List.range cs.length).map fun j => D.int (0 + (j : Nat))) []) := by
  have := rng_ok (Φ := phi law0.t.tab (k + 6)) (a := .op .len [.var 1]) (ρ := [some s, some (.d (.lst (cs.map .int))), none]) (μ := []) (m := []) (n := cs.length) (by
    generalize phi law0.t.tab (k + 6) = Φ
    simp [evE, evL, R.bind, views, view, sem]) (by omega) (by omega)
  rw [this, Int.toNat_natCast]
theorem box_at {j k : Nat} (e : j = k + 1) (μ : Mu) (cs : List D) (i : Nat) (v : Int) (hi : cs[i]? = some (.int v)) (hi2 : i < 1000) :
    ∃ x y, phi law0.t.tab j "_law_box" [.d (.lst cs), .d (.int i)] μ = some (.ok (.r μ.length) (μ ++ [.lst [.int x, .int y, .int 0]])) := by
  subst e
  exact box_ok k μ cs i v hi hi2
theorem right_at {j k : Nat} (e : j = k + 5) (μ : Mu) (b : Nat) (x y c : Int) (hb : μ[b]? = some (.lst [.int x, .int y, .int c])) (hc : 0 ≤ c) (hc2 : c < 100000000000) :
    ∃ x' c', 0 ≤ c' ∧ c' ≤ c + 2 ∧ phi law0.t.tab j "_law_right" [.r b] μ = some (.ok (.d (.bl true)) (μ.set b (.lst [.int x', .int y, .int c']))) := by
  subst e
  exact right_ok k μ b x y c hb hc hc2
theorem cells_at {j k : Nat} (e : j = k + 1) (μ : Mu) (ns : List Int) (hn : ns.length ≤ 63) : ∃ cs : List Int, cs ≠ [] ∧ cs.length ≤ 3 ∧ phi law0.t.tab j "_law_cells" [.d (.scr (ns.map .int)), .d (.int 3)] μ = some (.ok (.d (.lst (cs.map .int))) μ) := by
  subst e
  exact cells_ok k μ ns hn
theorem law_e (k : Nat) (s : W) (cs : List Int) (h2 : cs.length ≤ 3) (x : D) (hx : x ∈ (List.range cs.length).map fun j => D.int (0 + (j : Nat))) (acc : List D) : ∃ tl, lcF (phi law0.t.tab (k + 6)) [2] (.one 2) [] (.call "_law_right" [.call "_law_box" [.var 1, .var 2]]) [some s, some (.d (.lst (cs.map .int))), none] x ([] ++ [.lst acc]) = some (.ok (some (.bl true)) ([] ++ [.lst acc] ++ tl)) := by
  obtain ⟨j, hj, rfl⟩ := List.mem_map.mp hx
  have hj : j < cs.length := by simpa using hj
  obtain ⟨v, hv⟩ : ∃ v, (cs.map D.int)[j]? = some (.int v) := ⟨cs[j], by simp [hj]⟩
  obtain ⟨bx, y, hb⟩ := box_at (j := k + 6) (k := k + 5) (by omega) [.lst acc] (cs.map .int) j v hv (by omega)
  obtain ⟨x', c', r1, r2, hr⟩ := right_at (j := k + 6) (k := k + 1) (by omega) ([.lst acc] ++ [.lst [.int bx, .int y, .int 0]]) 1 bx y 0 (by simp) (by omega) (by omega)
  refine ⟨[.lst [.int x', .int y, .int c']], ?_⟩
  simp only [List.length_cons, List.length_nil] at hb
  have hr2 : phi law0.t.tab (k + 6) "_law_right" [.r 1] [.lst acc, .lst [.int bx, .int y, .int 0]] = some (.ok (.d (.bl true)) [.lst acc, .lst [.int x', .int y, .int c']]) := hr
  simp [lcF, Tg.put, wipeE, evC, evE, evL, R.bind, hb, hr2, toD]
theorem law_lc (k : Nat) (s : W) (cs : List Int) (h2 : cs.length ≤ 3) : evE (phi law0.t.tab (k + 6)) (.lc [2] (.one 2) (.rng1 (.op .len [.var 1])) [] (.call "_law_right" [.call "_law_box" [.var 1, .var 2]])) [some s, some (.d (.lst (cs.map .int))), none] [] = some (.ok (.d (.lst (List.replicate cs.length (.bl true)))) []) := by
  have e2 : (((List.range cs.length).map fun j => D.int (0 + (j : Nat))).map fun _ => D.bl true) = List.replicate cs.length (.bl true) := List.eq_replicate_iff.mpr ⟨by simp, fun b hb => by obtain ⟨_, _, rfl⟩ := List.mem_map.mp hb; rfl⟩
  rw [← e2]
  exact ev_lc_mapT (μ := []) (fun _ => .bl true) (law_t k s cs h2) (fun x hx acc => law_e k s cs h2 x hx acc) (by simp [lim]; omega)
end PI.K00
namespace PI.K00
open PySem PySem.Spec PyProof.Rows L2 PI

def b_lawX : List IS := [.set (.one 1) (.call "_law_cells" [.var 0, .cst (.int 3)]), .ret (.op .all [.lc [2] (.one 2) (.rng1 (.op .len [.var 1])) [] (.call "_law_right" [.call "_law_box" [.var 1, .var 2]])])]
theorem q1 : b_law = b_lawX := rfl
theorem p1 (Φ : Phi) (s : D) (cs : List D) (h3 : Φ "_law_cells" [.d s, .d (.int 3)] [] = some (.ok (.d (.lst cs)) [])) : exS Φ (.set (.one 1) (.call "_law_cells" [.var 0, .cst (.int 3)])) [some (.d s), none, none] [] = some (.nx [some (.d s), some (.d (.lst cs)), none], []) := by
    simp [exS, evE, evL, R.bind, R.st, h3]
theorem p2 (Φ : Phi) (e : IE) (ρ : Env) (n : Nat) (hlc : evE Φ e ρ [] = some (.ok (.d (.lst (List.replicate n (.bl true)))) [])) : evE Φ (.op .all [e]) ρ [] = some (.ok (.d (.bl true)) []) := by
    rw [evE]
    simp only [evL, hlc, R.bind]
    simp [views, view, sem, bools_true]
theorem p3 (Φ : Phi) (e : IE) (ρ : Env) (w : W) (μ : Mu) (h : evE Φ e ρ [] = some (.ok w μ)) : exS Φ (.ret e) ρ [] = some (.rt w, μ) := by
    rw [exS, h]
    rfl
theorem p4 (Φ : Phi) (e : IE) (ρ : Env) (w : W) (μ : Mu) (h : evE Φ e ρ [] = some (.ok w μ)) : exB Φ [.ret e] ρ [] = some (.rt w, μ) := by
    rw [exB, p3 Φ e ρ w μ h]
theorem law_b0 (Φ : Phi) (s : D) (cs : List D) (n : Nat) (h3 : Φ "_law_cells" [.d s, .d (.int 3)] [] = some (.ok (.d (.lst cs)) [])) (hlc : evE Φ (.lc [2] (.one 2) (.rng1 (.op .len [.var 1])) [] (.call "_law_right" [.call "_law_box" [.var 1, .var 2]])) [some (.d s), some (.d (.lst cs)), none] [] = some (.ok (.d (.lst (List.replicate n (.bl true)))) [])) :
    exB Φ b_lawX [some (.d s), none, none] [] = some (.rt (.d (.bl true)), []) := by
  unfold b_lawX
  rw [exB_nx (p1 Φ s cs h3)]
  exact p4 _ _ _ _ _ (p2 _ _ _ _ hlc)
theorem law_b (k : Nat) (ns : List Int) (hn : ns.length ≤ 63) : exB (phi law0.t.tab (k + 6)) b_law [some (.d (.scr (ns.map .int))), none, none] [] = some (.rt (.d (.bl true)), []) := by
  obtain ⟨cs, h1, h2, h3⟩ := cells_at (j := k + 6) (k := k + 5) (by omega) [] ns hn
  rw [q1]
  exact law_b0 _ _ _ _ h3 (law_lc k (.d (.scr (ns.map .int))) cs h2)
theorem law_c (k : Nat) (ns : List Int) (hn : ns.length ≤ 63) : phi law0.t.tab (k + 6 + 1) "law" [.d (.scr (ns.map .int))] [] = some (.ok (.d (.bl true)) []) := by
  show outD false 0 (exB (phi law0.t.tab (k + 6)) b_law [some (.d (.scr (ns.map .int))), none, none] []) = _
  rw [law_b k ns hn]
  rfl
end PI.K00
namespace PI.K00
open PySem PySem.Spec PyProof.Rows L2 PI
abbrev R : PySem.W.OpenRow := PySem.W.OpenLaw.row PySem.Challenge.rw_letahead_k00_errors
abbrev hk : PySem.W.Hook := He.hookX 6 law0.fa law0.fn [] [] law0.exB
def ob (s : PySem.W.SharedT) : He.AlX := He.obsX 6 law0.fa law0.fn [] [] law0.exB (HandSHeadRun.getT s)
theorem ob_eq (s : PySem.W.SharedT) : ob s = hk.obs s.abs := He.obsX_eq (HandSHeadRun.getT_eq s)
def loose : List Str := ["copied", "QueueError", "AllKnown", "BadAnswer", "BadLine", "BadPair", "BadText", "Known", "NoBook", "NoKind", "NoNumber", "NoPlace", "NotHandedOn", "NothingDone", "_law_box", "_law_take", "_law_cells", "_law_of", "_law_same", "_law_sorts", "_law_right"]
theorem run (w : World) : HandSHeadRun.RunEq R (PySem.W.view R.prog [23]) hk ob 4000 loose w := by
  intro os
  kernel_rfl
theorem hphi (ns : List Int) (h : ns.length ≤ 63) : ∃ μ, phi law0.t.tab (34 + 6 + 1) e_law.name [.d (.scr (ns.map .int))] [] = some (.ok (.d (.bl true)) μ) := ⟨[], law_c 34 ns h⟩
end PI.K00
open PySem PySem.W PySem.Calls PyProof.Rows
theorem PySem.Challenge.cw_letahead_k00_errors_holds : PySem.Challenge.rw_letahead_k00_errors.Holds := by
  w_on; o_law
  refine HandSHeadRun.head_any (r := OpenLaw.row PySem.Challenge.rw_letahead_k00_errors) (q := view (OpenLaw.row PySem.Challenge.rw_letahead_k00_errors).prog [23]) (H := PI.K00.hk) (ob := PI.K00.ob) (M := 4000) (loose := PI.K00.loose) (d := HandSHeadRun.topDef (OpenLaw.row PySem.Challenge.rw_letahead_k00_errors).prog 23) (kwd := []) PI.K00.ob_eq
    (by kernel_rfl) (fun s => by kernel_rfl) PI.K00.run (by kernel_rfl) (by kernel_rfl) (by kernel_rfl) (by rfl) (by first | assumption | decide +kernel) (by decide +kernel) ⟨rfl, rfl, rfl, rfl, rfl, by decide +kernel⟩ ?hw ?hc
  case hw => w_witness2
  case hc => exact PI.law_pi PI.K00.good0 (k := 34 + 6) (e := PI.K00.e_law) (x := "_law_script") rfl (by decide) (by kernel_rfl) ⟨rfl, by decide, by decide⟩ (by simp [PI.K00.law0]) (by kernel_rfl) rfl PI.K00.hphi
