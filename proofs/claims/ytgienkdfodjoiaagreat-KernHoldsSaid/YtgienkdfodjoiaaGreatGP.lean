/- Groups: plain. -/
import Derived.Test.YtgienkdfodjoiaaGreatZ0
namespace Go.Proofs.YtgienkdfodjoiaaGreat.Cg
open Go.RowKit Go.Shelf
structure G where
  name : ByteArray
  blk : Nat
  pids : List Int
abbrev Gl := List G
def fnd (l : Gl) (s : ByteArray) : Option G := l.find? fun g => decide (g.name = s)
def hm (l : Gl) (a : Int) : Option G := l.find? fun g => decide (a ∈ g.pids)
def insI (p : Int) : List Int → List Int
  | [] => [p]
  | q :: r => if p < q then p :: q :: r else q :: insI p r
def remI (a : Int) (l : List Int) : List Int := l.filter fun x => !decide (x = a)
def sLt (a b : ByteArray) : Bool := Op.bytesLess a.toList b.toList
def insG (g : G) : Gl → Gl
  | [] => [g]
  | q :: r => if sLt g.name q.name then g :: q :: r else q :: insG g r
def remG (l : Gl) (s : ByteArray) : Gl := l.filter fun g => !decide (g.name = s)
/-- Nobody has a any more. -/
def gonL (l : Gl) (a : Int) : Gl := l.map fun g => { g with pids := remI a g.pids }
def inN (ns : List ByteArray) (s : ByteArray) : Bool := ns.any fun x => decide (x = s)
theorem inN_iff {ns : List ByteArray} {s : ByteArray} : inN ns s = true ↔ s ∈ ns := by simp [inN]
def noteP (ns : List ByteArray) (s : ByteArray) : List ByteArray := if inN ns s then ns else ns ++ [s]
def remN (ns : List ByteArray) (s : ByteArray) : List ByteArray := ns.filter fun x => !decide (x = s)
def gonN (l : Gl) (ns : List ByteArray) (a : Int) : List ByteArray :=
  match hm l a with
  | some g => if remI a g.pids = [] then noteP ns g.name else ns
  | none => ns
def addL (l : Gl) (a : Int) (s : ByteArray) : Gl := l.map fun g => if g.name = s then { g with pids := insI a g.pids } else g
/-- As it may be. -/
structure Wf (l : Gl) (ns : List ByteArray) : Prop where
  names : l.Pairwise fun g h => g.name ≠ h.name
  nd : ∀ g ∈ l, g.pids.Pairwise (· < ·)
  one : ∀ g ∈ l, ∀ h ∈ l, ∀ a, a ∈ g.pids → a ∈ h.pids → g = h
  rng : ∀ g ∈ l, ∀ a ∈ g.pids, 2 ≤ a ∧ a ≤ 9223372036854775807
  sz : ∀ g ∈ l, g.name.size ≤ 1000
  nn : ns.Nodup
theorem fnd_name {l : Gl} {s : ByteArray} {g : G} (h : fnd l s = some g) : g.name = s := by
  have := List.find?_some h
  simpa using this
theorem fnd_mem {l : Gl} {s : ByteArray} {g : G} (h : fnd l s = some g) : g ∈ l := List.mem_of_find?_eq_some h
theorem fnd_none {l : Gl} {s : ByteArray} : fnd l s = none ↔ ∀ g ∈ l, g.name ≠ s := by simp [fnd]
theorem hm_mem {l : Gl} {a : Int} {g : G} (h : hm l a = some g) : g ∈ l := List.mem_of_find?_eq_some h
theorem hm_in {l : Gl} {a : Int} {g : G} (h : hm l a = some g) : a ∈ g.pids := by
  have := List.find?_some h
  simpa using this
theorem hm_none {l : Gl} {a : Int} : hm l a = none ↔ ∀ g ∈ l, a ∉ g.pids := by simp [hm]
theorem pair_eq {α : Type} {β : Type} {f : α → β} : ∀ {l : List α}, (l.Pairwise fun g h => f g ≠ f h) → ∀ {g h : α}, g ∈ l → h ∈ l → f g = f h → g = h
  | [], _, _, _, hg, _, _ => by simp at hg
  | x :: r, hp, g, h, hg, hh, e => by
    obtain ⟨h1, h2⟩ := List.pairwise_cons.1 hp
    rcases List.mem_cons.1 hg with hg1 | hg1
    · rcases List.mem_cons.1 hh with hh1 | hh1
      · rw [hg1, hh1]
      · rw [hg1] at e
        exact absurd e (h1 h hh1)
    · rcases List.mem_cons.1 hh with hh1 | hh1
      · rw [hh1] at e
        exact absurd e.symm (h1 g hg1)
      · exact pair_eq h2 hg1 hh1 e
theorem Wf.fnd_of {l : Gl} {ns : List ByteArray} (w : Wf l ns) {g : G} (h : g ∈ l) : fnd l g.name = some g := by
  cases e : fnd l g.name with
  | none => exact absurd rfl (fnd_none.1 e g h)
  | some q => rw [pair_eq w.names (fnd_mem e) h (fnd_name e)]
theorem Wf.hm_of {l : Gl} {ns : List ByteArray} (w : Wf l ns) {g : G} {a : Int} (h : g ∈ l) (ha : a ∈ g.pids) : hm l a = some g := by
  cases e : hm l a with
  | none => exact absurd ha (hm_none.1 e g h)
  | some q => rw [w.one q (hm_mem e) g h a (hm_in e) ha]
theorem mem_insI {a x : Int} : ∀ {l : List Int}, x ∈ insI a l ↔ x = a ∨ x ∈ l
  | [] => by simp [insI]
  | q :: r => by
    unfold insI
    split
    · simp
    · simp only [List.mem_cons, mem_insI (l := r)]
      constructor
      · rintro (h | h | h)
        · exact .inr (.inl h)
        · exact .inl h
        · exact .inr (.inr h)
      · rintro (h | h | h)
        · exact .inr (.inl h)
        · exact .inl h
        · exact .inr (.inr h)
theorem len_insI (a : Int) : ∀ l : List Int, (insI a l).length = l.length + 1
  | [] => rfl
  | q :: r => by
    unfold insI
    split
    · simp
    · simp [len_insI a r]
theorem srt_insI {a : Int} : ∀ {l : List Int}, l.Pairwise (· < ·) → a ∉ l → (insI a l).Pairwise (· < ·)
  | [], _, _ => by simp [insI]
  | q :: r, h, ha => by
    obtain ⟨h1, h2⟩ := List.pairwise_cons.1 h
    simp only [List.mem_cons, not_or] at ha
    unfold insI
    split
    · rename_i hq
      refine List.pairwise_cons.2 ⟨fun x hx => ?_, h⟩
      rcases List.mem_cons.1 hx with rfl | hx
      · exact hq
      · exact Int.lt_trans hq (h1 x hx)
    · refine List.pairwise_cons.2 ⟨fun x hx => ?_, srt_insI h2 ha.2⟩
      rcases mem_insI.1 hx with rfl | hx
      · have := ha.1; omega
      · exact h1 x hx
theorem mem_remI {a x : Int} {l : List Int} : x ∈ remI a l ↔ x ∈ l ∧ x ≠ a := by simp [remI]
theorem srt_remI {a : Int} {l : List Int} (h : l.Pairwise (· < ·)) : (remI a l).Pairwise (· < ·) := h.sublist List.filter_sublist
theorem remI_none {a : Int} {l : List Int} (h : a ∉ l) : remI a l = l := by
  unfold remI
  rw [List.filter_eq_self]
  intro x hx
  simp only [Bool.not_eq_true', decide_eq_false_iff_not]
  rintro rfl
  exact h hx
theorem len_remI {a : Int} : ∀ {l : List Int}, l.Pairwise (· < ·) → a ∈ l → (remI a l).length + 1 = l.length
  | [], _, h => by simp at h
  | q :: r, h, ha => by
    obtain ⟨h1, h2⟩ := List.pairwise_cons.1 h
    by_cases e : q = a
    · subst e
      have : remI q (q :: r) = r := by
        unfold remI
        rw [List.filter_cons]
        simp only [decide_true, Bool.not_true, Bool.false_eq_true, if_false]
        exact remI_none (fun hq => by have := h1 q hq; omega)
      rw [this]; simp
    · have hr : a ∈ r := by
        rcases List.mem_cons.1 ha with rfl | ha
        · exact absurd rfl e
        · exact ha
      have : remI a (q :: r) = q :: remI a r := by
        unfold remI
        rw [List.filter_cons]
        simp [e]
      rw [this]
      simp [len_remI h2 hr]
theorem mem_insG {g x : G} : ∀ {l : Gl}, x ∈ insG g l ↔ x = g ∨ x ∈ l
  | [] => by simp [insG]
  | q :: r => by
    unfold insG
    split
    · simp
    · simp only [List.mem_cons, mem_insG (l := r)]
      constructor
      · rintro (h | h | h)
        · exact .inr (.inl h)
        · exact .inl h
        · exact .inr (.inr h)
      · rintro (h | h | h)
        · exact .inr (.inl h)
        · exact .inl h
        · exact .inr (.inr h)
theorem insG_perm (g : G) : ∀ l : Gl, (insG g l).Perm (g :: l)
  | [] => List.Perm.refl _
  | q :: r => by
    unfold insG
    split
    · exact List.Perm.refl _
    · exact ((insG_perm g r).cons q).trans (List.Perm.swap g q r)
/-- Where names are apart, what is found hangs on what there is alone. -/
theorem fnd_iff {l : Gl} (h : l.Pairwise fun g h => g.name ≠ h.name) {s : ByteArray} {g : G} : fnd l s = some g ↔ g ∈ l ∧ g.name = s := by
  constructor
  · exact fun e => ⟨fnd_mem e, fnd_name e⟩
  · rintro ⟨h1, rfl⟩
    cases e : fnd l g.name with
    | none => exact absurd rfl (fnd_none.1 e g h1)
    | some q => rw [pair_eq h (fnd_mem e) h1 (fnd_name e)]
theorem opt_ext {α : Type} {a b : Option α} (h : ∀ x, a = some x ↔ b = some x) : a = b := by
  cases a with
  | none =>
    cases b with
    | none => rfl
    | some y => exact absurd ((h y).2 rfl) (by simp)
  | some x => exact ((h x).1 rfl).symm
theorem fnd_ins {l : Gl} {g : G} (hp : l.Pairwise fun g h => g.name ≠ h.name) (hn : fnd l g.name = none) (s : ByteArray) : fnd (insG g l) s = if s = g.name then some g else fnd l s := by
  have hp2 : (insG g l).Pairwise fun g h => g.name ≠ h.name := ((insG_perm g l).pairwise_iff (fun {a b} (h : a.name ≠ b.name) => h.symm)).2 (List.pairwise_cons.2 ⟨fun q hq => (fnd_none.1 hn q hq).symm, hp⟩)
  apply opt_ext
  intro x
  rw [fnd_iff hp2, mem_insG]
  by_cases e : s = g.name
  · subst e
    rw [if_pos rfl]
    constructor
    · rintro ⟨rfl | h, h2⟩
      · rfl
      · exact absurd h2 (fnd_none.1 hn x h)
    · intro h; cases h; exact ⟨.inl rfl, rfl⟩
  · rw [if_neg e, fnd_iff hp]
    constructor
    · rintro ⟨rfl | h, h2⟩
      · exact absurd h2.symm e
      · exact ⟨h, h2⟩
    · rintro ⟨h, h2⟩; exact ⟨.inr h, h2⟩
theorem fnd_rem (l : Gl) (t s : ByteArray) : fnd (remG l t) s = if s = t then none else fnd l s := by
  unfold fnd remG
  rw [List.find?_filter]
  by_cases e : s = t
  · subst e
    rw [if_pos rfl, List.find?_eq_none]
    intro x _
    simp
  · rw [if_neg e]
    congr 1
    funext g
    by_cases h : g.name = s
    · subst h; simp [e]
    · simp [h]
theorem fnd_map {l : Gl} {f : G → G} (hf : ∀ g, (f g).name = g.name) (s : ByteArray) : fnd (l.map f) s = (fnd l s).map f := by
  unfold fnd
  rw [List.find?_map]
  congr 2
  funext g
  simp [hf]
theorem hm_gon {l : Gl} (a x : Int) : hm (gonL l a) x = if x = a then none else (hm l x).map fun g => { g with pids := remI a g.pids } := by
  unfold hm gonL
  rw [List.find?_map]
  by_cases e : x = a
  · subst e
    rw [if_pos rfl, Option.map_eq_none_iff, List.find?_eq_none]
    intro g _
    simp [mem_remI]
  · rw [if_neg e]
    congr 2
    funext g
    simp [mem_remI, e]
theorem hm_ins {l : Gl} {ns : List ByteArray} (w : Wf l ns) {g : G} (hg : g.pids = []) (x : Int) : hm (insG g l) x = hm l x := by
  cases e : hm l x with
  | none =>
    rw [hm_none] at e ⊢
    intro q hq
    rcases mem_insG.1 hq with rfl | hq
    · rw [hg]; simp
    · exact e q hq
  | some q =>
    cases e2 : hm (insG g l) x with
    | none => exact absurd (hm_in e) (hm_none.1 e2 q (mem_insG.2 (.inr (hm_mem e))))
    | some q2 =>
      have h1 := hm_mem e2
      have h2 := hm_in e2
      rcases mem_insG.1 h1 with rfl | h1
      · rw [hg] at h2; simp at h2
      · rw [w.one q2 h1 q (hm_mem e) x h2 (hm_in e)]
theorem find_congr {α : Type} {p q : α → Bool} : ∀ {l : List α}, (∀ y ∈ l, p y = q y) → l.find? p = l.find? q
  | [], _ => rfl
  | y :: r, h => by
    rw [List.find?_cons, List.find?_cons, h y (by simp)]
    cases q y with
    | true => rfl
    | false => exact find_congr (fun y hy => h y (by simp [hy]))
theorem hm_rem {l : Gl} {ns : List ByteArray} (w : Wf l ns) {g : G} (h : g ∈ l) (hg : g.pids = []) (x : Int) : hm (remG l g.name) x = hm l x := by
  unfold hm remG
  rw [List.find?_filter]
  refine find_congr (fun y hy => ?_)
  by_cases e : y.name = g.name
  · rw [pair_eq w.names hy h e, hg]; simp
  · simp [e]
end Go.Proofs.YtgienkdfodjoiaaGreat.Cg
