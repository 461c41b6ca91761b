/- What FileDrops builds: three files of settings. -/
import Derived.Test.YtiinhfbfciccnaaDoorYI
import Derived.Test.YtiinhfbfciccnaaDoorYF
import Derived.Test.YtiinhfbfciccnaaDoorRowUB
namespace Go.Proofs.YtiinhfbfciccnaaDoor
open Go.RowKit Go.Shelf
def secA (p : Nat) : ByteArray := if p = 0 then ⟨#[65]⟩ else ⟨#[66]⟩
def keyK (p : Nat) : ByteArray := if p = 0 then ⟨#[107]⟩ else ⟨#[113]⟩
def valZ (p : Nat) : ByteArray := if p = 0 then ⟨#[]⟩ else if p = 1 then ⟨#[120]⟩ else if p = 2 then ⟨#[121]⟩ else ⟨#[122]⟩
/-- The setting of a place and a number. -/
def stU (i u : Nat) : St := ⟨secA (u / 4 % 2), keyK (u / 8 % 2), valZ (u % 4), i⟩
def allU : Nat → List Nat → List St
  | _, [] => []
  | i, u :: r => stU i u :: allU (i + 1) r
theorem allU_len : ∀ (l : List Nat) (i : Nat), (allU i l).length = l.length
  | [], _ => rfl
  | _ :: r, i => by simp [allU, allU_len r]
theorem allU_at : ∀ (l : List Nat) (i k u : Nat), l[k]? = some u → (allU i l)[k]? = some (stU (i + k) u)
  | [], _, k, _, h => by simp at h
  | v :: r, i, 0, u, h => by simp at h; subst h; rfl
  | v :: r, i, k + 1, u, h => by
    simp only [allU, List.getElem?_cons_succ] at h ⊢
    rw [allU_at r (i + 1) k u h, Nat.add_assoc, Nat.add_comm 1 k]
theorem take_allU {l : List Nat} {k u : Nat} (h : l[k]? = some u) : (allU 0 l).take (k + 1) = (allU 0 l).take k ++ [stU k u] := by
  have := allU_at l 0 k u h
  rw [Nat.zero_add] at this
  rw [List.take_add_one, this]; rfl
/-- Three files in block F, the four values in block V. -/
structure FI (B V F : Nat) (qs : Nat → List St) (vs : Nat → Value) (W : World) : Prop where
  z : ∀ p, p < 4 → W.cell? ⟨V, p, none⟩ = some (.string (valZ p))
  c : ∀ j, j < 3 → W.cell? ⟨F, j, none⟩ = some (vs j)
  f : ∀ j, j < 3 → W.frozen? ⟨F, j, none⟩ = false
  o : ∀ j, j < 3 → W.ownsRow B 44 4 (vs j) (qs j).length (stsC (qs j))
  d : ∀ i j, i < 3 → j < 3 → i ≠ j → ∀ g, (vs i).ownBlock = some g → (vs j).ownBlock ≠ some g
/-- One setting more, in file f. -/
def put {α : Type} (f : Nat) (x : α) (g : Nat → α) (j : Nat) : α := if j = f then x else g j
theorem put_at {α : Type} (f : Nat) (x : α) (g : Nat → α) : put f x g f = x := if_pos rfl
theorem put_no {α : Type} {f j : Nat} (x : α) (g : Nat → α) (h : j ≠ f) : put f x g j = g j := if_neg h
theorem FI.step {B V F f : Nat} {qs : Nat → List St} {vs : Nat → Value} {W U w3 : World} {x : St} {v' : Value} (h : FI B V F qs vs W) (hV : V < B) (hF : F < B) (hVF : V ≠ F) (hf : f < 3) (m : Mv (fun _ => False) W U) (hgrow : U.grownBy w3 (vs f).ownBlock)
    (hown' : w3.ownsRow B 44 4 v' ((qs f).length + 1) (stsC (qs f) ++ stC x)) (hat : v'.ownBlock = (vs f).ownBlock ∨ v'.ownBlock = some U.heap.size) :
    w3.cell? ⟨F, f, none⟩ = some (vs f) ∧ w3.frozen? ⟨F, f, none⟩ = false ∧ FI B V F (put f (qs f ++ [x]) qs) (put f v' vs) (w3.setCell ⟨F, f, none⟩ v') := by
  have nb : ∀ k, k < B → ¬ (vs f).ownBlock = some k := fun k hk e => by have := ((h.o f hf).lt k e).1; omega
  have mg : Mv (fun k => (vs f).ownBlock = some k) W w3 := (m.mono (fun _ _ h => h.elim)).grown hgrow (fun k e => .inl e)
  have ms : Mv (fun k => k = F) w3 (w3.setCell ⟨F, f, none⟩ v') := (Mv.refl (fun k => k = F) w3).setc (p := ⟨F, f, none⟩) (.inl rfl) v'
  have c3 := fun j hj => mg.cell (nb _ hF) (h.c j hj)
  have f3 : ∀ j, j < 3 → w3.frozen? ⟨F, j, none⟩ = false := fun j hj => (mg.froz (a := ⟨F, j, none⟩) (nb _ hF) (cell_lt (h.c j hj))).trans (h.f j hj)
  have hvlt : ∀ k, v'.ownBlock = some k → B ≤ k := fun k e => (hown'.lt k e).1
  refine ⟨c3 f hf, f3 f hf, fun p hp => ms.cell hVF (mg.cell (nb _ hV) (h.z p hp)), fun j hj => ?_, fun j hj => by rw [World.frozen?_setCell]; exact f3 j hj, fun j hj => ?_, fun i j hi hj hij g hg => ?_⟩
  · by_cases e : j = f
    · subst e; rw [put_at]; exact World.cell?_setCell_same' _ _ _ (by rw [c3 j hj]; rfl)
    · rw [put_no _ _ e, World.cell?_setCell_other _ _ _ _ (fun q => e (by cases q; rfl))]; exact c3 j hj
  · by_cases e : j = f
    · subst e
      rw [put_at, put_at]
      have := own_mv hown' ms (fun g hg e => by have := hvlt g hg; omega)
      simpa [stsC_snoc] using this
    · rw [put_no _ _ e, put_no _ _ e]
      exact own_mv (own_mv (h.o j hj) mg (fun g hg q => h.d f j hf hj (fun q => e q.symm) g q hg)) ms (fun g hg q => by have := ((h.o j hj).lt g hg).1; omega)
  · have hnew : ∀ j, j < 3 → j ≠ f → ∀ g, v'.ownBlock = some g → (vs j).ownBlock ≠ some g := fun j hj e g hg q => by
      rcases hat with a | a
      · rw [a] at hg; exact h.d f j hf hj (fun q => e q.symm) g hg q
      · rw [a] at hg; cases hg
        have := ((h.o j hj).lt _ q).2
        have := m.size
        omega
    by_cases e : i = f
    · have e2 : j ≠ f := fun q => hij (e.trans q.symm)
      subst e
      rw [put_at] at hg
      rw [put_no _ _ e2]
      exact hnew j hj e2 g hg
    · rw [put_no _ _ e] at hg
      by_cases e2 : j = f
      · subst e2; rw [put_at]; exact fun q => hnew i hi e g q hg
      · rw [put_no _ _ e2]; exact h.d i j hi hj hij g hg
theorem three_put {qs : Nat → List St} {len k f : Nat} {x : St} {L : List St} (hf : k * 3 / len = f) (hf3 : f < 3) (h : (∀ j, (qs j).length ≤ k) ∧ (∀ j, (∀ i, i < k → i * 3 / len < j) → qs j = []) ∧ qs 0 ++ (qs 1 ++ qs 2) = L) :
    (∀ j, (put f (qs f ++ [x]) qs j).length ≤ k + 1) ∧ (∀ j, (∀ i, i < k + 1 → i * 3 / len < j) → put f (qs f ++ [x]) qs j = []) ∧ put f (qs f ++ [x]) qs 0 ++ (put f (qs f ++ [x]) qs 1 ++ put f (qs f ++ [x]) qs 2) = L ++ [x] := by
  obtain ⟨h1, h2, h3⟩ := h
  refine ⟨fun j => ?_, fun j hj => ?_, ?_⟩
  · unfold put
    split
    · have := h1 f; simp; omega
    · have := h1 j; omega
  · have : f < j := by rw [← hf]; exact hj k (by omega)
    rw [put_no _ _ (by omega)]
    exact h2 j (fun i hi => hj i (by omega))
  · have hn : ∀ j, f < j → qs j = [] := fun j hj => h2 j (fun i hi => by
      have : i * 3 / len ≤ k * 3 / len := Nat.div_le_div_right (by omega)
      omega)
    have : f = 0 ∨ f = 1 ∨ f = 2 := by omega
    rw [← h3]
    rcases this with rfl | rfl | rfl
    · simp [put, hn 1 (by omega), hn 2 (by omega)]
    · simp [put, hn 2 (by omega)]
    · simp [put]
def fs3 (qs : Nat → List St) (vs : Nat → Value) : List (Value × List St) := [(vs 0, qs 0), (vs 1, qs 1), (vs 2, qs 2)]
theorem FI.fs {B V F : Nat} {qs : Nat → List St} {vs : Nat → Value} {W : World} (h : FI B V F qs vs W) : FsIs (fun _ => False) W (.slice (some ⟨F, 0, none⟩) 3 3) (fs3 qs vs) := by
  refine ⟨some ⟨F, 0, none⟩, 3, rfl, fun _ => ⟨F, 0, rfl, fun h => h, fun j p hp => ?_⟩, fun p hp => ?_⟩
  · rw [Nat.zero_add]
    match j, hp with
    | 0, hp => cases hp; exact h.c 0 (by omega)
    | 1, hp => cases hp; exact h.c 1 (by omega)
    | 2, hp => cases hp; exact h.c 2 (by omega)
  · simp only [fs3, List.mem_cons, List.not_mem_nil, or_false] at hp
    rcases hp with rfl | rfl | rfl
    · exact own_slis _ (fun _ _ _ h => h) (h.o 0 (by omega))
    · exact own_slis _ (fun _ _ _ h => h) (h.o 1 (by omega))
    · exact own_slis _ (fun _ _ _ h => h) (h.o 2 (by omega))
theorem flat3 (qs : Nat → List St) (vs : Nat → Value) : flatR (bk (fs3 qs vs) (fs3 qs vs).length) = (qs 0 ++ (qs 1 ++ qs 2)).reverse := by
  simp [flatR, fs3, bk]
theorem allU_small : ∀ (l : List Nat) (i : Nat) (x : St), x ∈ allU i l → x.s.size ≤ 1 ∧ x.k.size ≤ 1 ∧ (x.s = secA 0 ∨ x.s = secA 1) ∧ (x.k = keyK 0 ∨ x.k = keyK 1)
  | [], _, _, h => by simp [allU] at h
  | u :: r, i, x, h => by
    rcases List.mem_cons.1 h with rfl | h
    · have h1 : u / 4 % 2 = 0 ∨ u / 4 % 2 = 1 := by omega
      have h2 : u / 8 % 2 = 0 ∨ u / 8 % 2 = 1 := by omega
      unfold stU
      refine ⟨?_, ?_, ?_, ?_⟩
      · rcases h1 with e | e <;> simp only [e] <;> decide
      · rcases h2 with e | e <;> simp only [e] <;> decide
      · rcases h1 with e | e <;> simp only [e]
        · exact .inl trivial
        · exact .inr trivial
      · rcases h2 with e | e <;> simp only [e]
        · exact .inl trivial
        · exact .inr trivial
    · exact allU_small r (i + 1) x h
theorem stepR_mem (P : St → Prop) : ∀ (l out : List St), (∀ x ∈ l, P x) → (∀ x ∈ out, P x) → ∀ x ∈ l.foldl stepR out, P x
  | [], _, _, h => h
  | x :: r, out, h1, h2 => by
    rw [List.foldl_cons]
    refine stepR_mem P r _ (fun y hy => h1 y (List.mem_cons_of_mem _ hy)) (fun y hy => ?_)
    unfold stepR at hy
    split at hy
    · exact h2 y ((List.mem_filter.1 hy).1)
    · rcases List.mem_append.1 hy with hy | hy
      · exact h2 y hy
      · simp at hy; subst hy; exact h1 _ List.mem_cons_self
theorem stepR_len : ∀ (l out : List St), (l.foldl stepR out).length ≤ out.length + l.length
  | [], _ => by simp
  | x :: r, out => by
    rw [List.foldl_cons]
    have h1 := stepR_len r (stepR out x)
    have h2 : (stepR out x).length ≤ out.length + 1 := by
      unfold stepR
      split
      · have := List.length_filter_le (fun y => !decide (y.s = x.s ∧ y.k = x.k)) out; omega
      · simp
    simp only [List.length_cons]; omega
def cnt (M : List St) (s k : Nat) : Nat := (vals (secA s) (keyK k) M).length
def cols (M : List St) (s : Nat) : Nat → Nat
  | 0 => 0
  | k + 1 => cols M s k + cnt M s k
def rows (M : List St) : Nat → Nat
  | 0 => 0
  | s + 1 => rows M s + cols M s 2
theorem cnt_le (M : List St) (s k : Nat) : cnt M s k ≤ M.length := by
  unfold cnt vals; rw [List.length_map]; exact List.length_filter_le _ _
theorem rows_all : ∀ (M : List St), (∀ x ∈ M, (x.s = secA 0 ∨ x.s = secA 1) ∧ (x.k = keyK 0 ∨ x.k = keyK 1)) → rows M 2 = M.length
  | [], _ => rfl
  | x :: r, h => by
    have ih := rows_all r (fun y hy => h y (List.mem_cons_of_mem _ hy))
    have hx := h x List.mem_cons_self
    have e1 : secA 0 ≠ secA 1 := by decide
    have e2 : keyK 0 ≠ keyK 1 := by decide
    have hc : ∀ s k, cnt (x :: r) s k = cnt r s k + if x.s = secA s ∧ x.k = keyK k then 1 else 0 := fun s k => by
      unfold cnt vals
      by_cases h : x.s = secA s ∧ x.k = keyK k
      · rw [List.filter_cons, if_pos (by simpa using h), if_pos h]; simp
      · rw [List.filter_cons, if_neg (by simpa using h), if_neg h]; simp
    simp only [rows, cols] at ih ⊢
    simp only [hc, List.length_cons]
    rcases hx with ⟨a | a, b | b⟩ <;> rw [a, b] <;> simp only [e1, e2, e1.symm, e2.symm, and_true, and_false, and_self, if_true, if_false] <;> omega
end Go.Proofs.YtiinhfbfciccnaaDoor
