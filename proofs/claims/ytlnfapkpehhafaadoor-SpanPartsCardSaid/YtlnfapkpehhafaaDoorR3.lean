/- The contract of the reference's Print. -/
import Derived.Test.YtlnfapkpehhafaaDoorR2
namespace Go.Proofs.YtlnfapkpehhafaaDoor
open Go.RowKit
attribute [local go_sem ↓] Go.wp_at_zero Go.wp_at_succ
theorem digits_int (x : Int) (w : World) (h0 : 0 ≤ x) (h1 : x ≤ 9223372036854775807) :
    Calls Tryd.prog 20 #[.int .i64 x] w fun e w' => e = .returned (.string ⟨(Lib.itoa x).toArray⟩) ∧ Below w.heap.size w w' := by
  obtain ⟨n, rfl⟩ := Int.eq_ofNat_of_zero_le h0
  have h := digits_any n w (by omega)
  rwa [show Lib.decDigits n = Lib.itoa (n : Int) by unfold Lib.itoa; rw [if_neg (by omega)]; rfl] at h
def nameCells : List Value := [.string ⟨#[119]⟩, .string ⟨#[100]⟩, .string ⟨#[104]⟩, .string ⟨#[109, 105, 110]⟩, .string ⟨#[115]⟩]
def secCells : List Value := [.int .i64 604800, .int .i64 86400, .int .i64 3600, .int .i64 60, .int .i64 1]
structure ArrIn (w W : World) : Prop where
  nm : ∀ (j : Nat) v, nameCells[j]? = some v → W.cell? ⟨w.heap.size, j, none⟩ = some v
  sc : ∀ (j : Nat) v, secCells[j]? = some v → W.cell? ⟨w.heap.size + 1, j, none⟩ = some v
  bl : Below w.heap.size w W
  sz : w.heap.size + 2 ≤ W.heap.size
theorem arr_new (w : World) : ArrIn w ((w.alloc (.cells #[.string ⟨#[119]⟩, .string ⟨#[100]⟩, .string ⟨#[104]⟩, .string ⟨#[109, 105, 110]⟩, .string ⟨#[115]⟩] 53)).alloc (.cells #[.int .i64 604800, .int .i64 86400, .int .i64 3600, .int .i64 60, .int .i64 1] 54)) := by
  refine ⟨fun j v hv => ?_, fun j v hv => ?_, ((Below.refl _ w).alloc (Nat.le_refl _) _).alloc (by simp) _, by simp⟩
  · rw [Below.cell (B := w.heap.size + 1) ((Below.refl _ _).alloc (by simp) _) (p := ⟨w.heap.size, j, none⟩) (by simp)]
    simpa [nameCells] using hv
  · simpa [secCells] using hv
theorem ArrIn.below {w W W' : World} (h : ArrIn w W) (hb : Below W.heap.size W W') : ArrIn w W' :=
  ⟨fun j v hv => (hb.cell (p := ⟨w.heap.size, j, none⟩) (by have := h.sz; simp; omega)).trans (h.nm j v hv),
   fun j v hv => (hb.cell (p := ⟨w.heap.size + 1, j, none⟩) (by have := h.sz; simp; omega)).trans (h.sc j v hv),
   h.bl.trans (hb.mono h.bl.size), Nat.le_trans h.sz hb.size⟩
theorem join_snoc (L : List (List UInt8)) (x : List UInt8) (h : L ≠ []) : Lib.join (L ++ [x]) [32] = Lib.join L [32] ++ [32] ++ x := by
  induction L with
  | nil => exact absurd rfl h
  | cons a t ih =>
    cases t with
    | nil => simp [Lib.join, List.intercalate]
    | cons b t =>
      have e : ∀ r : List (List UInt8), Lib.join (a :: b :: r) [32] = a ++ [32] ++ Lib.join (b :: r) [32] := fun r => by simp [Lib.join, List.intercalate]
      rw [List.cons_append, List.cons_append, e, e, ← List.cons_append, ih (by simp)]
      simp [List.append_assoc]
/-- What has been written: the parts so far, joined. -/
def TextAt (n : Int) (S : List UInt8) (T : List (List UInt8 × Int)) (m : Int) : Prop := ∃ L : List (List UInt8), PartsAt n L T m ∧ S = Lib.join L [32] ∧ (∀ x ∈ L, x ≠ []) ∧ L.length + T.length ≤ 5
theorem text_empty {n m : Int} {S : List UInt8} {T : List (List UInt8 × Int)} (h : TextAt n S T m) (hS : S = []) : ∃ L : List (List UInt8), L = [] ∧ PartsAt n L T m ∧ T.length ≤ 5 := by
  obtain ⟨L, h1, h2, h3, h4⟩ := h
  cases L with
  | nil => exact ⟨[], rfl, h1, by simpa using h4⟩
  | cons a t =>
    have ha := h3 a (by simp)
    rw [hS, Lib.join_cons] at h2
    exact absurd (List.append_eq_nil_iff.1 h2.symm).1 ha
theorem text_len {n m : Int} {S : List UInt8} {T : List (List UInt8 × Int)} (h : TextAt n S T m) : S.length ≤ 155 := by
  obtain ⟨L, h1, h2, h3, h4⟩ := h
  have := lens_le L h1.1
  rw [h2]; omega
theorem text_no {n m k : Int} {S : List UInt8} {u : List UInt8} {r : List (List UInt8 × Int)} (h : TextAt n S ((u, k) :: r) m) (hc : ¬ 0 < m / k) : TextAt n S r (m % k) := by
  obtain ⟨L, h1, h2, h3, h4⟩ := h
  exact ⟨L, parts_no h1 hc, h2, h3, by simp only [List.length_cons] at h4; omega⟩
theorem text_first {n m k : Int} {u : List UInt8} {r : List (List UInt8 × Int)} (h : TextAt n [] ((u, k) :: r) m) (hc : 0 < m / k) (hl : (Lib.itoa (m / k)).length ≤ 21) (hu : u.length ≤ 3) (hu0 : u ≠ []) : TextAt n (Lib.itoa (m / k) ++ u) r (m % k) := by
  obtain ⟨L, rfl, h1, h4⟩ := text_empty h rfl
  refine ⟨[] ++ [Lib.itoa (m / k) ++ u], parts_yes h1 hc hl hu, ?_, ?_, ?_⟩
  · simp [Lib.join, List.intercalate]
  · intro x hx; simp only [List.nil_append, List.mem_singleton] at hx; subst hx; simp [hu0]
  · simp only [List.length_cons] at h4; simp; omega
theorem text_next {n m k : Int} {S : List UInt8} {u : List UInt8} {r : List (List UInt8 × Int)} (h : TextAt n S ((u, k) :: r) m) (hS : S ≠ []) (hc : 0 < m / k) (hl : (Lib.itoa (m / k)).length ≤ 21) (hu : u.length ≤ 3) (hu0 : u ≠ []) : TextAt n (S ++ [32] ++ (Lib.itoa (m / k) ++ u)) r (m % k) := by
  obtain ⟨L, h1, h2, h3, h4⟩ := h
  have hL : L ≠ [] := by
    intro e; rw [e] at h2; exact hS h2
  refine ⟨L ++ [Lib.itoa (m / k) ++ u], parts_yes h1 hc hl hu, ?_, ?_, ?_⟩
  · rw [join_snoc L _ hL, h2]
  · intro x hx
    rw [List.mem_append, List.mem_singleton] at hx
    rcases hx with hx | rfl
    · exact h3 x hx
    · simp [hu0]
  · simp only [List.length_cons] at h4; simp; omega
theorem text_no1 {n m : Int} {S : List UInt8} {u : List UInt8} {r : List (List UInt8 × Int)} (h : TextAt n S ((u, 1) :: r) m) (hc : ¬ 0 < m) : TextAt n S r 0 := by
  have := text_no h (by rw [Int.ediv_one]; exact hc)
  rwa [Int.emod_one] at this
theorem text_first1 {n m : Int} {u : List UInt8} {r : List (List UInt8 × Int)} (h : TextAt n [] ((u, 1) :: r) m) (hc : 0 < m) (hl : (Lib.itoa m).length ≤ 21) (hu : u.length ≤ 3) (hu0 : u ≠ []) : TextAt n (Lib.itoa m ++ u) r 0 := by
  have := text_first h (by rw [Int.ediv_one]; exact hc) (by rw [Int.ediv_one]; exact hl) hu hu0
  rwa [Int.ediv_one, Int.emod_one] at this
theorem text_next1 {n m : Int} {S : List UInt8} {u : List UInt8} {r : List (List UInt8 × Int)} (h : TextAt n S ((u, 1) :: r) m) (hS : S ≠ []) (hc : 0 < m) (hl : (Lib.itoa m).length ≤ 21) (hu : u.length ≤ 3) (hu0 : u ≠ []) : TextAt n (S ++ [32] ++ (Lib.itoa m ++ u)) r 0 := by
  have := text_next h hS (by rw [Int.ediv_one]; exact hc) (by rw [Int.ediv_one]; exact hl) hu hu0
  rwa [Int.ediv_one, Int.emod_one] at this
set_option maxRecDepth 100000 in
set_option maxHeartbeats 2000000 in
theorem rPrintP_any (n : Int) (w : World) (h0 : 0 ≤ n) (h1 : n ≤ 9223372036854775807) :
    Calls Tryd.prog 15 #[.int .i64 n] w fun e w' => e = .returned (.string ⟨(Sp.printP n).toArray⟩) ∧ Below w.heap.size w w' := by
  by_cases ht : n = 9223372036854775807
  · subst ht
    go_enter Tryd.func15, Tryd.ntmps15
    go_wp2_with fail
    go_ret
    exact ⟨rfl, Below.refl _ _⟩
  by_cases hz : n = 0
  · subst hz
    go_enter Tryd.func15, Tryd.ntmps15
    go_wp2_with fail
    go_ret
    exact ⟨rfl, Below.refl _ _⟩
  have hp : Hid (Sp.printP n = Lib.join (Sp.partsOf Sp.writT n) [32]) := by
    show _ = _; unfold Sp.printP Sp.top; rw [if_neg ht, if_neg hz]
  have b1 : (n == 9223372036854775807) = false := by simpa using ht
  have b2 : (n == -9223372036854775808) = false := by simp; omega
  have b3 : (n == 0) = false := by simpa using hz
  clear ht hz
  go_enter Tryd.func15, Tryd.ntmps15
  go_wp2_with fail
  have hA := arr_new w
  clear b1 b2 b3
  generalize (w.alloc (.cells #[.string ⟨#[119]⟩, .string ⟨#[100]⟩, .string ⟨#[104]⟩, .string ⟨#[109, 105, 110]⟩, .string ⟨#[115]⟩] 53)).alloc (.cells #[.int .i64 604800, .int .i64 86400, .int .i64 3600, .int .i64 60, .int .i64 1] 54) = W2 at hA ⊢
  go_loopw [0, 5, 6] (fun nn ss ix wr => ∃ (k : Nat) (m : Int) (S : List UInt8), ix = .int .i64 k ∧ k ≤ 5 ∧ nn = .int .i64 m ∧ 0 ≤ m ∧ m ≤ 9223372036854775807 ∧ ss = .string ⟨S.toArray⟩ ∧ ArrIn w wr ∧ TextAt n S (Sp.writT.drop k) m) (fun _ _ ix _ => 5 - (intOf ix).toNat)
  case atStart => exact ⟨0, n, [], rfl, by omega, rfl, h0, h1, rfl, hA, [], ⟨by simp, rfl⟩, rfl, by simp, by simp [Sp.writT]⟩
  case round =>
    obtain ⟨k, m, S, rfl, hk, rfl, hm0, hm1, rfl, hA2, hh⟩ := hrel
    have hsz := hA2.sz
    have hSl := text_len hh
    have hk2 : k = 0 ∨ k = 1 ∨ k = 2 ∨ k = 3 ∨ k = 4 ∨ k = 5 := by omega
    clear hk hA
    rcases hk2 with rfl | rfl | rfl | rfl | rfl | rfl
    · have cn := hA2.nm 0 _ rfl
      have cs := hA2.sc 0 _ rfl
      by_cases hc : 0 < m / 604800
      · have hil : (Lib.itoa (m / 604800)).length ≤ 21 := Lib.itoa_length_le _ (by omega) (by omega)
        cases S with
        | nil =>
          have hadd1 : ∀ W, (Op.stringOp .add ⟨#[]⟩ ⟨(Lib.itoa (m / 604800)).toArray⟩).run Tryd.prog W = .ok (.string ⟨(Lib.itoa (m / 604800)).toArray⟩) W := fun W => run_string_add_lists W [] _ (by simp) (by omega)
          have hadd2 : ∀ W, (Op.stringOp .add ⟨(Lib.itoa (m / 604800)).toArray⟩ ⟨#[119]⟩).run Tryd.prog W = .ok (.string ⟨(Lib.itoa (m / 604800) ++ [119]).toArray⟩) W := fun W => run_string_add_lists W _ _ (by omega) (by simp)
          go_wp2_with fail
          go_region_held3 (fun w' => w'.cell? ⟨w.heap.size, 0, none⟩ = some (.string ⟨#[119]⟩))
            (first | go_keep | (rw [hb2.cell (by simp; omega)]; first | assumption | simpa using cn))
            (first | (go_at_call 20; refine (digits_int _ _ (by omega) (by omega)).mono ?_; rintro e w2 ⟨rfl, hb2⟩))
          clear hadd1 hadd2
          have hA3 : ArrIn w w2 := hA2.below ((Below.refl _ wr).drew.trans hb2)
          go_wp2_with fail
          exact ⟨⟨1, m % 604800, Lib.itoa (m / 604800) ++ [119], rfl, by omega, rfl, by omega, by omega, rfl, hA3, text_first (r := Sp.writT.drop 1) hh hc hil (by simp) (by simp)⟩, by simp [intOf]⟩
        | cons c t =>
          have hE : (c :: t).isEmpty = false := rfl
          have hS2 : Hid (c :: t ≠ []) := by show _ ≠ _; simp
          generalize c :: t = S at hE hS2 hh hSl ⊢
          have hadd0 : ∀ W, (Op.stringOp .add ⟨S.toArray⟩ ⟨#[32]⟩).run Tryd.prog W = .ok (.string ⟨(S ++ [32]).toArray⟩) W := fun W => run_string_add_lists W _ _ (by omega) (by simp)
          go_wp2_with fail
          clear hadd0
          generalize hS1 : S ++ [32] = S1
          have HS1 : Hid (S ++ [32] = S1) := hS1
          have hS1l : S1.length ≤ 156 := by rw [← hS1]; simp; omega
          clear hS1
          have hadd1 : ∀ W, (Op.stringOp .add ⟨S1.toArray⟩ ⟨(Lib.itoa (m / 604800)).toArray⟩).run Tryd.prog W = .ok (.string ⟨(S1 ++ Lib.itoa (m / 604800)).toArray⟩) W := fun W => run_string_add_lists W _ _ (by omega) (by omega)
          have hadd2 : ∀ W, (Op.stringOp .add ⟨(S1 ++ Lib.itoa (m / 604800)).toArray⟩ ⟨#[119]⟩).run Tryd.prog W = .ok (.string ⟨(S1 ++ (Lib.itoa (m / 604800) ++ [119])).toArray⟩) W := fun W => by
            rw [← List.append_assoc]; exact run_string_add_lists W _ _ (by rw [List.length_append]; omega) (by simp)
          go_region_held3 (fun w' => w'.cell? ⟨w.heap.size, 0, none⟩ = some (.string ⟨#[119]⟩))
            (first | go_keep | (rw [hb2.cell (by simp; omega)]; first | assumption | simpa using cn))
            (first | (go_at_call 20; refine (digits_int _ _ (by omega) (by omega)).mono ?_; rintro e w2 ⟨rfl, hb2⟩))
          clear hadd1 hadd2
          have hA3 : ArrIn w w2 := hA2.below ((Below.refl _ wr).drew.trans hb2)
          go_wp2_with fail
          exact ⟨⟨1, m % 604800, S1 ++ (Lib.itoa (m / 604800) ++ [119]), rfl, by omega, rfl, by omega, by omega, rfl, hA3, by rw [← HS1.out]; exact text_next (r := Sp.writT.drop 1) hh hS2.out hc hil (by simp) (by simp)⟩, by simp [intOf]⟩
      · go_wp2_with fail
        exact ⟨⟨1, m % 604800, S, rfl, by omega, rfl, by omega, by omega, rfl, hA2, text_no (r := Sp.writT.drop 1) hh hc⟩, by simp [intOf]⟩
    · have cn := hA2.nm 1 _ rfl
      have cs := hA2.sc 1 _ rfl
      by_cases hc : 0 < m / 86400
      · have hil : (Lib.itoa (m / 86400)).length ≤ 21 := Lib.itoa_length_le _ (by omega) (by omega)
        cases S with
        | nil =>
          have hadd1 : ∀ W, (Op.stringOp .add ⟨#[]⟩ ⟨(Lib.itoa (m / 86400)).toArray⟩).run Tryd.prog W = .ok (.string ⟨(Lib.itoa (m / 86400)).toArray⟩) W := fun W => run_string_add_lists W [] _ (by simp) (by omega)
          have hadd2 : ∀ W, (Op.stringOp .add ⟨(Lib.itoa (m / 86400)).toArray⟩ ⟨#[100]⟩).run Tryd.prog W = .ok (.string ⟨(Lib.itoa (m / 86400) ++ [100]).toArray⟩) W := fun W => run_string_add_lists W _ _ (by omega) (by simp)
          go_wp2_with fail
          go_region_held3 (fun w' => w'.cell? ⟨w.heap.size, 1, none⟩ = some (.string ⟨#[100]⟩))
            (first | go_keep | (rw [hb2.cell (by simp; omega)]; first | assumption | simpa using cn))
            (first | (go_at_call 20; refine (digits_int _ _ (by omega) (by omega)).mono ?_; rintro e w2 ⟨rfl, hb2⟩))
          clear hadd1 hadd2
          have hA3 : ArrIn w w2 := hA2.below ((Below.refl _ wr).drew.trans hb2)
          go_wp2_with fail
          exact ⟨⟨2, m % 86400, Lib.itoa (m / 86400) ++ [100], rfl, by omega, rfl, by omega, by omega, rfl, hA3, text_first (r := Sp.writT.drop 2) hh hc hil (by simp) (by simp)⟩, by simp [intOf]⟩
        | cons c t =>
          have hE : (c :: t).isEmpty = false := rfl
          have hS2 : Hid (c :: t ≠ []) := by show _ ≠ _; simp
          generalize c :: t = S at hE hS2 hh hSl ⊢
          have hadd0 : ∀ W, (Op.stringOp .add ⟨S.toArray⟩ ⟨#[32]⟩).run Tryd.prog W = .ok (.string ⟨(S ++ [32]).toArray⟩) W := fun W => run_string_add_lists W _ _ (by omega) (by simp)
          go_wp2_with fail
          clear hadd0
          generalize hS1 : S ++ [32] = S1
          have HS1 : Hid (S ++ [32] = S1) := hS1
          have hS1l : S1.length ≤ 156 := by rw [← hS1]; simp; omega
          clear hS1
          have hadd1 : ∀ W, (Op.stringOp .add ⟨S1.toArray⟩ ⟨(Lib.itoa (m / 86400)).toArray⟩).run Tryd.prog W = .ok (.string ⟨(S1 ++ Lib.itoa (m / 86400)).toArray⟩) W := fun W => run_string_add_lists W _ _ (by omega) (by omega)
          have hadd2 : ∀ W, (Op.stringOp .add ⟨(S1 ++ Lib.itoa (m / 86400)).toArray⟩ ⟨#[100]⟩).run Tryd.prog W = .ok (.string ⟨(S1 ++ (Lib.itoa (m / 86400) ++ [100])).toArray⟩) W := fun W => by
            rw [← List.append_assoc]; exact run_string_add_lists W _ _ (by rw [List.length_append]; omega) (by simp)
          go_region_held3 (fun w' => w'.cell? ⟨w.heap.size, 1, none⟩ = some (.string ⟨#[100]⟩))
            (first | go_keep | (rw [hb2.cell (by simp; omega)]; first | assumption | simpa using cn))
            (first | (go_at_call 20; refine (digits_int _ _ (by omega) (by omega)).mono ?_; rintro e w2 ⟨rfl, hb2⟩))
          clear hadd1 hadd2
          have hA3 : ArrIn w w2 := hA2.below ((Below.refl _ wr).drew.trans hb2)
          go_wp2_with fail
          exact ⟨⟨2, m % 86400, S1 ++ (Lib.itoa (m / 86400) ++ [100]), rfl, by omega, rfl, by omega, by omega, rfl, hA3, by rw [← HS1.out]; exact text_next (r := Sp.writT.drop 2) hh hS2.out hc hil (by simp) (by simp)⟩, by simp [intOf]⟩
      · go_wp2_with fail
        exact ⟨⟨2, m % 86400, S, rfl, by omega, rfl, by omega, by omega, rfl, hA2, text_no (r := Sp.writT.drop 2) hh hc⟩, by simp [intOf]⟩
    · have cn := hA2.nm 2 _ rfl
      have cs := hA2.sc 2 _ rfl
      by_cases hc : 0 < m / 3600
      · have hil : (Lib.itoa (m / 3600)).length ≤ 21 := Lib.itoa_length_le _ (by omega) (by omega)
        cases S with
        | nil =>
          have hadd1 : ∀ W, (Op.stringOp .add ⟨#[]⟩ ⟨(Lib.itoa (m / 3600)).toArray⟩).run Tryd.prog W = .ok (.string ⟨(Lib.itoa (m / 3600)).toArray⟩) W := fun W => run_string_add_lists W [] _ (by simp) (by omega)
          have hadd2 : ∀ W, (Op.stringOp .add ⟨(Lib.itoa (m / 3600)).toArray⟩ ⟨#[104]⟩).run Tryd.prog W = .ok (.string ⟨(Lib.itoa (m / 3600) ++ [104]).toArray⟩) W := fun W => run_string_add_lists W _ _ (by omega) (by simp)
          go_wp2_with fail
          go_region_held3 (fun w' => w'.cell? ⟨w.heap.size, 2, none⟩ = some (.string ⟨#[104]⟩))
            (first | go_keep | (rw [hb2.cell (by simp; omega)]; first | assumption | simpa using cn))
            (first | (go_at_call 20; refine (digits_int _ _ (by omega) (by omega)).mono ?_; rintro e w2 ⟨rfl, hb2⟩))
          clear hadd1 hadd2
          have hA3 : ArrIn w w2 := hA2.below ((Below.refl _ wr).drew.trans hb2)
          go_wp2_with fail
          exact ⟨⟨3, m % 3600, Lib.itoa (m / 3600) ++ [104], rfl, by omega, rfl, by omega, by omega, rfl, hA3, text_first (r := Sp.writT.drop 3) hh hc hil (by simp) (by simp)⟩, by simp [intOf]⟩
        | cons c t =>
          have hE : (c :: t).isEmpty = false := rfl
          have hS2 : Hid (c :: t ≠ []) := by show _ ≠ _; simp
          generalize c :: t = S at hE hS2 hh hSl ⊢
          have hadd0 : ∀ W, (Op.stringOp .add ⟨S.toArray⟩ ⟨#[32]⟩).run Tryd.prog W = .ok (.string ⟨(S ++ [32]).toArray⟩) W := fun W => run_string_add_lists W _ _ (by omega) (by simp)
          go_wp2_with fail
          clear hadd0
          generalize hS1 : S ++ [32] = S1
          have HS1 : Hid (S ++ [32] = S1) := hS1
          have hS1l : S1.length ≤ 156 := by rw [← hS1]; simp; omega
          clear hS1
          have hadd1 : ∀ W, (Op.stringOp .add ⟨S1.toArray⟩ ⟨(Lib.itoa (m / 3600)).toArray⟩).run Tryd.prog W = .ok (.string ⟨(S1 ++ Lib.itoa (m / 3600)).toArray⟩) W := fun W => run_string_add_lists W _ _ (by omega) (by omega)
          have hadd2 : ∀ W, (Op.stringOp .add ⟨(S1 ++ Lib.itoa (m / 3600)).toArray⟩ ⟨#[104]⟩).run Tryd.prog W = .ok (.string ⟨(S1 ++ (Lib.itoa (m / 3600) ++ [104])).toArray⟩) W := fun W => by
            rw [← List.append_assoc]; exact run_string_add_lists W _ _ (by rw [List.length_append]; omega) (by simp)
          go_region_held3 (fun w' => w'.cell? ⟨w.heap.size, 2, none⟩ = some (.string ⟨#[104]⟩))
            (first | go_keep | (rw [hb2.cell (by simp; omega)]; first | assumption | simpa using cn))
            (first | (go_at_call 20; refine (digits_int _ _ (by omega) (by omega)).mono ?_; rintro e w2 ⟨rfl, hb2⟩))
          clear hadd1 hadd2
          have hA3 : ArrIn w w2 := hA2.below ((Below.refl _ wr).drew.trans hb2)
          go_wp2_with fail
          exact ⟨⟨3, m % 3600, S1 ++ (Lib.itoa (m / 3600) ++ [104]), rfl, by omega, rfl, by omega, by omega, rfl, hA3, by rw [← HS1.out]; exact text_next (r := Sp.writT.drop 3) hh hS2.out hc hil (by simp) (by simp)⟩, by simp [intOf]⟩
      · go_wp2_with fail
        exact ⟨⟨3, m % 3600, S, rfl, by omega, rfl, by omega, by omega, rfl, hA2, text_no (r := Sp.writT.drop 3) hh hc⟩, by simp [intOf]⟩
    · have cn := hA2.nm 3 _ rfl
      have cs := hA2.sc 3 _ rfl
      by_cases hc : 0 < m / 60
      · have hil : (Lib.itoa (m / 60)).length ≤ 21 := Lib.itoa_length_le _ (by omega) (by omega)
        cases S with
        | nil =>
          have hadd1 : ∀ W, (Op.stringOp .add ⟨#[]⟩ ⟨(Lib.itoa (m / 60)).toArray⟩).run Tryd.prog W = .ok (.string ⟨(Lib.itoa (m / 60)).toArray⟩) W := fun W => run_string_add_lists W [] _ (by simp) (by omega)
          have hadd2 : ∀ W, (Op.stringOp .add ⟨(Lib.itoa (m / 60)).toArray⟩ ⟨#[109, 105, 110]⟩).run Tryd.prog W = .ok (.string ⟨(Lib.itoa (m / 60) ++ [109, 105, 110]).toArray⟩) W := fun W => run_string_add_lists W _ _ (by omega) (by simp)
          go_wp2_with fail
          go_region_held3 (fun w' => w'.cell? ⟨w.heap.size, 3, none⟩ = some (.string ⟨#[109, 105, 110]⟩))
            (first | go_keep | (rw [hb2.cell (by simp; omega)]; first | assumption | simpa using cn))
            (first | (go_at_call 20; refine (digits_int _ _ (by omega) (by omega)).mono ?_; rintro e w2 ⟨rfl, hb2⟩))
          clear hadd1 hadd2
          have hA3 : ArrIn w w2 := hA2.below ((Below.refl _ wr).drew.trans hb2)
          go_wp2_with fail
          exact ⟨⟨4, m % 60, Lib.itoa (m / 60) ++ [109, 105, 110], rfl, by omega, rfl, by omega, by omega, rfl, hA3, text_first (r := Sp.writT.drop 4) hh hc hil (by simp) (by simp)⟩, by simp [intOf]⟩
        | cons c t =>
          have hE : (c :: t).isEmpty = false := rfl
          have hS2 : Hid (c :: t ≠ []) := by show _ ≠ _; simp
          generalize c :: t = S at hE hS2 hh hSl ⊢
          have hadd0 : ∀ W, (Op.stringOp .add ⟨S.toArray⟩ ⟨#[32]⟩).run Tryd.prog W = .ok (.string ⟨(S ++ [32]).toArray⟩) W := fun W => run_string_add_lists W _ _ (by omega) (by simp)
          go_wp2_with fail
          clear hadd0
          generalize hS1 : S ++ [32] = S1
          have HS1 : Hid (S ++ [32] = S1) := hS1
          have hS1l : S1.length ≤ 156 := by rw [← hS1]; simp; omega
          clear hS1
          have hadd1 : ∀ W, (Op.stringOp .add ⟨S1.toArray⟩ ⟨(Lib.itoa (m / 60)).toArray⟩).run Tryd.prog W = .ok (.string ⟨(S1 ++ Lib.itoa (m / 60)).toArray⟩) W := fun W => run_string_add_lists W _ _ (by omega) (by omega)
          have hadd2 : ∀ W, (Op.stringOp .add ⟨(S1 ++ Lib.itoa (m / 60)).toArray⟩ ⟨#[109, 105, 110]⟩).run Tryd.prog W = .ok (.string ⟨(S1 ++ (Lib.itoa (m / 60) ++ [109, 105, 110])).toArray⟩) W := fun W => by
            rw [← List.append_assoc]; exact run_string_add_lists W _ _ (by rw [List.length_append]; omega) (by simp)
          go_region_held3 (fun w' => w'.cell? ⟨w.heap.size, 3, none⟩ = some (.string ⟨#[109, 105, 110]⟩))
            (first | go_keep | (rw [hb2.cell (by simp; omega)]; first | assumption | simpa using cn))
            (first | (go_at_call 20; refine (digits_int _ _ (by omega) (by omega)).mono ?_; rintro e w2 ⟨rfl, hb2⟩))
          clear hadd1 hadd2
          have hA3 : ArrIn w w2 := hA2.below ((Below.refl _ wr).drew.trans hb2)
          go_wp2_with fail
          exact ⟨⟨4, m % 60, S1 ++ (Lib.itoa (m / 60) ++ [109, 105, 110]), rfl, by omega, rfl, by omega, by omega, rfl, hA3, by rw [← HS1.out]; exact text_next (r := Sp.writT.drop 4) hh hS2.out hc hil (by simp) (by simp)⟩, by simp [intOf]⟩
      · go_wp2_with fail
        exact ⟨⟨4, m % 60, S, rfl, by omega, rfl, by omega, by omega, rfl, hA2, text_no (r := Sp.writT.drop 4) hh hc⟩, by simp [intOf]⟩
    · have cn := hA2.nm 4 _ rfl
      have cs := hA2.sc 4 _ rfl
      by_cases hc : 0 < m
      · have hil : (Lib.itoa (m)).length ≤ 21 := Lib.itoa_length_le _ (by omega) (by omega)
        cases S with
        | nil =>
          have hadd1 : ∀ W, (Op.stringOp .add ⟨#[]⟩ ⟨(Lib.itoa (m)).toArray⟩).run Tryd.prog W = .ok (.string ⟨(Lib.itoa (m)).toArray⟩) W := fun W => run_string_add_lists W [] _ (by simp) (by omega)
          have hadd2 : ∀ W, (Op.stringOp .add ⟨(Lib.itoa (m)).toArray⟩ ⟨#[115]⟩).run Tryd.prog W = .ok (.string ⟨(Lib.itoa (m) ++ [115]).toArray⟩) W := fun W => run_string_add_lists W _ _ (by omega) (by simp)
          go_wp2_with fail
          go_region_held3 (fun w' => w'.cell? ⟨w.heap.size, 4, none⟩ = some (.string ⟨#[115]⟩))
            (first | go_keep | (rw [hb2.cell (by simp; omega)]; first | assumption | simpa using cn))
            (first | (go_at_call 20; refine (digits_int _ _ (by omega) (by omega)).mono ?_; rintro e w2 ⟨rfl, hb2⟩))
          clear hadd1 hadd2
          have hA3 : ArrIn w w2 := hA2.below ((Below.refl _ wr).drew.trans hb2)
          go_wp2_with fail
          exact ⟨⟨5, 0, Lib.itoa (m) ++ [115], rfl, by omega, rfl, by omega, by omega, rfl, hA3, text_first1 (r := Sp.writT.drop 5) hh hc hil (by simp) (by simp)⟩, by simp [intOf]⟩
        | cons c t =>
          have hE : (c :: t).isEmpty = false := rfl
          have hS2 : Hid (c :: t ≠ []) := by show _ ≠ _; simp
          generalize c :: t = S at hE hS2 hh hSl ⊢
          have hadd0 : ∀ W, (Op.stringOp .add ⟨S.toArray⟩ ⟨#[32]⟩).run Tryd.prog W = .ok (.string ⟨(S ++ [32]).toArray⟩) W := fun W => run_string_add_lists W _ _ (by omega) (by simp)
          go_wp2_with fail
          clear hadd0
          generalize hS1 : S ++ [32] = S1
          have HS1 : Hid (S ++ [32] = S1) := hS1
          have hS1l : S1.length ≤ 156 := by rw [← hS1]; simp; omega
          clear hS1
          have hadd1 : ∀ W, (Op.stringOp .add ⟨S1.toArray⟩ ⟨(Lib.itoa (m)).toArray⟩).run Tryd.prog W = .ok (.string ⟨(S1 ++ Lib.itoa (m)).toArray⟩) W := fun W => run_string_add_lists W _ _ (by omega) (by omega)
          have hadd2 : ∀ W, (Op.stringOp .add ⟨(S1 ++ Lib.itoa (m)).toArray⟩ ⟨#[115]⟩).run Tryd.prog W = .ok (.string ⟨(S1 ++ (Lib.itoa (m) ++ [115])).toArray⟩) W := fun W => by
            rw [← List.append_assoc]; exact run_string_add_lists W _ _ (by rw [List.length_append]; omega) (by simp)
          go_region_held3 (fun w' => w'.cell? ⟨w.heap.size, 4, none⟩ = some (.string ⟨#[115]⟩))
            (first | go_keep | (rw [hb2.cell (by simp; omega)]; first | assumption | simpa using cn))
            (first | (go_at_call 20; refine (digits_int _ _ (by omega) (by omega)).mono ?_; rintro e w2 ⟨rfl, hb2⟩))
          clear hadd1 hadd2
          have hA3 : ArrIn w w2 := hA2.below ((Below.refl _ wr).drew.trans hb2)
          go_wp2_with fail
          exact ⟨⟨5, 0, S1 ++ (Lib.itoa (m) ++ [115]), rfl, by omega, rfl, by omega, by omega, rfl, hA3, by rw [← HS1.out]; exact text_next1 (r := Sp.writT.drop 5) hh hS2.out hc hil (by simp) (by simp)⟩, by simp [intOf]⟩
      · go_wp2_with fail
        exact ⟨⟨5, 0, S, rfl, by omega, rfl, by omega, by omega, rfl, hA2, text_no1 (r := Sp.writT.drop 5) hh hc⟩, by simp [intOf]⟩
    · go_wp2_with fail
      go_ret
      obtain ⟨L, hL1, hL2, _, _⟩ := hh
      refine ⟨?_, hA2.bl⟩
      rw [hp.out, hL1.2, hL2]
      simp [Sp.partsOf, Sp.writT]
end Go.Proofs.YtlnfapkpehhafaaDoor
