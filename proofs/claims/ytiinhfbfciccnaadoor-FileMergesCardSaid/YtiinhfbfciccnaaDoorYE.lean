import Derived.Test.YtiinhfbfciccnaaDoorYB
import Derived.Test.YtiinhfbfciccnaaDoorYC
import Derived.Laws.BytesString
import Derived.Lib.BufferRead
import Derived.Deep.RegionWith
import Derived.Sort.Walk0
import Derived.Test.YtiinhfbfciccnaaDoorYD
/- Contracts of the reference's Blank and Quote; rows that are owned, beside one another. -/
namespace Go.Proofs.YtiinhfbfciccnaaDoor
open Go.RowKit Lin
set_option maxHeartbeats 1000000 in
theorem blank_any (c : UInt8) (w : World) :
    Calls Tryd.prog 59 #[.int .u8 c.toNat] w fun e w' => e = .returned (.bool (bl c)) ∧ w' = w := by
  have hA : Hid (bl c = (((c.toNat : Int) == 32) || ((c.toNat : Int) == 9))) := by
    show _ = _
    rw [Bool.eq_iff_iff, bl_iff]
    simp only [Bool.or_eq_true, beq_iff_eq]
    constructor
    · rintro (h | h) <;> rw [h] <;> simp
    · rintro (h | h)
      · exact .inl (UInt8.toNat_inj.1 (by simp; omega))
      · exact .inr (UInt8.toNat_inj.1 (by simp; omega))
  cases h1 : ((c.toNat : Int) == 32)
  all_goals
    go_enter Tryd.func59, Tryd.ntmps59
    go_wp2_with fail
    go_ret
    exact ⟨ret_bool (by rw [hA.out, h1]; rfl), rfl⟩
theorem own_ne {w : World} {B1 B2 : Nat} {e1 e2 : TypeId} {s1 s2 : Nat} {v1 v2 : Value} {n1 n2 : Nat} {xs1 xs2 : List Value} (h1 : w.ownsRow B1 e1 s1 v1 n1 xs1) (h2 : w.ownsRow B2 e2 s2 v2 n2 xs2) (he : e1 ≠ e2) : ∀ g, v1.ownBlock = some g → ¬ v2.ownBlock = some g := by
  intro g hg hg2
  rcases h1.2 with ⟨rfl, _⟩ | ⟨g1, c1, cu1, rfl, _, q1, _⟩
  · simp [Value.ownBlock] at hg
  · rcases h2.2 with ⟨rfl, _⟩ | ⟨g2, c2, cu2, rfl, _, q2, _⟩
    · simp [Value.ownBlock] at hg2
    · simp only [Value.ownBlock, Option.some.injEq] at hg hg2
      subst hg
      subst hg2
      rw [q1] at q2
      simp only [Option.some.injEq, Obj.cells.injEq] at q2
      exact he q2.2.1
theorem own_grown {w w' : World} {base : Nat} {e : TypeId} {size : Nat} {v : Value} {n : Nat} {xs : List Value} {r : Option Nat} (h : w.ownsRow base e size v n xs) (hg : w.grownBy w' r) (hr : ∀ g, v.ownBlock = some g → ¬ r = some g) : w'.ownsRow base e size v n xs := by
  refine ⟨h.1, ?_⟩
  rcases h.2 with h2 | ⟨g, cap, cur, h1, h2, h3, h4⟩
  · exact .inl h2
  · exact .inr ⟨g, cap, cur, h1, h2, (hg.block g (Array.getElem?_eq_some_iff.1 h3).1 (fun e => hr g (by rw [h1]; rfl) e.symm)).trans h3, h4⟩
theorem foldl_push : ∀ (X : L) (s : ByteArray), ((X.map fun b => (b.toNat : Int)).foldl (fun r n => r.push (UInt8.ofNat n.toNat)) s).data.toList = s.data.toList ++ X
  | [], s => by simp
  | b :: X, s => by
    rw [List.map_cons, List.foldl_cons, foldl_push X]
    have : UInt8.ofNat ((b.toNat : Int).toNat) = b := by simp
    rw [this]
    simp [ByteArray.push]
theorem conv_row {w : World} {base : Nat} {v : Value} {X : L} (h : w.ownsRow base 5 1 v X.length (Lib.byteCells X)) : (convert 53 9 v).run Tryd.prog w = .ok (.string ⟨X.toArray⟩) w := by
  have hx := h
  rcases h.2 with ⟨rfl, h0⟩ | ⟨g, cap, cur, rfl, _, hb, hle, _, hsz, htk⟩
  · have : X = [] := List.length_eq_zero_iff.1 h0
    subst this
    exact Lib.run_convert_nil_bytes w _ _ _ 0 Tryd.underlying53 Tryd.underlying5 Tryd.underlying9
  · rw [run_convert_bytes_string w _ _ _ _ _ _ Tryd.underlying53 Tryd.underlying5 Tryd.underlying9]
    have hl : (loadCells ⟨g, 0, none⟩ X.length).run Tryd.prog w = .ok ((X.map fun b => (b.toNat : Int)).map (Value.int .u8)).toArray w := by
      have hbc : ((X.map fun b => (b.toNat : Int)).map (Value.int .u8)) = Lib.byteCells X := by simp [Lib.byteCells]
      rw [hbc]
      have := run_loadCells_list (P := Tryd.prog) (w := w) ⟨g, 0, none⟩ (Lib.byteCells X) (fun j u hj => by
        have hjl : j < X.length := by have := (List.getElem?_eq_some_iff.1 hj).1; rwa [Lib.byteCells_length] at this
        have hc := hx.cellAt j (by omega)
        rw [Go.WideShapes.add_plain, Nat.zero_add]
        exact hc.trans hj)
      rw [Lib.byteCells_length] at this
      exact this
    rw [run_bytesToString w _ _ _ _ hl]
    congr 2
    rw [← Lib.mk_data (List.foldl _ _ _), foldl_push]
    rfl
theorem row_news2 (w : World) (c d : Value) (t : TypeId) : ∀ j u, [c, d][j]? = some u → (w.alloc (.cells #[c, d] t)).cell? ((⟨w.heap.size, 0, none⟩ : Addr).add j) = some u := by
  intro j u hj
  match j, hj with
  | 0, hj => simp at hj; subst hj; simp [Addr.add]
  | 1, hj => simp at hj; subst hj; simp [Addr.add]
theorem own_lit1 (w : World) (c : UInt8) : (w.alloc (.cells #[.int .u8 c.toNat] 5)).ownsRow w.heap.size 5 1 (.slice (some ⟨w.heap.size, 0, none⟩) 1 1) [c].length (Lib.byteCells [c]) :=
  ⟨rfl, .inr ⟨w.heap.size, 1, #[.int .u8 c.toNat], rfl, Nat.le_refl _, heap_alloc_new w _, Nat.le_refl _, by unfold maxLen; omega, rfl, rfl⟩⟩
end Go.Proofs.YtiinhfbfciccnaaDoor
/- Plain mathematics: words that are quoted, plain words, with blanks between. -/
namespace Go.Proofs.YtiinhfbfciccnaaDoor.Lin
theorem cutQ_q1 (c : UInt8) (r : L) : cutQ 34 (q1 c ++ r) = (cutQ 34 r).map fun p => (c :: p.1, p.2) := by
  unfold q1
  split
  · rename_i h
    rw [List.cons_append, List.cons_append, List.nil_append, cutQ_bs _ _ _ (by decide)]
    have : es1 c = some c := by
      unfold es1
      rw [if_pos]
      rcases h with h | h
      · exact .inl h
      · exact .inr (.inr h)
    rw [this]; rfl
  · split
    · rename_i h
      subst h
      rw [List.cons_append, List.cons_append, List.nil_append, cutQ_bs _ _ _ (by decide)]
      rfl
    · rename_i h1 h2
      rw [List.cons_append, List.nil_append, cutQ_plain _ _ _ (fun e => h1 (.inl e)) (fun e => h1 (.inr e))]
theorem cutQ_quo : ∀ (x r : L), cutQ 34 (x.flatMap q1 ++ 34 :: r) = some (x, r)
  | [], r => by rw [List.flatMap_nil, List.nil_append, cutQ_end]
  | c :: x, r => by
    rw [List.flatMap_cons, List.append_assoc, cutQ_q1, cutQ_quo x r]; rfl
theorem trimL_blank (c : UInt8) (r : L) (h : bl c = true) : trimL (c :: r) = trimL r := by
  unfold trimL Lib.trimLeftS
  rw [List.dropWhile_cons, if_pos (show [32, 9].contains c = true from h)]
theorem trimL_word (c : UInt8) (r : L) (h : bl c = false) : trimL (c :: r) = c :: r := by
  unfold trimL Lib.trimLeftS
  rw [List.dropWhile_cons, if_neg (by rw [show [32, 9].contains c = bl c from rfl, h]; simp)]
theorem bat_blank (c : UInt8) (r : L) (h : bl c = true) : bat (c :: r) = 0 := (bat_zero _).2 (.inr ⟨c, r, rfl, h⟩)
theorem cutW_quo (x r : L) (h : bat r = 0) : cutW (quo x ++ r) = some (x, r) := by
  unfold quo
  rw [List.cons_append, List.append_assoc]
  simp only [cutW]
  rw [if_pos (.inl trivial)]
  show (cutQ 34 (x.flatMap q1 ++ (34 :: r))).bind _ = _
  rw [cutQ_quo, Option.bind_some, if_pos h]
def qs (l : List L) : L := l.flatMap fun x => 32 :: quo x
theorem qs_snoc (l : List L) (x : L) : qs (l ++ [x]) = qs l ++ 32 :: quo x := by simp [qs]
theorem spl_qs : ∀ l : List L, spl (qs l ++ [32]) = some l
  | [] => rfl
  | x :: t => by
    have ih := spl_qs t
    rw [spl_eq] at ih ⊢
    have e1 : qs (x :: t) ++ [32] = 32 :: (quo x ++ (qs t ++ [32])) := by simp [qs]
    obtain ⟨c, r, hr, hc⟩ : ∃ c r, qs t ++ [32] = c :: r ∧ bl c = true := by
      cases t with
      | nil => exact ⟨32, [], rfl, by decide⟩
      | cons y u => exact ⟨32, quo y ++ (qs u ++ [32]), by simp [qs], by decide⟩
    have hb : bat (qs t ++ [32]) = 0 := by rw [hr]; exact bat_blank c r hc
    have e2 : trimL (quo x ++ (qs t ++ [32])) = quo x ++ (qs t ++ [32]) := by
      unfold quo
      rw [List.cons_append]
      exact trimL_word _ _ (by decide)
    rw [e1, trimL_blank _ _ (by decide), e2]
    have e3 : quo x ++ (qs t ++ [32]) = 34 :: ((x.flatMap q1 ++ [34]) ++ (qs t ++ [32])) := rfl
    have e4 := cutW_quo x (qs t ++ [32]) hb
    rw [e3] at e4 ⊢
    rw [spl0_cons (by decide), e4, Option.bind_some, ih]
    rfl
/-- Plain words. -/
theorem bat_word : ∀ (x r : L), (∀ c ∈ x, bl c = false) → bat r = 0 → bat (x ++ r) = x.length
  | [], r, _, h => h
  | c :: x, r, h, hr => by
    have := bat_word x r (fun d hd => h d (by simp [hd])) hr
    unfold bat at this ⊢
    rw [List.cons_append, List.takeWhile_cons, h c (by simp)]
    simp only [Bool.not_false, if_true, List.length_cons, this]
def plain (x : L) : Bool := match x with
  | [] => false
  | c :: _ => !(c == 34) && !(c == 39) && x.all fun d => !bl d
theorem cutW_plain (x r : L) (h : plain x = true) (hr : bat r = 0) : cutW (x ++ r) = some (x, r) := by
  cases x with
  | nil => cases h
  | cons c t =>
    simp [plain] at h
    have hall : ∀ d ∈ c :: t, bl d = false := by
      intro d hd
      rcases List.mem_cons.1 hd with rfl | hd
      · exact h.2.1
      · exact h.2.2 d hd
    have hb := bat_word (c :: t) r hall hr
    rw [List.cons_append] at hb ⊢
    simp only [cutW]
    rw [if_neg (by rintro (e | e); exact h.1.1 e; exact h.1.2 e), hb]
    show some ((c :: (t ++ r)).take (t.length + 1), (c :: (t ++ r)).drop (t.length + 1)) = _
    simp
theorem trimL_blanks : ∀ (g r : L), (∀ c ∈ g, bl c = true) → trimL (g ++ r) = trimL r
  | [], _, _ => rfl
  | c :: g, r, h => by rw [List.cons_append, trimL_blank _ _ (h c (by simp)), trimL_blanks g r (fun d hd => h d (by simp [hd]))]
/-- Words, with blanks behind each. -/
def ws : List (L × L) → L
  | [] => []
  | p :: r => p.1 ++ (p.2 ++ ws r)
theorem ws_snoc : ∀ (l : List (L × L)) (p : L × L), ws (l ++ [p]) = ws l ++ (p.1 ++ p.2)
  | [], p => by simp [ws]
  | q :: l, p => by simp [ws, ws_snoc l p]
theorem spl_ws : ∀ (l : List (L × L)) (g : L), (∀ c ∈ g, bl c = true) → (∀ p ∈ l, plain p.1 = true ∧ p.2 ≠ [] ∧ ∀ c ∈ p.2, bl c = true) → spl (g ++ ws l) = some (l.map (·.1))
  | [], g, hg, _ => by
    rw [spl_eq, trimL_blanks g _ hg]; rfl
  | p :: l, g, hg, hl => by
    obtain ⟨h1, h2, h3⟩ := hl p (by simp)
    have ih := spl_ws l p.2 h3 (fun q hq => hl q (by simp [hq]))
    rw [spl_eq] at ih ⊢
    rw [trimL_blanks g _ hg]
    show spl0 (trimL (p.1 ++ (p.2 ++ ws l))) = _
    obtain ⟨x, b⟩ := p
    simp only at h1 h2 h3 ih ⊢
    cases x with
    | nil => cases h1
    | cons c t =>
      have hc : bl c = false := by simp [plain] at h1; exact h1.2.1
      have hb0 : bat (b ++ ws l) = 0 := by
        cases b with
        | nil => exact absurd rfl h2
        | cons d u => exact bat_blank d _ (h3 d (by simp))
      rw [List.cons_append, trimL_word _ _ hc, spl0_cons hc]
      have := cutW_plain (c :: t) (b ++ ws l) h1 hb0
      rw [List.cons_append] at this
      rw [this, Option.bind_some]
      simp only
      rw [ih]
      rfl
end Go.Proofs.YtiinhfbfciccnaaDoor.Lin
/- Plain mathematics: a long line, which goes on. -/
namespace Go.Proofs.YtiinhfbfciccnaaDoor.Lin
theorem trimR_keep (a y : L) (c : UInt8) (hc : bl c = false) : trimR (a ++ c :: y) = a ++ c :: trimR y := by
  unfold trimR Lib.trimRightS
  have e : (a ++ c :: y).reverse = y.reverse ++ (c :: a.reverse) := by simp
  have hn : [32, 9].contains c = false := hc
  rw [e, List.dropWhile_append]
  split
  · rename_i h
    have h0 : y.reverse.dropWhile (fun x => [32, 9].contains x) = [] := by simpa using h
    rw [List.dropWhile_cons, if_neg (by rw [hn]; simp), h0]
    simp
  · simp
theorem prs_k (y : L) : ∃ v, prs (107 :: 61 :: y) = some (2, [107], v) := by
  have e1 : trim (107 :: 61 :: y) = 107 :: 61 :: trimR y := by
    have h1 : trim (107 :: 61 :: y) = trimL (trimR ([107] ++ 61 :: y)) := rfl
    rw [h1, trimR_keep [107] y 61 (by decide)]
    exact trimL_word 107 _ (by decide)
  have e2 : secN (107 :: 61 :: trimR y) = none := by
    unfold secN
    rw [show Lib.hasPrefix (107 :: 61 :: trimR y) [91] = false from rfl]
    rfl
  have e3 : Lib.cut (107 :: 61 :: trimR y) [61] = ([107], trimR y, true) := cut_split (a := [107]) (by decide)
  refine ⟨trimL (trimR y), ?_⟩
  unfold prs
  rw [e1, e2]
  simp only [e3]
  rfl
/-- Parts that go on. -/
def parts (q : Nat) : Nat → L
  | 0 => []
  | i + 1 => List.replicate q 118 ++ [92, 10] ++ parts q i
theorem parts_snoc (q : Nat) : ∀ i, parts q (i + 1) = parts q i ++ (List.replicate q 118 ++ [92, 10])
  | 0 => by simp [parts]
  | i + 1 => by
    have := parts_snoc q i
    have e : parts q (i + 1 + 1) = List.replicate q 118 ++ [92, 10] ++ parts q (i + 1) := rfl
    have e2 : parts q (i + 1) = List.replicate q 118 ++ [92, 10] ++ parts q i := rfl
    rw [e, this]
    simp only [← List.append_assoc]
    rw [← e2, this]
    simp
theorem parts_len (q : Nat) : ∀ i, (parts q i).length = i * (q + 2)
  | 0 => by simp [parts]
  | i + 1 => by simp only [parts, List.length_append, List.length_replicate, List.length_cons, List.length_nil, parts_len q i, Nat.add_mul]; omega
/-- What such parts are. -/
def joined (q : Nat) : Nat → L
  | 0 => []
  | i + 1 => List.replicate q 118 ++ [32] ++ joined q i
theorem joined_len (q : Nat) : ∀ i, (joined q i).length = i * (q + 1)
  | 0 => by simp [joined]
  | i + 1 => by simp only [joined, List.length_append, List.length_replicate, List.length_cons, List.length_nil, joined_len q i, Nat.add_mul]; omega
theorem rep_no (q : Nat) : ∀ x ∈ List.replicate q (118 : UInt8) ++ [92], x ≠ 10 := by
  intro x hx
  rcases List.mem_append.1 hx with h | h
  · rw [List.eq_of_mem_replicate h]; decide
  · have : x = 92 := by simpa using h
    rw [this]; decide
theorem suf92 (a : L) : Lib.hasSuffix (a ++ [92]) [92] = true := by
  unfold Lib.hasSuffix
  rw [List.isSuffixOf_iff_suffix]
  exact ⟨a, rfl⟩
theorem trim92 (a : L) : Lib.trimSuffix (a ++ [92]) [92] = a := by
  unfold Lib.trimSuffix
  rw [if_pos (suf92 a)]
  simp
theorem rep_suf (q : Nat) : Lib.hasSuffix (List.replicate q (118 : UInt8)) [92] = false := by
  rw [← Bool.not_eq_true]
  intro h
  unfold Lib.hasSuffix at h
  rw [List.isSuffixOf_iff_suffix] at h
  obtain ⟨t, ht⟩ := h
  have : (92 : UInt8) ∈ List.replicate q (118 : UInt8) := by rw [← ht]; simp
  exact absurd (List.eq_of_mem_replicate this) (by decide)
/-- Lines that go on, with the last one behind them. -/
theorem whl_parts (q b : Nat) (hb : b ≠ 0) : ∀ (i : Nat) (x : L) (n : Nat), ∃ n', whl n b x (pieces (parts q i ++ (List.replicate q 118 ++ [10]))) = [(b, x ++ joined q i ++ List.replicate q 118)] ∧ n ≤ n'
  | 0, x, n => by
    have hp : pieces (parts q 0 ++ (List.replicate q 118 ++ [10])) = [List.replicate q 118, []] := by
      show pieces (List.replicate q 118 ++ 10 :: []) = _
      rw [pieces_split _ _ (fun y hy => by rw [List.eq_of_mem_replicate hy]; decide)]
      rfl
    refine ⟨n, ?_, Nat.le_refl _⟩
    rw [hp, whl_end n b x _ _ hb (rep_suf q), whl_out (n + 1) [] [] [] rfl]
    simp [whl, joined]
  | i + 1, x, n => by
    have hp : pieces (parts q (i + 1) ++ (List.replicate q 118 ++ [10])) = (List.replicate q 118 ++ [92]) :: pieces (parts q i ++ (List.replicate q 118 ++ [10])) := by
      have e : parts q (i + 1) ++ (List.replicate q 118 ++ [10]) = (List.replicate q 118 ++ [92]) ++ 10 :: (parts q i ++ (List.replicate q 118 ++ [10])) := by simp [parts]
      rw [e, pieces_split _ _ (rep_no q)]
    obtain ⟨n', h1, h2⟩ := whl_parts q b hb i (x ++ List.replicate q 118 ++ [32]) (n + 1)
    refine ⟨n', ?_, by omega⟩
    rw [hp, whl_on n b x _ _ hb (suf92 _), trim92, h1]
    simp [joined]
theorem lns_long (q i : Nat) (hq : 6 + i * (q + 2) + q + 1 ≤ 4000) : ∃ l, lns ([91, 65, 93, 10, 107, 61] ++ (parts q i ++ (List.replicate q 118 ++ [10]))) = if 400 < 2 + i * (q + 1) + q then .error (2, 51) else .ok l := by
  have hlen : ([91, 65, 93, 10, 107, 61] ++ (parts q i ++ (List.replicate q (118 : UInt8) ++ [10]))).length ≤ 4000 := by
    simp only [List.length_append, List.length_cons, List.length_nil, parts_len, List.length_replicate]; omega
  have e0 : ([91, 65, 93, 10, 107, 61] ++ (parts q i ++ (List.replicate q (118 : UInt8) ++ [10])) : L) = [91, 65, 93] ++ 10 :: ([107, 61] ++ (parts q i ++ (List.replicate q 118 ++ [10]))) := by simp
  -- the second line and all that it goes on with
  have hw : ∃ y, y.length = i * (q + 1) + q ∧ whl 1 0 [] (pieces ([107, 61] ++ (parts q i ++ (List.replicate q (118 : UInt8) ++ [10])))) = [(2, [107, 61] ++ y)] := by
    cases i with
    | zero =>
      refine ⟨List.replicate q 118, by simp, ?_⟩
      have hp : pieces ([107, 61] ++ (parts q 0 ++ (List.replicate q 118 ++ [10]))) = [[107, 61] ++ List.replicate q 118, []] := by
        show pieces (([107, 61] ++ List.replicate q 118) ++ 10 :: []) = _
        rw [pieces_split _ _ (fun y hy => by
          rcases List.mem_append.1 hy with h | h
          · clear hy; revert h; revert y; decide
          · rw [List.eq_of_mem_replicate h]; decide)]
        rfl
      have hs : Lib.hasSuffix ([107, 61] ++ List.replicate q (118 : UInt8)) [92] = false := by
        rw [← Bool.not_eq_true]
        intro h
        unfold Lib.hasSuffix at h
        rw [List.isSuffixOf_iff_suffix] at h
        obtain ⟨t, ht⟩ := h
        have : (92 : UInt8) ∈ [107, 61] ++ List.replicate q (118 : UInt8) := by rw [← ht]; simp
        rcases List.mem_append.1 this with h | h
        · revert h; decide
        · exact absurd (List.eq_of_mem_replicate h) (by decide)
      have hl : lout ([107, 61] ++ List.replicate q 118) = false := by
        unfold lout
        rw [show ([107, 61] ++ List.replicate q 118 : L) = 107 :: (61 :: List.replicate q 118) from rfl, trimL_word _ _ (by decide)]
        rfl
      rw [hp, whl_end0 1 [] _ _ hl hs, whl_out 2 [] [] [] rfl]
      simp [whl]
    | succ i =>
      have hp : pieces ([107, 61] ++ (parts q (i + 1) ++ (List.replicate q 118 ++ [10]))) = ([107, 61] ++ List.replicate q 118 ++ [92]) :: pieces (parts q i ++ (List.replicate q 118 ++ [10])) := by
        have e : [107, 61] ++ (parts q (i + 1) ++ (List.replicate q 118 ++ [10])) = ([107, 61] ++ List.replicate q 118 ++ [92]) ++ 10 :: (parts q i ++ (List.replicate q 118 ++ [10])) := by simp [parts]
        rw [e, pieces_split _ _ (fun y hy => by
          rw [List.append_assoc] at hy
          rcases List.mem_append.1 hy with h | h
          · clear hy; revert h; revert y; decide
          · exact rep_no q y h)]
      have hl : lout ([107, 61] ++ List.replicate q 118 ++ [92]) = false := by
        unfold lout
        rw [show ([107, 61] ++ List.replicate q 118 ++ [92] : L) = 107 :: (61 :: (List.replicate q 118 ++ [92])) from rfl, trimL_word _ _ (by decide)]
        rfl
      obtain ⟨_, h1, _⟩ := whl_parts q 2 (by decide) i ([107, 61] ++ List.replicate q 118 ++ [32]) 2
      refine ⟨List.replicate q 118 ++ [32] ++ joined q i ++ List.replicate q 118, ?_, ?_⟩
      · simp only [List.length_append, List.length_replicate, List.length_cons, List.length_nil, joined_len, Nat.add_mul]; omega
      · rw [hp, whl_on0 1 [] _ _ hl (suf92 _), trim92, List.nil_append, h1]
        simp
  obtain ⟨y, hy, hw⟩ := hw
  obtain ⟨v, hv⟩ := prs_k y
  refine ⟨[(1, [65], [], 1), (2, [107], v, 2)], ?_⟩
  unfold lns
  rw [if_neg (by omega), e0, pieces_split _ _ (by decide), whl_end0 0 [] [91, 65, 93] _ (by decide) (by decide), hw]
  have p1 : prs [91, 65, 93] = some (1, [65], []) := by decide +kernel
  have hyl : ([107, 61] ++ y).length = 2 + i * (q + 1) + q := by simp only [List.length_append, List.length_cons, List.length_nil, hy]; omega
  have hv' : prs ([107, 61] ++ y) = some (2, [107], v) := hv
  by_cases hlg : 400 < 2 + i * (q + 1) + q
  · rw [if_pos hlg]
    simp only [lnsW, List.nil_append, p1, hyl, if_pos hlg]
    rfl
  · rw [if_neg hlg]
    simp only [lnsW, List.nil_append, p1, hyl, if_neg hlg, hv']
    rfl
end Go.Proofs.YtiinhfbfciccnaaDoor.Lin
/- Plain mathematics: a line, as the reference reads it. -/
namespace Go.Proofs.YtiinhfbfciccnaaDoor.Lin
theorem trim_def (l : L) : trim l = trimL (trimR l) := rfl
/-- Trimmed from both ends, by places. -/
theorem trim_at {l : L} {i k : Nat} (hik : i ≤ k) (hk : k ≤ l.length) (h1 : ∀ (j : Nat) b, j < i → l[j]? = some b → bl b = true) (h2 : ∀ b, l[i]? = some b → i < k → bl b = false) (h3 : ∀ (j : Nat) b, k ≤ j → l[j]? = some b → bl b = true) (h4 : ∀ b, i < k → l[k - 1]? = some b → bl b = false) :
    trim l = (l.take k).drop i := by
  by_cases he : i = k
  · subst he
    have hall : ∀ (j : Nat) b, l[j]? = some b → bl b = true := fun j b hj => by
      rcases Nat.lt_or_ge j i with h | h
      · exact h1 j b h hj
      · exact h3 j b h hj
    have e1 : trimR l = l.take 0 := Lib.trimRightS_take l [32, 9] 0 (Nat.zero_le _) (fun j b _ hj => hall j b hj) (fun b h => absurd h (Nat.lt_irrefl _))
    rw [trim_def, e1, List.drop_of_length_le (by rw [List.length_take]; omega)]
    rfl
  · have e1 : trimR l = l.take k := Lib.trimRightS_take l [32, 9] k hk h3 (fun b _ hb => h4 b (by omega) hb)
    rw [trim_def, e1]
    refine Lib.trimLeftS_drop (l.take k) [32, 9] i (by rw [List.length_take]; omega) (fun j b hj hb => ?_) (fun b hb => ?_)
    · rw [List.getElem?_take_of_lt (by omega)] at hb
      exact h1 j b hj hb
    · rw [List.getElem?_take_of_lt (by omega)] at hb
      exact h2 b hb (by omega)
theorem trimR_last {l : L} {a : L} {c : UInt8} (h : trimR l = a ++ [c]) : bl c = false := by
  unfold trimR Lib.trimRightS at h
  have h2 := congrArg List.reverse h
  rw [List.reverse_reverse, List.reverse_append] at h2
  have := List.head?_dropWhile_not ([32, 9].contains ·) l.reverse
  rw [h2] at this
  simpa [bl] using this
theorem trimL_suffix (l : L) : ∃ a, l = a ++ trimL l := by
  unfold trimL Lib.trimLeftS
  obtain ⟨a, ha⟩ := List.dropWhile_suffix (l := l) ([32, 9].contains ·)
  exact ⟨a, ha.symm⟩
theorem trim_last {l a : L} {c : UInt8} (h : trim l = a ++ [c]) : bl c = false := by
  obtain ⟨b, hb⟩ := trimL_suffix (trimR l)
  rw [← trim_def, h, ← List.append_assoc] at hb
  exact trimR_last hb
theorem trim_head {l r : L} {c : UInt8} (h : trim l = c :: r) : bl c = false := trimL_head h
theorem trimR_id {x : L} (h : ∀ a c, x = a ++ [c] → bl c = false) : trimR x = x := by
  rcases List.eq_nil_or_concat x with rfl | ⟨a, c, rfl⟩
  · rfl
  · have := trimR_keep a [] c (h a c (by simp))
    simpa [trimR, Lib.trimRightS] using this
theorem mem_tw (f : UInt8 → Bool) : ∀ (l : L) (c : UInt8), c ∈ l.takeWhile f → f c = true
  | [], _, h => by simp at h
  | d :: l, c, h => by
    rw [List.takeWhile_cons] at h
    split at h
    · rename_i hd
      rcases List.mem_cons.1 h with rfl | h
      · exact hd
      · exact mem_tw f l c h
    · simp at h
theorem dw_nil (f : UInt8 → Bool) : ∀ (l : L), (∀ c ∈ l, f c = true) → l.dropWhile f = []
  | [], _ => rfl
  | d :: l, h => by rw [List.dropWhile_cons, if_pos (h d (by simp))]; exact dw_nil f l (fun c hc => h c (by simp [hc]))
theorem lout_trim (p : L) : lout p = match trim p with | [] => true | c :: _ => c == 35 || c == 59 := by
  unfold lout
  obtain ⟨a, ha⟩ := trimL_suffix p
  have hab : ∀ c ∈ a, bl c = true := by
    have : a = p.takeWhile ([32, 9].contains ·) := by
      have h2 := List.takeWhile_append_dropWhile (p := ([32, 9].contains ·)) (l := p)
      have h3 : a ++ trimL p = p.takeWhile ([32, 9].contains ·) ++ trimL p := by rw [← ha]; exact h2.symm
      exact List.append_cancel_right h3
    intro c hc
    rw [this] at hc
    exact mem_tw _ _ c hc
  cases hp : trimL p with
  | nil =>
    have : trim p = [] := by
      rw [trim_def]
      have e : trimR p = [] := by
        rw [ha, hp, List.append_nil]
        unfold trimR Lib.trimRightS
        have : a.reverse.dropWhile ([32, 9].contains ·) = [] := by
          refine dw_nil _ _ fun c hc => ?_
          exact hab c (by simpa using hc)
        rw [this]; rfl
      rw [e]; rfl
    rw [this]
  | cons c r =>
    have hc : bl c = false := trimL_head hp
    have : trim p = c :: trimR r := by
      rw [trim_def, ha, hp, trimR_keep a r c hc, trimL_blanks a _ hab]
      exact trimL_word _ _ hc
    rw [this]
/-- Is it a section, by its ends? -/
def brk (t : L) : Bool := decide (2 ≤ t.length) && t.head? == some 91 && t.getLast? == some 93
theorem secN_brk {t : L} (h : brk t = true) : secN t = if made sc ((t.drop 1).take (t.length - 2)) then some ((t.drop 1).take (t.length - 2)) else none := by
  unfold brk at h
  simp only [Bool.and_eq_true, decide_eq_true_eq, beq_iff_eq] at h
  obtain ⟨⟨h1, h2⟩, h3⟩ := h
  cases t with
  | nil => simp at h1
  | cons c r =>
    simp only [List.head?_cons, Option.some.injEq] at h2
    subst h2
    have hr : r ≠ [] := by rintro rfl; simp at h1
    have hl : r.getLast? = some 93 := by rw [List.getLast?_cons_of_ne_nil hr] at h3; exact h3
    obtain ⟨a, ha⟩ : ∃ a, r = a ++ [93] := by
      rw [List.getLast?_eq_some_iff] at hl
      obtain ⟨a, ha⟩ := hl
      exact ⟨a, ha⟩
    have e1 : Lib.hasPrefix (91 :: r) [91] = true := by simp [Lib.hasPrefix]
    have e2 : Lib.trimPrefix (91 :: r) [91] = r := by unfold Lib.trimPrefix; rw [if_pos e1]; rfl
    have e3 : Lib.hasSuffix r [93] = true := by
      unfold Lib.hasSuffix
      rw [List.isSuffixOf_iff_suffix]
      exact ⟨a, ha.symm⟩
    have e4 : Lib.trimSuffix r [93] = r.take (r.length - 1) := by unfold Lib.trimSuffix; rw [if_pos e3]; rfl
    unfold secN
    rw [e1, e2, e3, e4]
    simp only [List.drop_succ_cons, List.drop_zero, List.length_cons, Bool.true_and]
    rw [show r.length + 1 - 2 = r.length - 1 by omega]
theorem secN_no {t : L} (h : brk t = false) : secN t = none := by
  unfold secN
  rw [if_neg]
  intro hc
  simp only [Bool.and_eq_true] at hc
  obtain ⟨⟨h1, h2⟩, _⟩ := hc
  cases t with
  | nil => simp [Lib.hasPrefix] at h1
  | cons c r =>
    have hc1 : c = 91 := by simp [Lib.hasPrefix] at h1; exact h1.symm
    subst hc1
    have e2 : Lib.trimPrefix (91 :: r) [91] = r := by unfold Lib.trimPrefix; rw [if_pos h1]; rfl
    rw [e2] at h2
    unfold Lib.hasSuffix at h2
    rw [List.isSuffixOf_iff_suffix] at h2
    obtain ⟨a, rfl⟩ := h2
    unfold brk at h
    simp [List.getLast?_cons] at h
/-- The reference's line: where a section's ends stand, or no '=' does, or at the first one. -/
theorem prs_brk {s : L} (h : brk (trim s) = true) : prs s = if made sc (((trim s).drop 1).take ((trim s).length - 2)) then some (1, ((trim s).drop 1).take ((trim s).length - 2), []) else none := by
  cases hm : made sc (((trim s).drop 1).take ((trim s).length - 2))
  · have hsn := secN_brk h
    rw [hm] at hsn
    have hsn' : secN (trim s) = none := hsn
    unfold prs
    rw [hsn']
    simp only
    have hbad : ((Lib.cut (trim s) [61]).2.2 && made al (trimR (Lib.cut (trim s) [61]).1)) = false := by
      unfold brk at h
      simp only [Bool.and_eq_true, decide_eq_true_eq, beq_iff_eq] at h
      obtain ⟨⟨h1, h2⟩, _⟩ := h
      rcases split_cases (trim s) 61 with hno | ⟨a, b, hab, hno⟩
      · rw [cut_none hno]; rfl
      · rw [hab, cut_split hno]
        cases a with
        | nil => rw [hab] at h2; simp at h2
        | cons c r =>
          rw [hab] at h2
          simp only [List.cons_append, List.head?_cons, Option.some.injEq] at h2
          subst h2
          have : (91 : UInt8) ∈ trimR (91 :: r) := by
            have := trimR_keep [] r 91 (by decide)
            rw [List.nil_append] at this
            rw [this]; simp
          show made al (trimR (91 :: r)) = false
          unfold made
          have h5 : (trimR (91 :: r)).all al = false := by
            rw [← Bool.not_eq_true, List.all_eq_true]
            intro hh
            exact absurd (hh _ this) (by decide)
          rw [h5]; rfl
    rw [hbad]; rfl
  · have hsn := secN_brk h
    rw [hm, if_pos rfl] at hsn
    unfold prs
    rw [hsn]; rfl
theorem prs_no {s : L} (h : brk (trim s) = false) (hno : ∀ x ∈ trim s, x ≠ 61) : prs s = none := by
  unfold prs
  rw [secN_no h]
  simp only [cut_none hno]
  rfl
theorem prs_eq {s a b : L} (h : brk (trim s) = false) (hab : trim s = a ++ 61 :: b) (hno : ∀ x ∈ a, x ≠ 61) : prs s = if made al (trim a) then some (2, trim a, trim b) else none := by
  have ea : trim a = trimR a := by
    rw [trim_def]
    cases a with
    | nil => rfl
    | cons c r =>
      have hc : bl c = false := trim_head (by rw [hab]; rfl)
      have := trimR_keep [] r c hc
      rw [List.nil_append] at this
      rw [this]
      exact trimL_word _ _ hc
  have eb : trim b = trimL b := by
    rw [trim_def, trimR_id]
    intro x c hx
    exact trim_last (l := s) (a := a ++ 61 :: x) (c := c) (by rw [hab, hx]; simp)
  unfold prs
  rw [secN_no h, hab]
  simp only [cut_split hno]
  rw [ea, eb, Bool.true_and]
end Go.Proofs.YtiinhfbfciccnaaDoor.Lin
/- Contracts of the reference's Trim, key, section. -/
namespace Go.Proofs.YtiinhfbfciccnaaDoor
open Go.RowKit Lin
theorem trim_cut (s : ByteArray) {i k : Nat} (h : trim s.data.toList = (s.data.toList.take k).drop i) : s.extract i k = ⟨(trim s.data.toList).toArray⟩ := by
  rw [h, List.drop_take, ← Lib.extract_data, Lib.mk_data]
set_option maxHeartbeats 4000000 in
theorem rtrim_any (s : ByteArray) (w : World) (hs : s.size ≤ 1000000) :
    Calls Tryd.prog 38 #[.string s] w fun e w' => e = .returned (.string ⟨(trim s.data.toList).toArray⟩) ∧ w' = w := by
  go_enter Tryd.func38, Tryd.ntmps38
  go_wp2_with fail
  go_loop [3] (fun i => ∃ m : Nat, m ≤ s.size ∧ i = .int .i64 m ∧ Hid (∀ (j : Nat) b, j < m → s.data.toList[j]? = some b → bl b = true)) (fun i => s.size - (intOf i).toNat)
  case atStart => exact ⟨0, by omega, rfl, fun j b h => absurd h (Nat.not_lt_zero _)⟩
  case round =>
    obtain ⟨m, hm, rfl, hA⟩ := hrel
    by_cases hlt : m < s.size
    · have hg := get_list s m hlt
      obtain ⟨c, hc⟩ : ∃ c, s[m] = c := ⟨_, rfl⟩
      rw [hc] at hg
      have hmI : (m : Int) < (s.size : Int) := by omega
      have hbl := fun w => blank_any c w
      cases hcb : bl c
      · rw [hcb] at hbl
        have hbl' : Hid (∀ w, Calls Tryd.prog 59 #[.int .u8 c.toNat] w fun e w' => e = .returned (.bool false) ∧ w' = w) := hbl
        have hst : Hid (∀ b, s.data.toList[m]? = some b → bl b = false) := fun b hb => by rw [hg] at hb; cases hb; exact hcb
        clear hbl hcb hg
        go_wp2_with (go_at_call 59; refine (hbl'.out _).mono ?_; rintro e w' ⟨rfl, rfl⟩)
        clear hmI hbl' hc
        go_loop [4] (fun i => ∃ k : Nat, m ≤ k ∧ k ≤ s.size ∧ i = .int .i64 k ∧ Hid (∀ (j : Nat) b, k ≤ j → s.data.toList[j]? = some b → bl b = true)) (fun i => (intOf i).toNat)
        case atStart => exact ⟨s.size, by omega, by omega, rfl, fun j b h hb => absurd (List.getElem?_eq_some_iff.1 hb).1 (by rw [size_list]; omega)⟩
        case round =>
          obtain ⟨k, hmk, hk, rfl, hB⟩ := hrel
          by_cases hmk2 : m < k
          · obtain ⟨j, rfl⟩ : ∃ j, k = j + 1 := ⟨k - 1, by omega⟩
            have hjs : j < s.size := by omega
            have hg := get_list s j hjs
            obtain ⟨d, hd⟩ : ∃ d, s[j] = d := ⟨_, rfl⟩
            rw [hd] at hg
            have hjI : (m : Int) < (j : Int) + 1 := by omega
            have hjs' : (j : Int) < (s.size : Int) := by omega
            have hbl := fun w => blank_any d w
            cases hdb : bl d
            · rw [hdb] at hbl
              have hbl' : Hid (∀ w, Calls Tryd.prog 59 #[.int .u8 d.toNat] w fun e w' => e = .returned (.bool false) ∧ w' = w) := hbl
              have hT : Hid (s.extract m (j + 1) = ⟨(trim s.data.toList).toArray⟩) := trim_cut s (trim_at hmk (by rw [size_list]; exact hk) hA.out (fun b hb _ => hst.out b hb) hB.out (fun b _ hb => by rw [Nat.add_sub_cancel, hg] at hb; cases hb; exact hdb))
              have x1 : (m : Int) ≤ (j : Int) + 1 := by omega
              have x2 : (j : Int) + 1 ≤ (s.size : Int) := by omega
              clear hbl hdb hg
              go_wp2_with (go_at_call 59; refine (hbl'.out _).mono ?_; rintro e w' ⟨rfl, rfl⟩)
              go_ret
              exact ⟨ret_str (by rw [← hT.out]; try rfl), rfl⟩
            · rw [hdb] at hbl
              have hbl' : Hid (∀ w, Calls Tryd.prog 59 #[.int .u8 d.toNat] w fun e w' => e = .returned (.bool true) ∧ w' = w) := hbl
              have hB2 : Hid (∀ (i : Nat) b, j ≤ i → s.data.toList[i]? = some b → bl b = true) := fun i b h hb => by
                rcases Nat.lt_or_ge j i with h' | h'
                · exact hB.out i b h' hb
                · obtain rfl : i = j := by omega
                  rw [hg] at hb; cases hb; exact hdb
              clear hbl hdb hg
              go_wp2_with (go_at_call 59; refine (hbl'.out _).mono ?_; rintro e w' ⟨rfl, rfl⟩)
              exact ⟨⟨j, by omega, by omega, by go_num, hB2⟩, by simp [intOf]⟩
          · obtain rfl : m = k := by omega
            have hmI : ¬ ((m : Int) < (m : Int)) := by omega
            have x2 : (m : Int) ≤ (s.size : Int) := by omega
            have hT : Hid (s.extract m m = ⟨(trim s.data.toList).toArray⟩) := trim_cut s (trim_at hmk (by rw [size_list]; exact hk) hA.out (fun b hb _ => hst.out b hb) hB.out (fun b h _ => absurd h hmk2))
            go_wp2_with fail
            go_ret
            exact ⟨ret_str (by rw [← hT.out]; simp), rfl⟩
      · rw [hcb] at hbl
        have hbl' : Hid (∀ w, Calls Tryd.prog 59 #[.int .u8 c.toNat] w fun e w' => e = .returned (.bool true) ∧ w' = w) := hbl
        have hA2 : Hid (∀ (j : Nat) b, j < m + 1 → s.data.toList[j]? = some b → bl b = true) := fun i b h hb => by
          rcases Nat.lt_or_ge i m with h' | h'
          · exact hA.out i b h' hb
          · obtain rfl : i = m := by omega
            rw [hg] at hb; cases hb; exact hcb
        clear hbl hcb hg
        go_wp2_with (go_at_call 59; refine (hbl'.out _).mono ?_; rintro e w' ⟨rfl, rfl⟩)
        exact ⟨⟨m + 1, by omega, by go_num, hA2⟩, by simp [intOf]; omega⟩
    · obtain rfl : m = s.size := by omega
      have hmI : ¬ ((s.size : Int) < (s.size : Int)) := by omega
      have hT : Hid (s.extract s.size s.size = ⟨(trim s.data.toList).toArray⟩) := trim_cut s (trim_at (Nat.le_refl _) (by rw [size_list]; exact hm) hA.out (fun b _ h => absurd h (Nat.lt_irrefl _)) (fun j b h hb => absurd (List.getElem?_eq_some_iff.1 hb).1 (by rw [size_list]; omega)) (fun b h _ => absurd h (Nat.lt_irrefl _)))
      go_wp2_with fail
      go_loop [4] (fun i => i = .int .i64 s.size) (fun _ => 0)
      case atStart => rfl
      case round =>
        obtain rfl := hrel
        go_wp2_with fail
        go_ret
        exact ⟨ret_str (by rw [← hT.out]; simp), rfl⟩
theorem al_no {c : UInt8} (h : al c = false) : (c.toNat < 48 ∨ (57 < c.toNat ∧ c.toNat < 65)) ∨ (90 < c.toNat ∧ c.toNat < 97) ∨ 122 < c.toNat := by
  unfold al at h
  simp only [decide_eq_false_iff_not] at h
  omega
theorem al_yes {c : UInt8} (h : al c = true) : (48 ≤ c.toNat ∧ c.toNat ≤ 57) ∨ (65 ≤ c.toNat ∧ c.toNat ≤ 90) ∨ (97 ≤ c.toNat ∧ c.toNat ≤ 122) := by
  unfold al at h
  simp only [decide_eq_true_eq] at h
  omega
theorem dT {p : Prop} [Decidable p] (h : p) : decide p = true := decide_eq_true h
theorem dF {p : Prop} [Decidable p] (h : ¬ p) : decide p = false := decide_eq_false h
set_option maxHeartbeats 4000000 in
theorem rkey_any (s : ByteArray) (w : World) (hs : s.size ≤ 1000000) :
    Calls Tryd.prog 61 #[.string s] w fun e w' => e = .returned (.bool (made al s.data.toList)) ∧ w' = w := by
  go_enter Tryd.func61, Tryd.ntmps61
  go_wp2_with fail
  go_loop [3] (fun i => ∃ k : Nat, k ≤ s.size ∧ i = .int .i64 k ∧ Hid ((s.data.toList.take k).all al = true)) (fun i => s.size - (intOf i).toNat)
  case atStart => exact ⟨0, by omega, rfl, rfl⟩
  case round =>
    obtain ⟨k, hk, rfl, hno⟩ := hrel
    by_cases hlt : k < s.size
    · have htk : Hid (s.data.toList.take (k + 1) = s.data.toList.take k ++ [s[k]]) := by
        show _ = _
        rw [List.take_add_one, get_list s k hlt]; rfl
      have hmem : Hid (s[k] ∈ s.data.toList) := List.mem_of_getElem? (get_list s k hlt)
      obtain ⟨c, hc⟩ : ∃ c, s[k] = c := ⟨_, rfl⟩
      rw [hc] at htk hmem
      have hkI : (k : Int) < (s.size : Int) := by omega
      cases hsp : al c
      · have hF : Hid (made al s.data.toList = false) := made_no hmem.out hsp
        rcases al_no hsp with (h | ⟨h1, h2⟩) | ⟨h1, h2⟩ | h
        · have n1 : (c.toNat : Int) < 97 := by omega
          have n2 : (c.toNat : Int) < 65 := by omega
          have n3 : (c.toNat : Int) < 48 := by omega
          clear hsp h
          go_wp2_with fail
          go_ret
          exact ⟨ret_bool (by rw [hF.out]), rfl⟩
        · have n1 : (c.toNat : Int) < 97 := by omega
          have n2 : (c.toNat : Int) < 65 := by omega
          have n3 : ¬ (c.toNat : Int) < 48 := by omega
          have n4 : (57 : Int) < (c.toNat : Int) := by omega
          clear hsp h1 h2
          go_wp2_with fail
          go_ret
          exact ⟨ret_bool (by rw [hF.out]), rfl⟩
        · have n1 : (c.toNat : Int) < 97 := by omega
          have n2 : ¬ (c.toNat : Int) < 65 := by omega
          have n5 : (90 : Int) < (c.toNat : Int) := by omega
          have n3 : ¬ (c.toNat : Int) < 48 := by omega
          have n4 : (57 : Int) < (c.toNat : Int) := by omega
          clear hsp h1 h2
          go_wp2_with fail
          go_ret
          exact ⟨ret_bool (by rw [hF.out]), rfl⟩
        · have n1 : ¬ (c.toNat : Int) < 97 := by omega
          have n6 : (122 : Int) < (c.toNat : Int) := by omega
          have n2 : ¬ (c.toNat : Int) < 65 := by omega
          have n5 : (90 : Int) < (c.toNat : Int) := by omega
          have n3 : ¬ (c.toNat : Int) < 48 := by omega
          have n4 : (57 : Int) < (c.toNat : Int) := by omega
          clear hsp h
          go_wp2_with fail
          go_ret
          exact ⟨ret_bool (by rw [hF.out]), rfl⟩
      · have hn : Hid ((s.data.toList.take (k + 1)).all al = true) := by
          show _ = _
          rw [htk.out, List.all_append, hno.out]; simp [hsp]
        rcases al_yes hsp with ⟨h1, h2⟩ | ⟨h1, h2⟩ | ⟨h1, h2⟩
        · have n1 : (c.toNat : Int) < 97 := by omega
          have n2 : (c.toNat : Int) < 65 := by omega
          have n3 : ¬ (c.toNat : Int) < 48 := by omega
          have n4 : ¬ (57 : Int) < (c.toNat : Int) := by omega
          clear hsp h1 h2
          go_wp2_with fail
          exact ⟨⟨k + 1, by omega, by go_num, hn⟩, by simp [intOf]; omega⟩
        · have n1 : (c.toNat : Int) < 97 := by omega
          have n2 : ¬ (c.toNat : Int) < 65 := by omega
          have n5 : ¬ (90 : Int) < (c.toNat : Int) := by omega
          clear hsp h1 h2
          go_wp2_with fail
          exact ⟨⟨k + 1, by omega, by go_num, hn⟩, by simp [intOf]; omega⟩
        · have n1 : ¬ (c.toNat : Int) < 97 := by omega
          have n6 : ¬ (122 : Int) < (c.toNat : Int) := by omega
          clear hsp h1 h2
          go_wp2_with fail
          exact ⟨⟨k + 1, by omega, by go_num, hn⟩, by simp [intOf]; omega⟩
    · obtain rfl : k = s.size := by omega
      have hT : Hid (made al s.data.toList = decide ((0 : Int) < (s.size : Int))) := by
        show _ = _
        have := hno.out
        rw [List.take_of_length_le (by rw [size_list]; omega)] at this
        rw [made_all this, ← size_list]; cases s.data.toList <;> simp <;> omega
      go_wp2_with fail
      go_ret
      exact ⟨ret_bool (by rw [hT.out]; simp), rfl⟩
theorem sc_no {c : UInt8} (h : sc c = false) : c.toNat < 32 ∨ c = 91 ∨ c = 93 := by
  unfold sc at h
  simp only [decide_eq_false_iff_not] at h
  by_cases h1 : c.toNat = 91
  · exact .inr (.inl (UInt8.toNat_inj.1 h1))
  · by_cases h2 : c.toNat = 93
    · exact .inr (.inr (UInt8.toNat_inj.1 h2))
    · left; omega
theorem sc_yes {c : UInt8} (h : sc c = true) : 32 ≤ c.toNat ∧ c ≠ 91 ∧ c ≠ 93 := by
  unfold sc at h
  simp only [decide_eq_true_eq] at h
  exact ⟨h.1, fun e => h.2.1 (by rw [e]; rfl), fun e => h.2.2 (by rw [e]; rfl)⟩
set_option maxHeartbeats 4000000 in
theorem rsection_any (s : ByteArray) (w : World) (hs : s.size ≤ 1000000) :
    Calls Tryd.prog 60 #[.string s] w fun e w' => e = .returned (.bool (made sc s.data.toList)) ∧ w' = w := by
  go_enter Tryd.func60, Tryd.ntmps60
  go_wp2_with fail
  go_loop [3] (fun i => ∃ k : Nat, k ≤ s.size ∧ i = .int .i64 k ∧ Hid ((s.data.toList.take k).all sc = true)) (fun i => s.size - (intOf i).toNat)
  case atStart => exact ⟨0, by omega, rfl, rfl⟩
  case round =>
    obtain ⟨k, hk, rfl, hno⟩ := hrel
    by_cases hlt : k < s.size
    · have htk : Hid (s.data.toList.take (k + 1) = s.data.toList.take k ++ [s[k]]) := by
        show _ = _
        rw [List.take_add_one, get_list s k hlt]; rfl
      have hmem : Hid (s[k] ∈ s.data.toList) := List.mem_of_getElem? (get_list s k hlt)
      obtain ⟨c, hc⟩ : ∃ c, s[k] = c := ⟨_, rfl⟩
      rw [hc] at htk hmem
      have hkI : (k : Int) < (s.size : Int) := by omega
      cases hsp : sc c
      · have hF : Hid (made sc s.data.toList = false) := made_no hmem.out hsp
        have hh := sc_no hsp
        by_cases h1 : c = 91
        · have n1 : (c.toNat : Int) = 91 := by rw [h1]; rfl
          clear hsp hh h1
          go_wp2_with fail
          go_ret
          exact ⟨ret_bool (by rw [hF.out]), rfl⟩
        have n1 : ((c.toNat : Int) == 91) = false := beq8 c 91 h1
        by_cases h2 : c = 93
        · have n2 : (c.toNat : Int) = 93 := by rw [h2]; rfl
          clear hsp hh h1 h2 n1
          go_wp2_with fail
          go_ret
          exact ⟨ret_bool (by rw [hF.out]), rfl⟩
        have n2 : ((c.toNat : Int) == 93) = false := beq8 c 93 h2
        have h3 : c.toNat < 32 := by
          rcases hh with h | h | h
          · exact h
          · exact absurd h h1
          · exact absurd h h2
        have n3 : (c.toNat : Int) < 32 := by omega
        clear hsp hh h1 h2 h3
        go_wp2_with fail
        go_ret
        exact ⟨ret_bool (by rw [hF.out]), rfl⟩
      · have hn : Hid ((s.data.toList.take (k + 1)).all sc = true) := by
          show _ = _
          rw [htk.out, List.all_append, hno.out]; simp [hsp]
        obtain ⟨h1, h2, h3⟩ := sc_yes hsp
        have n1 : ((c.toNat : Int) == 91) = false := beq8 c 91 h2
        have n2 : ((c.toNat : Int) == 93) = false := beq8 c 93 h3
        have n3 : ¬ (c.toNat : Int) < 32 := by omega
        clear hsp h1 h2 h3
        go_wp2_with fail
        exact ⟨⟨k + 1, by omega, by go_num, hn⟩, by simp [intOf]; omega⟩
    · obtain rfl : k = s.size := by omega
      have hT : Hid (made sc s.data.toList = decide ((0 : Int) < (s.size : Int))) := by
        show _ = _
        have := hno.out
        rw [List.take_of_length_le (by rw [size_list]; omega)] at this
        rw [made_all this, ← size_list]; cases s.data.toList <;> simp <;> omega
      go_wp2_with fail
      go_ret
      exact ⟨ret_bool (by rw [hT.out]; simp), rfl⟩
end Go.Proofs.YtiinhfbfciccnaaDoor
/- The contract of the reference's line. -/
namespace Go.Proofs.YtiinhfbfciccnaaDoor
open Go.RowKit Lin
/-- What the reference tells of a line. -/
def RlP (o : Option Kv) (n : Nat) (w : World) (e : Ending) (w' : World) : Prop := match o with
  | some p => e = .returned (.tuple #[.agg #[.int .i64 p.1, .string ⟨p.2.1.toArray⟩, .string ⟨p.2.2.toArray⟩, .int .i64 n], .bool true]) ∧ Below w.heap.size w w'
  | none => (∃ k a b d, e = .returned (.tuple #[.agg #[.int .i64 k, .string a, .string b, .int .i64 d], .bool false])) ∧ Below w.heap.size w w'
theorem RlP.yes {o : Option Kv} {n : Nat} {w w' : World} {e : Ending} {k : Nat} {A B : ByteArray} (h : o = some (k, A.data.toList, B.data.toList)) (he : e = .returned (.tuple #[.agg #[.int .i64 k, .string A, .string B, .int .i64 n], .bool true])) (hb : Below w.heap.size w w') : RlP o n w e w' := by
  rw [h]
  refine ⟨?_, hb⟩
  rw [he]
theorem RlP.no {o : Option Kv} {n : Nat} {w w' : World} {e : Ending} {k d : Int} {A B : ByteArray} (h : o = none) (he : e = .returned (.tuple #[.agg #[.int .i64 k, .string A, .string B, .int .i64 d], .bool false])) (hb : Below w.heap.size w w') : RlP o n w e w' := by
  rw [h]
  exact ⟨⟨k, A, B, d, he⟩, hb⟩
theorem brk_no {t : L} (h : t.length < 2 ∨ t.head? ≠ some 91 ∨ t.getLast? ≠ some 93) : brk t = false := by
  unfold brk
  rcases h with h | h | h
  · rw [show decide (2 ≤ t.length) = false from decide_eq_false (by omega)]; rfl
  · rw [show (t.head? == some 91) = false by simpa using h]; simp
  · rw [show (t.getLast? == some 93) = false by simpa using h]; simp
theorem last_get (t : L) (n : Nat) (h : t.length = n + 1) : t.getLast? = t[n]? := by rw [List.getLast?_eq_getElem?, h]; rfl
set_option maxRecDepth 100000 in
set_option maxHeartbeats 4000000 in
theorem rline_sec (s T : ByteArray) (n N : Nat) (w : World) (hs : s.size ≤ 1000000) (hT : trim s.data.toList = T.data.toList) (hN : T.size = N + 1) (h1 : 1 ≤ N) (hN2 : N ≤ 1000000) (g0 : T.data.toList[0]? = some 91) (gN : T.data.toList[N]? = some 93) :
    Calls Tryd.prog 39 #[.string s, .int .i64 n] w (RlP (prs s.data.toList) n w) := by
  have htr := rtrim_any s
  rw [hT, Lib.mk_data] at htr
  have htr' : Hid (∀ w, Calls Tryd.prog 38 #[.string s] w fun e w' => e = .returned (.string T) ∧ w' = w) := fun w => htr w hs
  have hbk : brk (trim s.data.toList) = true := by
    unfold brk
    rw [hT, size_list, List.head?_eq_getElem?, g0, last_get _ N (by rw [size_list]; exact hN), gN]
    simp; omega
  obtain ⟨K, hK⟩ : ∃ K, T.extract 1 N = K := ⟨_, rfl⟩
  have hKl : K.data.toList = (T.data.toList.drop 1).take (N - 1) := by rw [← hK, Lib.extract_data]
  have hP := prs_brk hbk
  rw [hT, size_list, hN, show N + 1 - 2 = N - 1 by omega, ← hKl] at hP
  have hPH : Hid (prs s.data.toList = if made sc K.data.toList then some (1, K.data.toList, []) else none) := hP
  have hKz : K.size ≤ 1000000 := by
    rw [← size_list, hKl, List.length_take]; omega
  have hse := fun w => rsection_any K w hKz
  have hl0 : (0 : Int) < (T.size : Int) := by omega
  have h0lt : 0 < T.size := by omega
  have hNlt : N < T.size := by omega
  have c0 : T[0]'h0lt = 91 := by
    have := get_list T 0 h0lt
    rw [g0] at this; exact (Option.some.inj this).symm
  have cN : T[N]'hNlt = 93 := by
    have := get_list T N hNlt
    rw [gN] at this; exact (Option.some.inj this).symm
  have hNI : (T.size : Int) = (N : Int) + 1 := by omega
  have hN1 : (1 : Int) ≤ (N : Int) := by omega
  have hNle : Hid ((N : Int) ≤ (T.size : Int)) := by show (N : Int) ≤ _; omega
  clear htr hT hbk hKl hP g0 gN hKz hN
  cases hm : made sc K.data.toList
  · rw [hm] at hse
    have hse' : Hid (∀ w, Calls Tryd.prog 60 #[.string K] w fun e w' => e = .returned (.bool false) ∧ w' = w) := hse
    have hR : Hid (prs s.data.toList = none) := by show _ = _; rw [hPH.out, hm]; rfl
    clear hse hm hPH
    go_enter Tryd.func39, Tryd.ntmps39
    go_wp2_with fail
    refine (htr'.out _).mono ?_
    rintro e w1 ⟨rfl, rfl⟩
    go_wp2_with fail
    clear hNI
    have hNle' := hNle.out
    have hkw : IntKind.i64.wrap (N : Int) = (N : Int) := wrap_small _ (by omega) (by omega)
    have hb9 : Below w.heap.size w (w.alloc (.cells #[.int .i64 1, .string K, .string ⟨#[]⟩, .int .i64 n] 60)) := (Below.refl _ _).alloc (Nat.le_refl _) _
    go_region_with (go_at_call 60; refine (hse'.out _).mono ?_; rintro e w' ⟨rfl, rfl⟩)
    all_goals
      go_wp2_with fail
      refine bodyPost_ret (v := .tuple #[.agg #[.int .i64 1, .string K, .string ⟨#[]⟩, .int .i64 n], .bool false]) (by simp [results, Tryd.results39, go_sem]) rfl ?_
      exact RlP.no hR.out rfl (below_drewN hb9 1)
  · rw [hm] at hse
    have hse' : Hid (∀ w, Calls Tryd.prog 60 #[.string K] w fun e w' => e = .returned (.bool true) ∧ w' = w) := hse
    have hR : Hid (prs s.data.toList = some (1, K.data.toList, (⟨#[]⟩ : ByteArray).data.toList)) := by show _ = _; rw [hPH.out, hm]; rfl
    clear hse hm hPH
    go_enter Tryd.func39, Tryd.ntmps39
    go_wp2_with fail
    refine (htr'.out _).mono ?_
    rintro e w1 ⟨rfl, rfl⟩
    go_wp2_with fail
    clear hNI
    have hNle' := hNle.out
    have hkw : IntKind.i64.wrap (N : Int) = (N : Int) := wrap_small _ (by omega) (by omega)
    have hb9 : Below w.heap.size w (w.alloc (.cells #[.int .i64 1, .string K, .string ⟨#[]⟩, .int .i64 n] 60)) := (Below.refl _ _).alloc (Nat.le_refl _) _
    go_region_with (go_at_call 60; refine (hse'.out _).mono ?_; rintro e w' ⟨rfl, rfl⟩)
    all_goals
      go_wp2_with fail
      refine bodyPost_ret (v := .tuple #[.agg #[.int .i64 1, .string K, .string ⟨#[]⟩, .int .i64 n], .bool true]) (by simp [results, Tryd.results39, go_sem]) rfl ?_
      exact RlP.yes hR.out rfl (below_drewN hb9 1)
end Go.Proofs.YtiinhfbfciccnaaDoor
/- The contract of the reference's line: settings, and all. -/
namespace Go.Proofs.YtiinhfbfciccnaaDoor
open Go.RowKit Lin
theorem split_at {l : L} {m : Nat} {c : UInt8} (h : l[m]? = some c) : l = l.take m ++ c :: l.drop (m + 1) := by
  obtain ⟨hl, hc⟩ := List.getElem?_eq_some_iff.1 h
  have := List.drop_eq_getElem_cons hl
  rw [hc] at this
  rw [← this, List.take_append_drop]
set_option maxRecDepth 100000 in
set_option maxHeartbeats 8000000 in
theorem rline_set (s T : ByteArray) (n : Nat) (w : World) (hs : s.size ≤ 1000000) (hT : trim s.data.toList = T.data.toList) (hTz : T.size ≤ 1000000)
    (hB : brk T.data.toList = false) (hq : T.size < 2 ∨ (∃ c, 2 ≤ T.size ∧ T.data.toList[0]? = some c ∧ c ≠ 91) ∨ ∃ N c, T.size = N + 1 ∧ 1 ≤ N ∧ T.data.toList[0]? = some 91 ∧ T.data.toList[N]? = some c ∧ c ≠ 93) :
    Calls Tryd.prog 39 #[.string s, .int .i64 n] w (RlP (prs s.data.toList) n w) := by
  have htr := rtrim_any s
  rw [hT, Lib.mk_data] at htr
  have htr' : Hid (∀ w, Calls Tryd.prog 38 #[.string s] w fun e w' => e = .returned (.string T) ∧ w' = w) := fun w => htr w hs
  rw [← hT] at hB
  have hNo : Hid ((∀ x ∈ T.data.toList, x ≠ 61) → prs s.data.toList = none) := fun h => prs_no hB (by rw [hT]; exact h)
  have hYes : Hid (∀ m, T.data.toList[m]? = some 61 → (∀ x ∈ T.data.toList.take m, x ≠ 61) → prs s.data.toList = if made al (trim (T.data.toList.take m)) then some (2, trim (T.data.toList.take m), trim (T.data.toList.drop (m + 1))) else none) := fun m hm h => prs_eq hB (by rw [hT]; exact split_at hm) h
  have hb9 : Hid (∀ a b c d, Below w.heap.size w (w.alloc (.cells #[a, b, c, d] 60))) := fun a b c d => (Below.refl _ _).alloc (Nat.le_refl _) _
  have hq' : ¬ ((2 : Int) ≤ (T.size : Int)) ∨ (∃ c : UInt8, ∃ h0 : 0 < T.size, (2 : Int) ≤ (T.size : Int) ∧ T[0] = c ∧ ((c.toNat : Int) == 91) = false) ∨ ∃ (N : Nat) (c : UInt8), ∃ h0 : 0 < T.size, ∃ hN : N < T.size, (T.size : Int) = (N : Int) + 1 ∧ 1 ≤ (N : Int) ∧ T[0] = 91 ∧ T[N] = c ∧ ((c.toNat : Int) == 93) = false := by
    rcases hq with h | ⟨c, h2, hc, hne⟩ | ⟨N, c, hN, h1, hc0, hc, hne⟩
    · left; omega
    · right; left
      refine ⟨c, by omega, by omega, ?_, beq8 c 91 hne⟩
      have := get_list T 0 (by omega)
      rw [hc] at this; exact (Option.some.inj this).symm
    · right; right
      refine ⟨N, c, by omega, by omega, by omega, by omega, ?_, ?_, beq8 c 93 hne⟩
      · have := get_list T 0 (by omega)
        rw [hc0] at this; exact (Option.some.inj this).symm
      · have := get_list T N (by omega)
        rw [hc] at this; exact (Option.some.inj this).symm
  clear htr hT hB hq
  rcases hq' with h2I | ⟨c1, h0, h2I, hc1, hn1⟩ | ⟨N, c1, h0, hNl, hNI, h1N, hc0, hc1, hn1⟩
  all_goals
    go_enter Tryd.func39, Tryd.ntmps39
    go_wp2_with fail
    refine (htr'.out _).mono ?_
    rintro e w1 ⟨rfl, rfl⟩
    go_wp2_with fail
    go_loop [8] (fun i => ∃ m : Nat, m ≤ T.size ∧ i = .int .i64 m ∧ Hid (∀ x ∈ T.data.toList.take m, x ≠ 61)) (fun i => T.size - (intOf i).toNat)
    case atStart => exact ⟨0, by omega, rfl, fun x hx => by simp at hx⟩
    case round =>
      obtain ⟨m, hm, rfl, hno⟩ := hrel
      by_cases hlt : m < T.size
      · have hg := get_list T m hlt
        have htk : Hid (T.data.toList.take (m + 1) = T.data.toList.take m ++ [T[m]]) := by
          show _ = _
          rw [List.take_add_one, hg]; rfl
        obtain ⟨c, hc⟩ : ∃ c, T[m] = c := ⟨_, rfl⟩
        rw [hc] at hg htk
        have hmI : (m : Int) < (T.size : Int) := by omega
        by_cases h61 : c = 61
        · have hcI : (c.toNat : Int) = 61 := by rw [h61]; rfl
          rw [h61] at hg
          have hP := hYes.out m hg hno.out
          obtain ⟨A, hA⟩ : ∃ A, T.extract 0 m = A := ⟨_, rfl⟩
          obtain ⟨B, hB⟩ : ∃ B, T.extract (m + 1) T.size = B := ⟨_, rfl⟩
          have hAl : A.data.toList = T.data.toList.take m := by rw [← hA, Lib.extract_data]; simp
          have hBl : B.data.toList = T.data.toList.drop (m + 1) := by rw [← hB, Lib.extract_data, List.take_of_length_le]; rw [List.length_drop, size_list]; omega
          have hAz : A.size ≤ 1000000 := by rw [← size_list, hAl, List.length_take, size_list]; omega
          have hBz : B.size ≤ 1000000 := by rw [← size_list, hBl, List.length_drop, size_list]; omega
          rw [← hAl, ← hBl] at hP
          have hta := fun w => rtrim_any A w hAz
          have htb := fun w => rtrim_any B w hBz
          have hkz := trim_len A.data.toList
          rw [size_list] at hkz
          revert hP hta htb hkz
          generalize trim A.data.toList = ka
          generalize trim B.data.toList = vb
          intro hP hta htb hkz
          obtain ⟨K, rfl, hKz, hKe⟩ := letters ka
          obtain ⟨V, rfl, _, hVe⟩ := letters vb
          rw [hKe] at hta
          rw [hVe] at htb
          have hky := fun w => rkey_any K w (by rw [size_list] at hkz; omega)
          have hta' : Hid (∀ w, Calls Tryd.prog 38 #[.string A] w fun e w' => e = .returned (.string K) ∧ w' = w) := hta
          have htb' : Hid (∀ w, Calls Tryd.prog 38 #[.string B] w fun e w' => e = .returned (.string V) ∧ w' = w) := htb
          have hPH : Hid (prs s.data.toList = if made al K.data.toList then some (2, K.data.toList, V.data.toList) else none) := hP
          have x1 : (m : Int) ≤ (T.size : Int) := by omega
          have x2 : (m : Int) + 1 ≤ (T.size : Int) := by omega
          clear hta htb hP hKe hVe hKz hkz hAl hBl hAz hBz hg h61 htk hno
          cases hmd : made al K.data.toList
          · rw [hmd] at hky
            have hky' : Hid (∀ w, Calls Tryd.prog 61 #[.string K] w fun e w' => e = .returned (.bool false) ∧ w' = w) := hky
            have hR : Hid (prs s.data.toList = none) := by show _ = _; rw [hPH.out, hmd]; rfl
            have hb := hb9.out (.int .i64 2) (.string K) (.string V) (.int .i64 n)
            clear hky hmd hPH
            go_wp2_with (first | (go_at_call_of 38 (Value.string A); refine (hta'.out _).mono ?_; rintro e w' ⟨rfl, rfl⟩) | (go_at_call_of 38 (Value.string B); refine (htb'.out _).mono ?_; rintro e w' ⟨rfl, rfl⟩) | (go_at_call 61; refine (hky'.out _).mono ?_; rintro e w' ⟨rfl, rfl⟩))
            refine bodyPost_ret (v := .tuple #[.agg #[.int .i64 2, .string K, .string V, .int .i64 n], .bool false]) (by simp [results, Tryd.results39, go_sem]) rfl ?_
            exact RlP.no hR.out rfl hb
          · rw [hmd] at hky
            have hky' : Hid (∀ w, Calls Tryd.prog 61 #[.string K] w fun e w' => e = .returned (.bool true) ∧ w' = w) := hky
            have hR : Hid (prs s.data.toList = some (2, K.data.toList, V.data.toList)) := by show _ = _; rw [hPH.out, hmd]; rfl
            have hb := hb9.out (.int .i64 2) (.string K) (.string V) (.int .i64 n)
            clear hky hmd hPH
            go_wp2_with (first | (go_at_call_of 38 (Value.string A); refine (hta'.out _).mono ?_; rintro e w' ⟨rfl, rfl⟩) | (go_at_call_of 38 (Value.string B); refine (htb'.out _).mono ?_; rintro e w' ⟨rfl, rfl⟩) | (go_at_call 61; refine (hky'.out _).mono ?_; rintro e w' ⟨rfl, rfl⟩))
            refine bodyPost_ret (v := .tuple #[.agg #[.int .i64 2, .string K, .string V, .int .i64 n], .bool true]) (by simp [results, Tryd.results39, go_sem]) rfl ?_
            exact RlP.yes hR.out rfl hb
        · have hcI : ((c.toNat : Int) == 61) = false := beq8 c 61 h61
          have hno2 : Hid (∀ x ∈ T.data.toList.take (m + 1), x ≠ 61) := by
            show ∀ x ∈ _, _
            rw [htk.out]
            intro x hx
            rcases List.mem_append.1 hx with h | h
            · exact hno.out x h
            · have : x = c := by simpa using h
              rw [this]; exact h61
          clear hg h61 htk hno
          go_wp2_with fail
          exact ⟨⟨m + 1, by omega, by go_num, hno2⟩, by simp [intOf]; omega⟩
      · obtain rfl : m = T.size := by omega
        have hmI : ¬ ((T.size : Int) < (T.size : Int)) := by omega
        have hR : Hid (prs s.data.toList = none) := by
          refine hNo.out ?_
          have := hno.out
          rwa [List.take_of_length_le (by rw [size_list]; omega)] at this
        have hb := hb9.out (.int .i64 0) (.string ⟨#[]⟩) (.string ⟨#[]⟩) (.int .i64 0)
        go_wp2_with fail
        refine bodyPost_ret (v := .tuple #[.agg #[.int .i64 0, .string ⟨#[]⟩, .string ⟨#[]⟩, .int .i64 0], .bool false]) (by simp [results, Tryd.results39, go_sem]) rfl ?_
        exact RlP.no hR.out rfl hb
theorem rline_any (s : ByteArray) (n : Nat) (w : World) (hs : s.size ≤ 1000000) : Calls Tryd.prog 39 #[.string s, .int .i64 n] w (RlP (prs s.data.toList) n w) := by
  have hl := trim_len s.data.toList
  obtain ⟨T, hT, hTz, _⟩ := letters (trim s.data.toList)
  rw [size_list, ← hTz] at hl
  have hlen : T.data.toList.length = T.size := size_list T
  by_cases h2 : T.size < 2
  · exact rline_set s T n w hs hT.symm (by omega) (brk_no (.inl (by omega))) (.inl h2)
  obtain ⟨c0, hc0⟩ : ∃ c, T.data.toList[0]? = some c := ⟨_, List.getElem?_eq_getElem (by omega)⟩
  by_cases h0 : c0 = 91
  · obtain ⟨N, hN⟩ : ∃ N, T.size = N + 1 := ⟨T.size - 1, by omega⟩
    obtain ⟨cN, hcN⟩ : ∃ c, T.data.toList[N]? = some c := ⟨_, List.getElem?_eq_getElem (by omega)⟩
    by_cases h9 : cN = 93
    · exact rline_sec s T n N w hs hT.symm hN (by omega) (by omega) (by rw [hc0, h0]) (by rw [hcN, h9])
    · refine rline_set s T n w hs hT.symm (by omega) (brk_no (.inr (.inr ?_))) (.inr (.inr ⟨N, cN, hN, by omega, by rw [hc0, h0], hcN, h9⟩))
      rw [last_get _ N (by omega), hcN]
      exact fun e => h9 (Option.some.inj e)
  · refine rline_set s T n w hs hT.symm (by omega) (brk_no (.inr (.inl ?_))) (.inr (.inl ⟨c0, by omega, hc0, h0⟩))
    rw [List.head?_eq_getElem?, hc0]
    exact fun e => h0 (Option.some.inj e)
end Go.Proofs.YtiinhfbfciccnaaDoor
/- Plain mathematics: words, by places. -/
namespace Go.Proofs.YtiinhfbfciccnaaDoor.Lin
theorem drop_at {l : L} {i : Nat} {c : UInt8} (h : l[i]? = some c) : l.drop i = c :: l.drop (i + 1) := by
  obtain ⟨h1, h2⟩ := List.getElem?_eq_some_iff.1 h
  rw [List.drop_eq_getElem_cons h1, h2]
theorem spl_blank {l : L} {i : Nat} {c : UInt8} (h : l[i]? = some c) (hc : bl c = true) : spl (l.drop i) = spl (l.drop (i + 1)) := by
  rw [spl_eq, spl_eq, drop_at h, trimL_blank _ _ hc]
theorem spl_end (l : L) : spl (l.drop l.length) = some [] := by
  rw [List.drop_length]; rfl
theorem spl_quote {l : L} {i : Nat} {c : UInt8} (h : l[i]? = some c) (hb : bl c = false) (hq : c = 34 ∨ c = 39) : spl (l.drop i) = (cutQ c (l.drop (i + 1))).bind fun p => if bat p.2 = 0 then (spl p.2).map (p.1 :: ·) else none := by
  rw [spl_eq, drop_at h, trimL_word _ _ hb, spl0_cons hb]
  simp only [cutW]
  rw [if_pos hq]
  cases cutQ c (l.drop (i + 1)) with
  | none => rfl
  | some p =>
    simp only [Option.bind_some]
    by_cases h0 : bat p.2 = 0
    · rw [if_pos h0, if_pos h0, Option.bind_some, spl_eq]
    · rw [if_neg h0, if_neg h0]; rfl
theorem bat_at {l : L} {m : Nat} (hm : m ≤ l.length) (h : ∀ c ∈ l.take m, bl c = false) (he : m = l.length ∨ ∃ c, l[m]? = some c ∧ bl c = true) : bat l = m := by
  have h1 := bat_word (l.take m) (l.drop m) h (by
    rcases he with rfl | ⟨c, hc, hb⟩
    · rw [List.drop_length]; rfl
    · rw [drop_at hc]; exact bat_blank _ _ hb)
  rwa [List.take_append_drop, List.length_take, Nat.min_eq_left hm] at h1
theorem spl_plain {l : L} {f i : Nat} {c : UInt8} (h : l[f]? = some c) (hb : bl c = false) (hq : ¬ (c = 34 ∨ c = 39)) (hfi : f ≤ i) (hi : i ≤ l.length) (hno : ∀ d ∈ (l.drop f).take (i - f), bl d = false) (he : i = l.length ∨ ∃ d, l[i]? = some d ∧ bl d = true) :
    spl (l.drop f) = (spl (l.drop i)).map ((l.drop f).take (i - f) :: ·) := by
  have hbat : bat (l.drop f) = i - f := by
    refine bat_at (by rw [List.length_drop]; omega) hno ?_
    rcases he with rfl | ⟨d, hd, hbd⟩
    · exact .inl (by rw [List.length_drop])
    · refine .inr ⟨d, ?_, hbd⟩
      rw [List.getElem?_drop, show f + (i - f) = i by omega]; exact hd
  have hdd : (l.drop f).drop (i - f) = l.drop i := by rw [List.drop_drop, show f + (i - f) = i by omega]
  rw [spl_eq]
  have e := drop_at h
  rw [e] at hbat hdd ⊢
  rw [trimL_word _ _ hb, spl0_cons hb]
  simp only [cutW]
  rw [if_neg hq, Option.bind_some, hbat, hdd, ← spl_eq]
theorem cutQ_step {l : L} {q : UInt8} {i : Nat} {c : UInt8} (h : l[i]? = some c) (h1 : c ≠ q) (h2 : c ≠ 92) : cutQ q (l.drop i) = (cutQ q (l.drop (i + 1))).map fun p => (c :: p.1, p.2) := by
  rw [drop_at h, cutQ_plain q c _ h1 h2]
theorem cutQ_stepE {l : L} {q : UInt8} {i : Nat} {d m : UInt8} (hq : q ≠ 92) (h : l[i]? = some 92) (hd : l[i + 1]? = some d) (hm : es1 d = some m) : cutQ q (l.drop i) = (cutQ q (l.drop (i + 1 + 1))).map fun p => (m :: p.1, p.2) := by
  rw [drop_at h, drop_at hd, cutQ_bs q d _ hq, hm]; rfl
theorem cutQ_stepN {l : L} {q : UInt8} {i : Nat} (hq : q ≠ 92) (h : l[i]? = some 92) (hd : l[i + 1]? = none ∨ ∃ d, l[i + 1]? = some d ∧ es1 d = none) : cutQ q (l.drop i) = none := by
  rw [drop_at h]
  rcases hd with hd | ⟨d, hd, he⟩
  · rw [List.drop_of_length_le (by rw [List.getElem?_eq_none_iff] at hd; exact hd)]; exact cutQ_bs0 q hq
  · rw [drop_at hd, cutQ_bs q d _ hq, he]; rfl
theorem cutQ_fin {l : L} {q : UInt8} {i : Nat} (h : l[i]? = some q) : cutQ q (l.drop i) = some ([], l.drop (i + 1)) := by rw [drop_at h, cutQ_end]
theorem cutQ_none (q : UInt8) (l : L) : cutQ q (l.drop l.length) = none := by rw [List.drop_length]; rfl
theorem bat_drop0 {l : L} {i : Nat} (h : i = l.length ∨ ∃ c, l[i]? = some c ∧ bl c = true) : bat (l.drop i) = 0 := by
  rcases h with rfl | ⟨c, hc, hb⟩
  · rw [List.drop_length]; rfl
  · rw [drop_at hc]; exact bat_blank _ _ hb
theorem bat_dropN {l : L} {i : Nat} {c : UInt8} (h : l[i]? = some c) (hb : bl c = false) : bat (l.drop i) ≠ 0 := by
  rw [drop_at h]
  have := bat_cons_pos (l.drop (i + 1)) hb
  omega
theorem es1_n : es1 110 = some 10 := rfl
theorem es1_q {d : UInt8} (h : d = 34 ∨ d = 39 ∨ d = 92) : es1 d = some d := by unfold es1; rw [if_pos h]
theorem es1_none {d : UInt8} (h1 : d ≠ 34) (h2 : d ≠ 39) (h3 : d ≠ 92) (h4 : d ≠ 110) : es1 d = none := by
  unfold es1
  rw [if_neg (by rintro (h | h | h); exact h1 h; exact h2 h; exact h3 h), if_neg h4]
end Go.Proofs.YtiinhfbfciccnaaDoor.Lin
/- Small laws of bytes and words. -/
namespace Go.Proofs.YtiinhfbfciccnaaDoor
open Go.RowKit Lin
theorem mapP (X : List L) (y : L) (o : Option (List L)) : (o.map (y :: ·)).map (X ++ ·) = o.map ((X ++ [y]) ++ ·) := by cases o <;> simp
theorem mapQ (Y : L) (c : UInt8) (o : Option (L × L)) : (o.map fun p => (c :: p.1, p.2)).map (fun p => (Y ++ p.1, p.2)) = o.map fun p => ((Y ++ [c]) ++ p.1, p.2) := by cases o <;> simp
theorem bne8 (c d : UInt8) (h : c ≠ d) : ((c.toNat : Int) != (d.toNat : Int)) = true := by rw [bne, beq8 c d h]; rfl
theorem beq_size {i n : Nat} (h : i < n) : ((i : Int) == (n : Int)) = false := by simp; omega
theorem strs_snoc (X : List L) (A : ByteArray) : strs (X ++ [A.data.toList]) = strs X ++ [.string A] := by
  unfold strs
  rw [List.map_append]
  show _ ++ [Value.string ⟨A.data.toList.toArray⟩] = _
  rw [Lib.mk_data]
end Go.Proofs.YtiinhfbfciccnaaDoor
/- The contract of the reference's raw. -/
namespace Go.Proofs.YtiinhfbfciccnaaDoor
open Go.RowKit Lin
theorem pieces_cut {l X : List UInt8} {Y : List L} {f i : Nat} (h : pieces l = Y ++ pieces (l.drop f)) (hX : X = (l.drop f).take (i - f)) (hfi : f ≤ i) (hno : ∀ (j : Nat) c, f ≤ j → j < i → l[j]? = some c → c ≠ 10) (hc : l[i]? = some 10) : pieces l = (Y ++ [X]) ++ pieces (l.drop (i + 1)) := by
  have hd : l.drop f = X ++ 10 :: l.drop (i + 1) := by
    obtain ⟨hl, hc'⟩ := List.getElem?_eq_some_iff.1 hc
    have h1 := List.drop_eq_getElem_cons hl
    rw [hc'] at h1
    rw [← h1, hX]
    have h2 : l.drop i = (l.drop f).drop (i - f) := by rw [List.drop_drop]; congr 1; omega
    rw [h2, List.take_append_drop]
  have hn : ∀ x ∈ X, x ≠ 10 := by
    intro x hx
    rw [hX] at hx
    obtain ⟨j, hj⟩ := List.mem_iff_getElem?.1 hx
    have hjl : j < i - f := by
      have := (List.getElem?_eq_some_iff.1 hj).1
      rw [List.length_take] at this; omega
    rw [List.getElem?_take_of_lt hjl, List.getElem?_drop] at hj
    exact hno (f + j) x (by omega) (by omega) hj
  rw [h, hd, pieces_split _ _ hn]
  simp
theorem pieces_last {l : List UInt8} {Y : List L} {f : Nat} (h : pieces l = Y ++ pieces (l.drop f)) (hno : ∀ (j : Nat) c, f ≤ j → j < l.length → l[j]? = some c → c ≠ 10) : pieces l = Y ++ [l.drop f] := by
  rw [h, pieces_none]
  intro x hx
  obtain ⟨j, hj⟩ := List.mem_iff_getElem?.1 hx
  rw [List.getElem?_drop] at hj
  exact hno (f + j) x (by omega) (List.getElem?_eq_some_iff.1 hj).1 hj
set_option maxRecDepth 100000 in
set_option maxHeartbeats 8000000 in
theorem raw_any (s : ByteArray) (w : World) (hs : s.size ≤ 1000000) :
    Calls Tryd.prog 37 #[.string s] w fun e w' => ∃ v, e = .returned v ∧ w'.ownsRow w.heap.size 9 1 v (pieces s.data.toList).length (strs (pieces s.data.toList)) ∧ Below w.heap.size w w' ∧ (pieces s.data.toList).length ≤ s.size + 1 := by
  obtain ⟨i0, hinf, hz0, hz1, hz2⟩ := info_parts infoS
  go_enter Tryd.func37, Tryd.ntmps37
  go_wp2_with fail
  go_loopw [3, 4, 5] (fun v fr i wr => ∃ (f k : Nat) (X : List L), f ≤ k ∧ k ≤ s.size ∧ fr = .int .i64 f ∧ i = .int .i64 k ∧ X.length ≤ k ∧ Hid (pieces s.data.toList = X ++ pieces (s.data.toList.drop f)) ∧ Hid (∀ (j : Nat) c, f ≤ j → j < k → s.data.toList[j]? = some c → c ≠ 10) ∧ Hid (wr.ownsRow w.heap.size 9 1 v X.length (strs X)) ∧ Below w.heap.size w wr) (fun _ _ i _ => s.size - (intOf i).toNat)
  case atStart => exact ⟨0, 0, [], by omega, by omega, rfl, rfl, by simp, rfl, fun j c h1 h2 => absurd h2 (Nat.not_lt_zero _), World.ownsRow_nil _ _ _ _, Below.refl _ _⟩
  case round =>
    obtain ⟨f, k, X, hfk, hk, rfl, rfl, hXl, hX, hno, hown, hb⟩ := hrel
    have hwz := hb.size
    by_cases hlt : k < s.size
    · have hg := get_list s k hlt
      obtain ⟨c, hc⟩ : ∃ c, s[k] = c := ⟨_, rfl⟩
      rw [hc] at hg
      have hkI : (k : Int) < (s.size : Int) := by omega
      by_cases h10 : c = 10
      · have hcI : (c.toNat : Int) = 10 := by rw [h10]; rfl
        rw [h10] at hg
        obtain ⟨A, hA⟩ : ∃ A, s.extract f k = A := ⟨_, rfl⟩
        have hAl : A.data.toList = (s.data.toList.drop f).take (k - f) := by rw [← hA, Lib.extract_data]
        have hN : Hid (pieces s.data.toList = (X ++ [A.data.toList]) ++ pieces (s.data.toList.drop (k + 1))) := pieces_cut hX.out hAl hfk hno.out hg
        have hr1 := hown.out.alloc (.cells #[.string A] 9)
        have hsn : Hid (strs (X ++ [A.data.toList]) = strs X ++ [.string A]) := strs_snoc X A
        have x1 : (f : Int) ≤ (k : Int) := by omega
        have x2 : (k : Int) ≤ (s.size : Int) := by omega
        clear hg h10 hAl hno
        go_wp2_with (at_builtin; refine wpList_append_own_at _ rfl _ _ 38 rfl w.heap.size 9 i0 (.string ⟨#[]⟩) 1 16 Tryd.underlying38 hinf hz0 hz1 hz2 rfl (by decide) _ _ _ rfl hr1 ⟨_, 0, none⟩ 1 1 [.string A] rfl rfl (row_news1 _ _ _) (fun x hx => by simp at hx; subst hx; rfl) (by unfold maxLen; omega) (by omega) (by simp; omega) ?_; intro v' w3 hown' hgrow _ _)
        have hb4 : Below w.heap.size w w3 := (hb.alloc hwz _).grown hgrow (by simp; omega) (fun k e => (hr1.lt k e).1)
        exact ⟨⟨k + 1, k + 1, X ++ [A.data.toList], by omega, by omega, by go_num, by go_num, by simp; omega, hN, fun j c h1 h2 => by omega, by rw [hsn.out, List.length_append]; exact hown', hb4⟩, by simp [intOf]; omega⟩
      · have hcI : ((c.toNat : Int) == 10) = false := beq8 c 10 h10
        have hno2 : Hid (∀ (j : Nat) c, f ≤ j → j < k + 1 → s.data.toList[j]? = some c → c ≠ 10) := fun j d h1 h2 hd => by
          rcases Nat.lt_or_ge j k with h | h
          · exact hno.out j d h1 h hd
          · obtain rfl : j = k := by omega
            rw [hg] at hd; cases hd; exact h10
        clear hg h10 hno
        go_wp2_with fail
        exact ⟨⟨f, k + 1, X, by omega, by omega, rfl, by go_num, by omega, hX, hno2, hown, hb⟩, by simp [intOf]; omega⟩
    · obtain rfl : k = s.size := by omega
      have hkI : ¬ ((s.size : Int) < (s.size : Int)) := by omega
      obtain ⟨A, hA⟩ : ∃ A, s.extract f s.size = A := ⟨_, rfl⟩
      have hAl : A.data.toList = s.data.toList.drop f := by rw [← hA, Lib.extract_data, List.take_of_length_le]; rw [List.length_drop, size_list]; omega
      have hN : Hid (pieces s.data.toList = X ++ [A.data.toList]) := by
        show _ = _
        rw [hAl]
        exact pieces_last hX.out (fun j c h1 h2 => hno.out j c h1 (by rwa [size_list] at h2))
      have hr1 := hown.out.alloc (.cells #[.string A] 9)
      have hsn : Hid (strs (X ++ [A.data.toList]) = strs X ++ [.string A]) := strs_snoc X A
      have x1 : (f : Int) ≤ (s.size : Int) := by omega
      clear hAl hno
      go_wp2_with (at_builtin; refine wpList_append_own_at _ rfl _ _ 38 rfl w.heap.size 9 i0 (.string ⟨#[]⟩) 1 16 Tryd.underlying38 hinf hz0 hz1 hz2 rfl (by decide) _ _ _ rfl hr1 ⟨_, 0, none⟩ 1 1 [.string A] rfl rfl (row_news1 _ _ _) (fun x hx => by simp at hx; subst hx; rfl) (by unfold maxLen; omega) (by omega) (by simp; omega) ?_; intro v' w3 hown' hgrow _ _)
      have hb4 : Below w.heap.size w w3 := (hb.alloc hwz _).grown hgrow (by simp; omega) (fun k e => (hr1.lt k e).1)
      go_ret
      refine ⟨_, rfl, ?_, hb4, ?_⟩
      · rw [hN.out, hsn.out, List.length_append]; exact hown'
      · rw [hN.out]; simp; omega
end Go.Proofs.YtiinhfbfciccnaaDoor
/- Plain mathematics: whole lines, as the reference makes them. -/
namespace Go.Proofs.YtiinhfbfciccnaaDoor.Lin
theorem whl_begin (k : Nat) (p : L) (r : List L) (h : lout p = false) : whl k 0 [] (p :: r) = whl k (k + 1) [] (p :: r) := by
  cases h2 : Lib.hasSuffix p [92]
  · rw [whl_end0 k [] p r h h2, whl_end k (k + 1) [] p r (by omega) h2]
  · rw [whl_on0 k [] p r h h2, whl_on k (k + 1) [] p r (by omega) h2]
theorem suf_iff (A : L) : Lib.hasSuffix A [92] = true ↔ A.getLast? = some 92 := by
  unfold Lib.hasSuffix
  rw [List.isSuffixOf_iff_suffix, List.getLast?_eq_some_iff]
  constructor
  · rintro ⟨t, ht⟩; exact ⟨t, ht.symm⟩
  · rintro ⟨t, ht⟩; exact ⟨t, ht.symm⟩
theorem suf_app (X p : L) (hX : X = [] ∨ ∃ Y, X = Y ++ [32]) : Lib.hasSuffix (X ++ p) [92] = Lib.hasSuffix p [92] := by
  rw [Bool.eq_iff_iff, suf_iff, suf_iff]
  rcases List.eq_nil_or_concat p with rfl | ⟨a, c, rfl⟩
  · rcases hX with rfl | ⟨Y, rfl⟩
    · simp
    · simp
  · simp [← List.append_assoc]
theorem suf_cut (X p : L) (h : Lib.hasSuffix p [92] = true) : (X ++ p).take ((X ++ p).length - 1) = X ++ Lib.trimSuffix p [92] := by
  rw [suf_iff, List.getLast?_eq_some_iff] at h
  obtain ⟨a, rfl⟩ := h
  rw [trim92, ← List.append_assoc]
  have : (X ++ a ++ [92]).length - 1 = (X ++ a).length := by simp
  rw [this, List.take_left]
theorem suf_at {A : L} (h : Lib.hasSuffix A [92] = true) : ∃ N, A.length = N + 1 ∧ A[N]? = some 92 := by
  rw [suf_iff] at h
  rcases List.eq_nil_or_concat A with rfl | ⟨a, c, rfl⟩
  · simp at h
  · refine ⟨a.length, by simp, ?_⟩
    simp at h
    simp [h]
theorem suf_no {A : L} (h : Lib.hasSuffix A [92] = false) : A = [] ∨ ∃ N c, A.length = N + 1 ∧ A[N]? = some c ∧ c ≠ 92 := by
  rcases List.eq_nil_or_concat A with rfl | ⟨a, c, rfl⟩
  · exact .inl rfl
  · refine .inr ⟨a.length, c, by simp, by simp, ?_⟩
    rintro rfl
    have : Lib.hasSuffix (a.concat 92) [92] = true := by rw [suf_iff]; simp
    rw [this] at h; cases h
theorem tot_drop {P : List L} {j : Nat} {p : L} (h : P[j]? = some p) : tot (P.drop j) = p.length + 1 + tot (P.drop (j + 1)) := by
  obtain ⟨hl, hc⟩ := List.getElem?_eq_some_iff.1 h
  rw [List.drop_eq_getElem_cons hl, hc]
  simp only [tot]
  try omega
theorem dropP {P : List L} {j : Nat} {p : L} (h : P[j]? = some p) : P.drop j = p :: P.drop (j + 1) := by
  obtain ⟨hl, hc⟩ := List.getElem?_eq_some_iff.1 h
  rw [List.drop_eq_getElem_cons hl, hc]
theorem lout_no {p : L} (h : lout p = false) : ∃ c r, trim p = c :: r ∧ c ≠ 35 ∧ c ≠ 59 := by
  rw [lout_trim] at h
  cases ht : trim p with
  | nil => rw [ht] at h; cases h
  | cons c r => rw [ht] at h; simp at h; exact ⟨c, r, rfl, h.1, h.2⟩
theorem lout_yes {p : L} (h : lout p = true) : trim p = [] ∨ ∃ c r, trim p = c :: r ∧ (c = 35 ∨ c = 59) := by
  rw [lout_trim] at h
  cases ht : trim p with
  | nil => exact .inl rfl
  | cons c r => rw [ht] at h; simp at h; exact .inr ⟨c, r, rfl, h⟩
end Go.Proofs.YtiinhfbfciccnaaDoor.Lin
/- Contracts of the helpers Short and Texts. -/
namespace Go.Proofs.YtiinhfbfciccnaaDoor
open Go.RowKit Lin
def ShortP (n m : Nat) (zs : List ByteArray) (w : World) (e : Ending) (w' : World) : Prop := ∃ q, e = .returned (.bool q) ∧ (q = true → zs.length ≤ n ∧ ∀ x ∈ zs, x.size ≤ m) ∧ Below w.heap.size w w'
set_option maxRecDepth 100000 in
set_option maxHeartbeats 1000000 in
theorem texts_same (a1 a2 : Option Addr) (b1 o1 c1 b2 o2 c2 : Nat) (zs : List ByteArray) (w : World) (h1 : 0 < zs.length → a1 = some ⟨b1, o1, none⟩) (h2 : 0 < zs.length → a2 = some ⟨b2, o2, none⟩)
    (hc1 : ∀ j x, zs[j]? = some x → w.cell? ⟨b1, o1 + j, none⟩ = some (.string x)) (hc2 : ∀ j x, zs[j]? = some x → w.cell? ⟨b2, o2 + j, none⟩ = some (.string x)) (hl : zs.length ≤ 1000000) :
    Calls Tryd.prog 21 #[.slice a1 zs.length c1, .slice a2 zs.length c2] w fun e w' => e = .returned (.bool true) ∧ Below w.heap.size w w' := by
  obtain ⟨n, hn⟩ : ∃ n, zs.length = n := ⟨_, rfl⟩
  rw [hn] at h1 h2 hl ⊢
  have hN : Hid (zs.length = n) := hn
  clear hn
  go_enter Tryd.func21, Tryd.ntmps21
  go_wp2_with fail
  go_loopw [5] (fun i wr => ∃ k : Nat, k ≤ n ∧ i = .int .i64 k ∧ Below w.heap.size w wr) (fun i _ => n - (intOf i).toNat)
  case atStart => exact ⟨0, by omega, rfl, Below.refl _ _⟩
  case round =>
    obtain ⟨k, hk, rfl, hb⟩ := hrel
    by_cases hkl : k < n
    · obtain ⟨x, hx⟩ : ∃ x, zs[k]? = some x := ⟨_, List.getElem?_eq_getElem (by rw [hN.out]; exact hkl)⟩
      have e1 := hc1 k x hx
      have e2 := hc2 k x hx
      have d1 := (hb.cell (p := ⟨b1, o1 + k, none⟩) (cell_lt e1)).trans e1
      have d2 := (hb.cell (p := ⟨b2, o2 + k, none⟩) (cell_lt e2)).trans e2
      obtain rfl := h1 (by omega)
      obtain rfl := h2 (by omega)
      clear e1 e2 hc1 hc2 h1 h2
      go_wp2_with fail
      go_quiet (fail)
      go_wp2_with fail
      exact ⟨⟨k + 1, by omega, by go_num, below_drewN hb _⟩, by simp [intOf]; omega⟩
    · have hke : k = n := by omega
      subst hke
      go_wp2_with fail
      go_ret
      exact ⟨rfl, hb⟩
/-- Words that a row owns. -/
theorem own_cells {w : World} {base : Nat} {v : Value} {l : List L} (h : w.ownsRow base 9 1 v l.length (strs l)) :
    ∃ (a : Option Addr) (g cap : Nat), v = .slice a l.length cap ∧ (0 < l.length → a = some ⟨g, 0, none⟩) ∧ ∀ (j : Nat) (x : ByteArray), (l.map fun y => (⟨y.toArray⟩ : ByteArray))[j]? = some x → w.cell? ⟨g, 0 + j, none⟩ = some (.string x) := by
  rcases h.2 with ⟨hv, h0⟩ | ⟨g, cap, cur, hv, _⟩
  · refine ⟨none, 0, 0, by rw [hv, h0], fun hp => by omega, fun j x hj => ?_⟩
    have := (List.getElem?_eq_some_iff.1 hj).1
    rw [List.length_map] at this; omega
  · refine ⟨some ⟨g, 0, none⟩, g, cap, hv, fun _ => rfl, fun j x hj => ?_⟩
    have hjl : j < l.length := by have := (List.getElem?_eq_some_iff.1 hj).1; rwa [List.length_map] at this
    subst hv
    have hc := h.cellAt j (by omega)
    rw [Nat.zero_add]
    refine hc.trans ?_
    unfold strs
    rw [List.getElem?_map] at hj ⊢
    obtain ⟨y, hy, rfl⟩ := Option.map_eq_some_iff.1 hj
    rw [hy]; rfl
end Go.Proofs.YtiinhfbfciccnaaDoor
/- The contract of the reference's Lines. -/
namespace Go.Proofs.YtiinhfbfciccnaaDoor
open Go.RowKit Lin
theorem strs_at {w : World} {base : Nat} {v : Value} {l : List L} (h : w.ownsRow base 9 1 v l.length (strs l)) (hl : 0 < l.length) :
    ∃ (g cap : Nat), v = .slice (some ⟨g, 0, none⟩) l.length cap ∧ ∀ (j : Nat) (x : L), l[j]? = some x → w.cell? ⟨g, j, none⟩ = some (.string ⟨x.toArray⟩) := by
  obtain ⟨a, g, cap, hv, ha, hc⟩ := own_cells h
  rw [ha hl] at hv
  refine ⟨g, cap, hv, fun j x hj => ?_⟩
  have := hc j ⟨x.toArray⟩ (by rw [List.getElem?_map, hj]; rfl)
  rwa [Nat.zero_add] at this
set_option maxRecDepth 100000 in
set_option maxHeartbeats 16000000 in
theorem rlines_short (s : ByteArray) (w : World) (hz : s.size ≤ 4000) : Calls Tryd.prog 25 #[.string s] w (LinesP (lns s.data.toList) w) := by
  have hR : Hid (lns s.data.toList = lnsW (whl 0 0 [] (pieces s.data.toList))) := by show _ = _; unfold lns; rw [size_list, if_neg (by omega)]
  obtain ⟨i0, hinf, hz0, hz1, hz2⟩ := info_parts infoL
  have hzI : decide ((4000 : Int) < (s.size : Int)) = false := by simp; omega
  have hraw := raw_any s w (by omega)
  have htot : tot (pieces s.data.toList) ≤ 4001 := by rw [tot_pieces, size_list]; omega
  have hpl : 0 < (pieces s.data.toList).length := List.length_pos_iff.2 (pieces_ne _)
  revert hR hraw htot hpl
  generalize pieces s.data.toList = P
  intro hR hraw htot hpl
  obtain ⟨np, hnp⟩ : ∃ np, P.length = np := ⟨_, rfl⟩
  have hraw' : Hid (Calls Tryd.prog 37 #[.string s] w fun e w' => ∃ v, e = .returned v ∧ w'.ownsRow w.heap.size 9 1 v P.length (strs P) ∧ Below w.heap.size w w' ∧ P.length ≤ s.size + 1) := hraw
  clear hraw
  go_enter Tryd.func25, Tryd.ntmps25
  go_wp2_with fail
  refine hraw'.out.mono ?_
  rintro e w1 ⟨v, rfl, hown1, hb1, hPl⟩
  obtain ⟨g, cap, rfl, hPc⟩ := strs_at hown1 hpl
  have hPcH : Hid (∀ (j : Nat) (x : L), P[j]? = some x → w1.cell? ⟨g, j, none⟩ = some (.string ⟨x.toArray⟩)) := hPc
  have hnpH : Hid (P.length = np) := hnp
  rw [hnp] at hPl hpl ⊢
  clear hown1 hPc hnp hraw'
  go_wp2_with fail
  go_loopw [6, 7] (fun v i wr => ∃ (k : Nat) (acc : List Ln), k ≤ np ∧ i = .int .i64 k ∧ acc.length ≤ k ∧ Hid (lns s.data.toList = pre acc (lnsW (whl k 0 [] (P.drop k)))) ∧ Hid (wr.ownsRow w1.heap.size 60 4 v acc.length (lnsC acc)) ∧ Below w1.heap.size w1 wr) (fun _ i _ => np - (intOf i).toNat)
  case atStart => exact ⟨0, [], by omega, rfl, by simp, by show _ = _; rw [pre_nil, List.drop_zero]; exact hR.out, World.ownsRow_nil _ _ _ _, Below.refl _ _⟩
  case round =>
    obtain ⟨k, acc, hk, rfl, hal, hacc, hown, hb⟩ := hrel
    by_cases hlt : k < np
    · obtain ⟨p, hp⟩ : ∃ p, P[k]? = some p := ⟨_, List.getElem?_eq_getElem (by rw [hnpH.out]; exact hlt)⟩
      have hcell : Hid (∀ (j : Nat) (x : L), P[j]? = some x → wr.cell? ⟨g, j, none⟩ = some (.string ⟨x.toArray⟩)) := fun j x hj => (hb.cell (p := ⟨g, j, none⟩) (cell_lt (hPcH.out j x hj))).trans (hPcH.out j x hj)
      have cS := hcell.out k p hp
      have hdr : Hid (P.drop k = p :: P.drop (k + 1)) := dropP hp
      have htp := tot_drop hp
      have htk : tot (P.drop k) ≤ 4001 := by
        have h1 : ∀ (l : List L) (n : Nat), tot (l.drop n) ≤ tot l := by
          intro l
          induction l with
          | nil => intro n; simp
          | cons a l ih => intro n; cases n with
            | zero => simp
            | succ n => have := ih n; simp only [List.drop_succ_cons, tot]; omega
        exact Nat.le_trans (h1 P k) htot
      have hpH : Hid (P[k]? = some p) := hp
      clear hp
      obtain ⟨S, rfl, hSz, hSe⟩ := letters p
      rw [hSe] at cS
      have hS : S.size ≤ 4000 := by rw [hSz]; omega
      have hkI : (k : Int) < (np : Int) := by omega
      have htr := fun w => rtrim_any S w (by omega)
      obtain ⟨T, hTl, hTz, hTe⟩ := letters (trim S.data.toList)
      rw [hTe] at htr
      have htr' : Hid (∀ w, Calls Tryd.prog 38 #[.string S] w fun e w' => e = .returned (.string T) ∧ w' = w) := htr
      clear htr hTe hSz hSe hTz
      cases hlo : lout S.data.toList
      · obtain ⟨c, r, hcr, h35, h59⟩ := lout_no hlo
        have hacc2 : Hid (lns s.data.toList = pre acc (lnsW (whl k (k + 1) [] (P.drop k)))) := by
          show _ = _
          rw [hacc.out, hdr.out, whl_begin k _ _ hlo]
        have hT0 : (T.toList == []) = false := by rw [Lib.toList_data, hTl, hcr]; rfl
        have hTp := size_pos hT0
        have hTc : T[0] = c := by
          have := get_list T 0 hTp
          rw [hTl, hcr] at this
          exact (Option.some.inj this).symm
        have hTI : (0 : Int) < (T.size : Int) := by omega
        have n1 : ((c.toNat : Int) == 35) = false := beq8 c 35 h35
        have n2 : ((c.toNat : Int) == 59) = false := beq8 c 59 h59
        obtain ⟨nn, hnn⟩ : ∃ nn, k + 1 = nn := ⟨_, rfl⟩
        rw [hnn] at hacc2
        have hnI : (k : Int) + 1 = (nn : Int) := by omega
        have hb0 : S.size + tot (P.drop (k + 1)) ≤ 4000 := by rw [← size_list]; omega
        clear hcr h35 h59 hlo hTl hacc hdr htp htk
        go_wp2_with (go_at_call 38; refine (htr'.out _).mono ?_; rintro e w' ⟨rfl, rfl⟩)
        clear hnI n1 n2 hTI hTc hTp hT0 htr' cS
        go_loop [7, 10] (fun i al => ∃ (j : Nat) (X p : L) (A : ByteArray), k ≤ j ∧ j < np ∧ i = .int .i64 j ∧ al = .string A ∧ Hid (P[j]? = some p) ∧ Hid (A.data.toList = X ++ p) ∧ Hid (X = [] ∨ ∃ Y, X = Y ++ [32]) ∧ A.size + tot (P.drop (j + 1)) ≤ 4000 ∧ Hid (lns s.data.toList = pre acc (lnsW (whl j nn X (P.drop j))))) (fun i _ => np - (intOf i).toNat)
        case atStart => exact ⟨k, [], S.data.toList, S, by omega, hlt, rfl, rfl, hpH, rfl, .inl rfl, hb0, hacc2⟩
        case round =>
          clear hpH hacc2 hb0 hS
          obtain ⟨j, X, p, A, hkj, hj, rfl, rfl, hpj, hA, hX, hAb, hacc⟩ := hrel
          have hsA := suf_app X p hX.out
          rw [← hA.out] at hsA
          cases hsf : Lib.hasSuffix p [92]
          · rw [hsf] at hsA
            have hR2 : Hid (lns s.data.toList = pre acc (lnsW ((nn, A.data.toList) :: whl (j + 1) 0 [] (P.drop (j + 1))))) := by
              show _ = _
              rw [hacc.out, dropP hpj.out, whl_end j nn X p _ (by omega) hsf, hA.out]
            have hcond : (A.size = 0) ∨ ∃ (N : Nat) (c : UInt8), ∃ hN : N < A.size, (A.size : Int) = (N : Int) + 1 ∧ A[N] = c ∧ ((c.toNat : Int) == 92) = false := by
              rcases suf_no hsA with h | ⟨N, c, h1, h2, h3⟩
              · left; rw [← size_list, h]; rfl
              · rw [size_list] at h1
                refine .inr ⟨N, c, by omega, by omega, ?_, beq8 c 92 h3⟩
                have := get_list A N (by omega)
                rw [h2] at this; exact (Option.some.inj this).symm
            clear hsA hsf hA hX hpj hacc
            rcases hcond with h0 | ⟨N, c, hN, hNI, hNc, hn92⟩
            · have hAE : A = ⟨#[]⟩ := by
                have : A.data.toList = [] := List.length_eq_zero_iff.1 (by rw [size_list]; exact h0)
                rw [← Lib.mk_data A, this]
              subst hAE
              clear h0
              have hlg : ¬ 400 < (⟨#[]⟩ : ByteArray).size := by decide
              have hrl := fun w => rline_any (⟨#[]⟩ : ByteArray) nn w (by omega)
              cases hpr : prs (⟨#[]⟩ : ByteArray).data.toList with
              | none =>
                have hErr : Hid (lns s.data.toList = .error (nn, 50)) := by show _ = _; rw [hR2.out]; exact pre_bad _ _ _ _ (by rw [size_list]; exact hlg) hpr
                rw [hpr] at hrl
                have hrl' : Hid (∀ w, Calls Tryd.prog 39 #[.string (⟨#[]⟩ : ByteArray), .int .i64 nn] w fun e w' => (∃ k a b d, e = .returned (.tuple #[.agg #[.int .i64 k, .string a, .string b, .int .i64 d], .bool false])) ∧ Below w.heap.size w w') := hrl
                clear hrl hpr
                go_wp2_with fail
                refine (hrl'.out _).mono ?_
                rintro e w3 ⟨⟨q1, q2, q3, q4, rfl⟩, hb3⟩
                have hb4 : Below w.heap.size w (w3.alloc (.cells #[.int .i64 q1, .string q2, .string q3, .int .i64 q4] 60)) := ((hb1.trans (hb.mono hb1.size)).trans (hb3.mono (by have := hb1.size; have := hb.size; omega))).alloc (by have := hb1.size; have := hb.size; have := hb3.size; omega) _
                go_wp2_with fail
                go_ret3
                rw [hErr.out]
                exact ⟨rfl, hb4⟩
              | some pp => exact absurd hpr (by rw [show prs (⟨#[]⟩ : ByteArray).data.toList = none from rfl]; simp)
            · have hN2 : N ≤ 4000 := by omega
              have hAz : A.size ≤ 5000 := by have := hAb; omega
              clear hAb
              by_cases hlg : 400 < A.size
              · have hErr : Hid (lns s.data.toList = .error (nn, 51)) := by show _ = _; rw [hR2.out]; exact pre_long _ _ _ _ (by rw [size_list]; exact hlg)
                have hlI : (400 : Int) < ((N : Int) + 1) := by omega
                go_wp2_with fail
                go_ret3
                rw [hErr.out]
                exact ⟨rfl, hb1.trans (hb.mono hb1.size)⟩
              · have hlI : decide ((400 : Int) < ((N : Int) + 1)) = false := by simp; omega
                have hlI2 : ¬ ((400 : Int) < ((N : Int) + 1)) := by omega
                have hrl := fun w => rline_any A nn w (by omega)
                cases hpr : prs A.data.toList with
                | none =>
                  have hErr : Hid (lns s.data.toList = .error (nn, 50)) := by show _ = _; rw [hR2.out]; exact pre_bad _ _ _ _ (by rw [size_list]; exact hlg) hpr
                  rw [hpr] at hrl
                  have hrl' : Hid (∀ w, Calls Tryd.prog 39 #[.string A, .int .i64 nn] w fun e w' => (∃ k a b d, e = .returned (.tuple #[.agg #[.int .i64 k, .string a, .string b, .int .i64 d], .bool false])) ∧ Below w.heap.size w w') := hrl
                  clear hrl hpr
                  go_wp2_with fail
                  refine (hrl'.out _).mono ?_
                  rintro e w3 ⟨⟨q1, q2, q3, q4, rfl⟩, hb3⟩
                  have hb4 : Below w.heap.size w (w3.alloc (.cells #[.int .i64 q1, .string q2, .string q3, .int .i64 q4] 60)) := ((hb1.trans (hb.mono hb1.size)).trans (hb3.mono (by have := hb1.size; have := hb.size; omega))).alloc (by have := hb1.size; have := hb.size; have := hb3.size; omega) _
                  go_wp2_with fail
                  go_ret3
                  rw [hErr.out]
                  exact ⟨rfl, hb4⟩
                | some pp =>
                  obtain ⟨kd, ky, vl⟩ := pp
                  obtain ⟨K, rfl, _, hKe⟩ := letters ky
                  obtain ⟨Y, rfl, _, hYe⟩ := letters vl
                  have hGood := pre_good acc nn A.data.toList (whl (j + 1) 0 [] (P.drop (j + 1))) (by rw [size_list]; exact hlg) _ hpr
                  have hacc' : Hid (lns s.data.toList = pre (acc ++ [(kd, K.data.toList, Y.data.toList, nn)]) (lnsW (whl (j + 1) 0 [] (P.drop (j + 1))))) := by show _ = _; rw [hR2.out]; exact hGood
                  have hcl : Hid (lnsC (acc ++ [(kd, K.data.toList, Y.data.toList, nn)]) = lnsC acc ++ [.int .i64 kd, .string K, .string Y, .int .i64 nn]) := by
                    show _ = _
                    rw [lnsC_snoc]
                    show _ ++ [Value.int .i64 kd, .string ⟨K.data.toList.toArray⟩, .string ⟨Y.data.toList.toArray⟩, .int .i64 nn] = _
                    rw [Lib.mk_data, Lib.mk_data]
                  rw [hpr] at hrl
                  unfold RlP at hrl
                  simp only [hKe, hYe] at hrl
                  have hrl' : Hid (∀ w, Calls Tryd.prog 39 #[.string A, .int .i64 nn] w fun e w' => e = .returned (.tuple #[.agg #[.int .i64 kd, .string K, .string Y, .int .i64 nn], .bool true]) ∧ Below w.heap.size w w') := hrl
                  clear hrl hpr hGood hKe hYe
                  go_wp2_with fail
                  refine (hrl'.out _).mono ?_
                  rintro e w3 ⟨rfl, hb3⟩
                  have hbw3 : Below w1.heap.size w1 w3 := hb.trans (hb3.mono hb.size)
                  have hwz3 := hbw3.size
                  have hr1 := ((own_below hown.out hb3).alloc (.cells #[.int .i64 kd, .string K, .string Y, .int .i64 nn] 60)).alloc (.cells #[.int .i64 kd, .string K, .string Y, .int .i64 nn] 60)
                  go_wp2_with (at_builtin; refine wpList_append_own_at _ rfl _ _ 56 rfl w1.heap.size 60 i0 (.agg #[.int .i64 0, .string ⟨#[]⟩, .string ⟨#[]⟩, .int .i64 0]) 4 48 Tryd.underlying56 hinf hz0 hz1 hz2 rfl (by decide) _ _ _ rfl hr1 ⟨w3.heap.size + 1, 0, none⟩ 1 1 [.int .i64 kd, .string K, .string Y, .int .i64 nn] rfl rfl (by simpa using four_new (w3.alloc (.cells #[.int .i64 kd, .string K, .string Y, .int .i64 nn] 60)) _ _ _ _ _) (fun x hx => by simp at hx; rcases hx with rfl | rfl | rfl | rfl <;> rfl) (by unfold maxLen; omega) (by omega) (by simp; omega) ?_; intro v' w4 hown' hgrow _ _)
                  have hb4 : Below w1.heap.size w1 w4 := ((hbw3.alloc hbw3.size _).alloc (by have := hbw3.size; simp; omega) _).grown hgrow (by have := hbw3.size; simp; omega) (fun k e => (hr1.lt k e).1)
                  exact ⟨⟨j + 1, acc ++ [(kd, K.data.toList, Y.data.toList, nn)], by omega, by go_num, by simp; omega, hacc', by rw [hcl.out, List.length_append]; exact hown', hb4⟩, by simp [intOf]; omega⟩
          · rw [hsf] at hsA
            obtain ⟨N, h1, h2⟩ := suf_at hsA
            rw [size_list] at h1
            have hN : N < A.size := by omega
            have hNI : (A.size : Int) = (N : Int) + 1 := by omega
            have hNc : A[N] = 92 := by
              have := get_list A N hN
              rw [h2] at this; exact (Option.some.inj this).symm
            obtain ⟨B, hB⟩ : ∃ B, A.extract 0 N = B := ⟨_, rfl⟩
            have hBl : (B ++ (⟨#[32]⟩ : ByteArray)).data.toList = X ++ Lib.trimSuffix p [92] ++ [32] := by
              rw [app_list]
              show B.data.toList ++ [32] = _
              rw [← hB, Lib.extract_data, List.drop_zero, ← suf_cut X p hsf, ← hA.out, size_list, h1]
              simp
            obtain ⟨C, hC⟩ : ∃ C, B ++ (⟨#[32]⟩ : ByteArray) = C := ⟨_, rfl⟩
            rw [hC] at hBl
            have hCz : C.size = A.size := by
              rw [← size_list C, hBl, ← size_list A, hA.out]
              have := trimS_len hsf
              simp only [List.length_append, List.length_cons, List.length_nil]; omega
            have hBlH : Hid (C.data.toList = X ++ Lib.trimSuffix p [92] ++ [32]) := hBl
            have hacc3 : Hid (lns s.data.toList = pre acc (lnsW (whl (j + 1) nn C.data.toList (P.drop (j + 1))))) := by
              show _ = _
              rw [hacc.out, dropP hpj.out, whl_on j nn X p _ (by omega) hsf, hBl]
            have hN2 : N ≤ 4000 := by omega
            have hBs : B.size ≤ 4000 := by rw [← hB, ← size_list, Lib.extract_data, List.length_take]; omega
            clear hsA hsf hA hX hpj hacc hBl h1 h2
            by_cases hlast : j + 1 = np
            · have hjI : ((j : Int) + 1 == (np : Int)) = true := by simp; omega
              have hR2 : Hid (lns s.data.toList = pre acc (lnsW ((nn, C.data.toList) :: whl (j + 1) 0 [] (P.drop (j + 1))))) := by
                show _ = _
                rw [hacc3.out, List.drop_of_length_le (by rw [hnpH.out]; omega)]
                simp only [whl]
                rw [if_neg (by omega)]
                simp
              rw [← hCz] at hAb
              have hnI : (j : Int) + 1 = (np : Int) := by omega
              clear hCz hBlH hacc3
              have hAz : C.size ≤ 5000 := by have := hAb; omega
              clear hAb
              by_cases hlg : 400 < C.size
              · have hErr : Hid (lns s.data.toList = .error (nn, 51)) := by show _ = _; rw [hR2.out]; exact pre_long _ _ _ _ (by rw [size_list]; exact hlg)
                have hlI : (400 : Int) < (C.size : Int) := by omega
                go_wp2_with fail
                go_ret3
                rw [hErr.out]
                exact ⟨rfl, hb1.trans (hb.mono hb1.size)⟩
              · have hlI : decide ((400 : Int) < (C.size : Int)) = false := by simp; omega
                have hlI2 : ¬ ((400 : Int) < (C.size : Int)) := by omega
                have hrl := fun w => rline_any C nn w (by omega)
                cases hpr : prs C.data.toList with
                | none =>
                  have hErr : Hid (lns s.data.toList = .error (nn, 50)) := by show _ = _; rw [hR2.out]; exact pre_bad _ _ _ _ (by rw [size_list]; exact hlg) hpr
                  rw [hpr] at hrl
                  have hrl' : Hid (∀ w, Calls Tryd.prog 39 #[.string C, .int .i64 nn] w fun e w' => (∃ k a b d, e = .returned (.tuple #[.agg #[.int .i64 k, .string a, .string b, .int .i64 d], .bool false])) ∧ Below w.heap.size w w') := hrl
                  clear hrl hpr
                  go_wp2_with fail
                  refine (hrl'.out _).mono ?_
                  rintro e w3 ⟨⟨q1, q2, q3, q4, rfl⟩, hb3⟩
                  have hb4 : Below w.heap.size w (w3.alloc (.cells #[.int .i64 q1, .string q2, .string q3, .int .i64 q4] 60)) := ((hb1.trans (hb.mono hb1.size)).trans (hb3.mono (by have := hb1.size; have := hb.size; omega))).alloc (by have := hb1.size; have := hb.size; have := hb3.size; omega) _
                  go_wp2_with fail
                  go_ret3
                  rw [hErr.out]
                  exact ⟨rfl, hb4⟩
                | some pp =>
                  obtain ⟨kd, ky, vl⟩ := pp
                  obtain ⟨K, rfl, _, hKe⟩ := letters ky
                  obtain ⟨Y, rfl, _, hYe⟩ := letters vl
                  have hGood := pre_good acc nn C.data.toList (whl (j + 1) 0 [] (P.drop (j + 1))) (by rw [size_list]; exact hlg) _ hpr
                  have hacc' : Hid (lns s.data.toList = pre (acc ++ [(kd, K.data.toList, Y.data.toList, nn)]) (lnsW (whl (j + 1) 0 [] (P.drop (j + 1))))) := by show _ = _; rw [hR2.out]; exact hGood
                  have hcl : Hid (lnsC (acc ++ [(kd, K.data.toList, Y.data.toList, nn)]) = lnsC acc ++ [.int .i64 kd, .string K, .string Y, .int .i64 nn]) := by
                    show _ = _
                    rw [lnsC_snoc]
                    show _ ++ [Value.int .i64 kd, .string ⟨K.data.toList.toArray⟩, .string ⟨Y.data.toList.toArray⟩, .int .i64 nn] = _
                    rw [Lib.mk_data, Lib.mk_data]
                  rw [hpr] at hrl
                  unfold RlP at hrl
                  simp only [hKe, hYe] at hrl
                  have hrl' : Hid (∀ w, Calls Tryd.prog 39 #[.string C, .int .i64 nn] w fun e w' => e = .returned (.tuple #[.agg #[.int .i64 kd, .string K, .string Y, .int .i64 nn], .bool true]) ∧ Below w.heap.size w w') := hrl
                  clear hrl hpr hGood hKe hYe
                  go_wp2_with fail
                  refine (hrl'.out _).mono ?_
                  rintro e w3 ⟨rfl, hb3⟩
                  have hbw3 : Below w1.heap.size w1 w3 := hb.trans (hb3.mono hb.size)
                  have hwz3 := hbw3.size
                  have hr1 := ((own_below hown.out hb3).alloc (.cells #[.int .i64 kd, .string K, .string Y, .int .i64 nn] 60)).alloc (.cells #[.int .i64 kd, .string K, .string Y, .int .i64 nn] 60)
                  go_wp2_with (at_builtin; refine wpList_append_own_at _ rfl _ _ 56 rfl w1.heap.size 60 i0 (.agg #[.int .i64 0, .string ⟨#[]⟩, .string ⟨#[]⟩, .int .i64 0]) 4 48 Tryd.underlying56 hinf hz0 hz1 hz2 rfl (by decide) _ _ _ rfl hr1 ⟨w3.heap.size + 1, 0, none⟩ 1 1 [.int .i64 kd, .string K, .string Y, .int .i64 nn] rfl rfl (by simpa using four_new (w3.alloc (.cells #[.int .i64 kd, .string K, .string Y, .int .i64 nn] 60)) _ _ _ _ _) (fun x hx => by simp at hx; rcases hx with rfl | rfl | rfl | rfl <;> rfl) (by unfold maxLen; omega) (by omega) (by simp; omega) ?_; intro v' w4 hown' hgrow _ _)
                  have hb4 : Below w1.heap.size w1 w4 := ((hbw3.alloc hbw3.size _).alloc (by have := hbw3.size; simp; omega) _).grown hgrow (by have := hbw3.size; simp; omega) (fun k e => (hr1.lt k e).1)
                  exact ⟨⟨j + 1, acc ++ [(kd, K.data.toList, Y.data.toList, nn)], by omega, by go_num, by simp; omega, hacc', by rw [hcl.out, List.length_append]; exact hown', hb4⟩, by simp [intOf]; omega⟩
            · have hjI : ((j : Int) + 1 == (np : Int)) = false := by simp; omega
              have hjl : (j : Int) + 1 < (np : Int) := by omega
              obtain ⟨p', hp'⟩ : ∃ p, P[j + 1]? = some p := ⟨_, List.getElem?_eq_getElem (by rw [hnpH.out]; omega)⟩
              have cS := hcell.out (j + 1) p' hp'
              have htp := tot_drop hp'
              have hp'H : Hid (P[j + 1]? = some p') := hp'
              clear hp'
              obtain ⟨Q, rfl, hQz, hQe⟩ := letters p'
              rw [hQe] at cS
              have hQl : Hid ((C ++ Q).data.toList = C.data.toList ++ Q.data.toList) := by show _ = _; simp
              have hQs : (C ++ Q).size + tot (P.drop (j + 1 + 1)) ≤ 4000 := by
                rw [← size_list (C ++ Q), hQl.out, List.length_append, size_list C, hCz]; omega
              have hCs : C.size ≤ 4000 := by omega
              have hQs2 : Q.size ≤ 4000 := by rw [hQz]; omega
              clear hQz hQe htp hCz hAb
              go_wp2_with fail
              exact ⟨⟨j + 1, C.data.toList, Q.data.toList, C ++ Q, by omega, by omega, by go_num, rfl, hp'H, hQl, .inr ⟨_, hBlH.out⟩, hQs, hacc3⟩, by simp [intOf]; omega⟩
      · have hN : Hid (lns s.data.toList = pre acc (lnsW (whl (k + 1) 0 [] (P.drop (k + 1))))) := by
          show _ = _
          rw [hacc.out, hdr.out, whl_out k [] _ _ hlo]
        have hT : (T.toList == []) = true ∨ ∃ c : UInt8, ∃ hp : 0 < T.size, (T.toList == []) = false ∧ T[0] = c ∧ ((c.toNat : Int) = 35 ∨ (((c.toNat : Int) == 35) = false ∧ (c.toNat : Int) = 59)) := by
          rcases lout_yes hlo with h | ⟨c, r, hcr, h⟩
          · left; rw [Lib.toList_data, hTl, h]; rfl
          · right
            have hT0 : (T.toList == []) = false := by rw [Lib.toList_data, hTl, hcr]; rfl
            refine ⟨c, size_pos hT0, hT0, ?_, ?_⟩
            · have := get_list T 0 (size_pos hT0)
              rw [hTl, hcr] at this
              exact (Option.some.inj this).symm
            · rcases h with h | h
              · left; rw [h]; rfl
              · right; rw [h]; exact ⟨rfl, rfl⟩
        clear hlo hTl hacc hdr htp htk
        rcases hT with hT0 | ⟨c, hTp, hT0, hTc, n1 | ⟨n1, n2⟩⟩
        · go_wp2_with (go_at_call 38; refine (htr'.out _).mono ?_; rintro e w' ⟨rfl, rfl⟩)
          exact ⟨⟨k + 1, acc, by omega, by go_num, by omega, hN, hown, hb⟩, by simp [intOf]; omega⟩
        · have hTI : (0 : Int) < (T.size : Int) := by omega
          go_wp2_with (go_at_call 38; refine (htr'.out _).mono ?_; rintro e w' ⟨rfl, rfl⟩)
          exact ⟨⟨k + 1, acc, by omega, by go_num, by omega, hN, hown, hb⟩, by simp [intOf]; omega⟩
        · have hTI : (0 : Int) < (T.size : Int) := by omega
          go_wp2_with (go_at_call 38; refine (htr'.out _).mono ?_; rintro e w' ⟨rfl, rfl⟩)
          exact ⟨⟨k + 1, acc, by omega, by go_num, by omega, hN, hown, hb⟩, by simp [intOf]; omega⟩
    · obtain rfl : k = np := by omega
      have hkI : ¬ ((k : Int) < (k : Int)) := by omega
      have hOk : Hid (lns s.data.toList = .ok acc) := by
        have := hacc.out
        rw [List.drop_of_length_le (by rw [hnpH.out]; omega)] at this
        exact pre_ok this
      go_wp2_with fail
      go_ret3
      rw [hOk.out]
      exact ⟨_, rfl, own_base hown.out hb1.size, hb1.trans (hb.mono hb1.size)⟩
end Go.Proofs.YtiinhfbfciccnaaDoor
/- The reference's Lines of any text; lines that are the same. -/
namespace Go.Proofs.YtiinhfbfciccnaaDoor
open Go.RowKit Lin
set_option maxRecDepth 100000 in
set_option maxHeartbeats 4000000 in
theorem rlines_any (s : ByteArray) (w : World) : Calls Tryd.prog 25 #[.string s] w (LinesP (lns s.data.toList) w) := by
  by_cases hz : 4000 < s.size
  · have hR : Hid (lns s.data.toList = .error (0, 51)) := by show _ = _; unfold lns; rw [size_list, if_pos hz]
    have hzI : (4000 : Int) < (s.size : Int) := by omega
    go_enter Tryd.func25, Tryd.ntmps25
    go_wp2_with fail
    go_ret3
    rw [hR.out]
    exact ⟨rfl, Below.refl _ _⟩
  · exact rlines_short s w (by omega)
/-- Lines that lie in memory. -/
def LnAt (w : World) (b : Nat) (l : List Ln) : Prop := ∀ (j : Nat) (x : Ln), l[j]? = some x → w.cell? ⟨b, j * 4, none⟩ = some (.int .i64 x.1) ∧ w.cell? ⟨b, j * 4 + 1, none⟩ = some (.string ⟨x.2.1.toArray⟩) ∧ w.cell? ⟨b, j * 4 + 2, none⟩ = some (.string ⟨x.2.2.1.toArray⟩) ∧ w.cell? ⟨b, j * 4 + 3, none⟩ = some (.int .i64 x.2.2.2)
theorem LnAt.mv {w w' : World} {b : Nat} {l : List Ln} (h : LnAt w b l) (hw : ∀ (j : Nat) v, w.cell? ⟨b, j, none⟩ = some v → w'.cell? ⟨b, j, none⟩ = some v) : LnAt w' b l := fun j x hj => by
  obtain ⟨h0, h1, h2, h3⟩ := h j x hj
  exact ⟨hw _ _ h0, hw _ _ h1, hw _ _ h2, hw _ _ h3⟩
theorem LnAt.below {w w' : World} {b : Nat} {l : List Ln} (h : LnAt w b l) (hb : Below w.heap.size w w') : LnAt w' b l := h.mv fun j _ hv => (hb.cell (p := ⟨b, j, none⟩) (cell_lt hv)).trans hv
theorem LnAt.take {w : World} {b : Nat} {l : List Ln} (h : LnAt w b l) (n : Nat) : LnAt w b (l.take n) := fun j x hj => by
  have hl := (List.getElem?_eq_some_iff.1 hj).1
  rw [List.length_take] at hl
  rw [List.getElem?_take_of_lt (by omega)] at hj
  exact h j x hj
theorem lnsC_at : ∀ (l : List Ln) (j : Nat) (x : Ln) (i : Nat), l[j]? = some x → i < 4 → (lnsC l)[j * 4 + i]? = (lnC x)[i]?
  | [], j, x, i, h, _ => by simp at h
  | y :: l, 0, x, i, h, hi => by
    have : y = x := by simpa using h
    subst this
    have e : lnsC (y :: l) = lnC y ++ lnsC l := rfl
    rw [e, Nat.zero_mul, Nat.zero_add, List.getElem?_append_left (by show i < 4; exact hi)]
  | y :: l, j + 1, x, i, h, hi => by
    have e : lnsC (y :: l) = lnC y ++ lnsC l := rfl
    have e2 : (j + 1) * 4 + i = 4 + (j * 4 + i) := by omega
    rw [e, e2, List.getElem?_append_right (by show 4 ≤ _; omega)]
    show (lnsC l)[4 + (j * 4 + i) - 4]? = _
    rw [Nat.add_sub_cancel_left]
    exact lnsC_at l j x i (by simpa using h) hi
theorem own_lines {w : World} {base : Nat} {v : Value} {l : List Ln} (h : w.ownsRow base 60 4 v l.length (lnsC l)) : ∃ (a : Option Addr) (g cap : Nat), v = .slice a l.length cap ∧ (0 < l.length → a = some ⟨g, 0, none⟩) ∧ LnAt w g l ∧ l.length ≤ cap := by
  rcases h.2 with ⟨hv, h0⟩ | ⟨g, cap, cur, hv, _, _, hle, _⟩
  · refine ⟨none, 0, 0, by rw [hv, h0], fun hp => by omega, fun j x hj => ?_, by omega⟩
    have := (List.getElem?_eq_some_iff.1 hj).1
    omega
  · refine ⟨some ⟨g, 0, none⟩, g, cap, hv, fun _ => rfl, fun j x hj => ?_, hle⟩
    have hjl : j < l.length := (List.getElem?_eq_some_iff.1 hj).1
    subst hv
    have hc : ∀ i, i < 4 → w.cell? ⟨g, j * 4 + i, none⟩ = (lnC x)[i]? := fun i hi => (h.cellAt (j * 4 + i) (by omega)).trans (lnsC_at l j x i hj hi)
    exact ⟨hc 0 (by omega), hc 1 (by omega), hc 2 (by omega), hc 3 (by omega)⟩
end Go.Proofs.YtiinhfbfciccnaaDoor
