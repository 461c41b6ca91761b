/- The contracts of package tree's New, Exists, Stamp, Mounted, find, count. -/
import Derived.Test.YtnniahlacfflmaaDoorTM
namespace Go.Proofs.YtnniahlacfflmaaDoor
open Go.RowKit Go.Shelf
attribute [local go_sem] Oper.semAt_some
theorem mxne {w : World} (h : Mx w) : 0 < w.heap.size := by obtain ⟨x, hx⟩ := h; exact cell_lt hx
theorem insert_run {w : World} {b m : Nat} {f : ByteArray → Option Value} (h : MS w b m f) {t et : TypeId} (ht : Tryd.prog.underlying t = some (.map 9 et)) {s : ByteArray} (hs : s.size ≤ 1000) (v : Value) (hm : m < maxLen) :
    ∃ w', (Instr.mapUpdate t (.map (some b)) (.string s) v).run Tryd.prog w = .ok () w' ∧ MS w' b (upN (f s).isSome m) (fun x => if x = s then some v else f x) ∧ Mv (fun k => k = b) w w' := h.store lawS (fun _ _ => eS_inj) klS ht (keyS hs) v hm
set_option maxHeartbeats 1000000 in
theorem exists_any (S : St) (s : ByteArray) (w : World) (h : Ts w S) (hs : s.size ≤ 1000) : Calls Tryd.prog 22 #[.pointer (some ⟨S.bt, 0, none⟩), .string s] w fun e w' => e = .returned (.bool (inS s S.p.ks)) ∧ Below w.heap.size w w' := by
  have hl := h.look hs
  have c0 := h.c0
  obtain ⟨b, hb⟩ : ∃ b, inS s S.p.ks = b := ⟨_, rfl⟩
  rw [hb] at hl ⊢
  unfold ndV at hl
  clear h hb
  go_enter Tryd.func22, Tryd.ntmps22
  go_wp2_with fail
  go_ret
  exact ⟨rfl, (Below.refl _ _).alloc (Nat.le_refl _) _⟩
set_option maxHeartbeats 1000000 in
theorem stamp_any (S : St) (s : ByteArray) (w : World) (h : Ts w S) (hs : s.size ≤ 1000) : Calls Tryd.prog 24 #[.pointer (some ⟨S.bt, 0, none⟩), .string s] w fun e w' => e = .returned (.int .i64 (S.p.st s)) ∧ w' = w := by
  have hl := h.stamp hs
  have c1 := h.c1
  clear h
  go_enter Tryd.func24, Tryd.ntmps24
  go_wp2_with fail
  go_ret
  exact ⟨rfl, rfl⟩
set_option maxHeartbeats 1000000 in
theorem mounted_any (S : St) (s : ByteArray) (w : World) (h : Ts w S) (hs : s.size ≤ 1000) : Calls Tryd.prog 20 #[.pointer (some ⟨S.bt, 0, none⟩), .string s] w fun e w' => e = .returned (.tuple #[.string (S.p.nd s).wh, .bool (S.p.nd s).m]) ∧ Below w.heap.size w w' := by
  have hl := h.look1 hs
  have c0 := h.c0
  obtain ⟨n, hn⟩ : ∃ n, S.p.nd s = n := ⟨_, rfl⟩
  rw [hn] at hl ⊢
  unfold ndV at hl
  clear h hn
  go_enter Tryd.func20, Tryd.ntmps20
  go_wp2_with fail
  go_quiet (fail)
  go_wp2_with fail
  go_ret2
  exact ⟨rfl, below_drewN ((Below.refl _ _).alloc (Nat.le_refl _) _) _⟩
set_option maxHeartbeats 1000000 in
theorem find_any (S : St) (s : ByteArray) (w : World) (h : Ts w S) (hs : s.size ≤ 1000) : Calls Tryd.prog 35 #[.pointer (some ⟨S.bt, 0, none⟩), .string s] w fun e w' => e = .returned (.tuple #[if isP s = true ∧ inS s S.p.ks = true then ndV (S.p.nd s) else ndV ndZ, .int .i64 (if isP s = false then 111 else if inS s S.p.ks = true then 0 else 110)]) ∧ Below w.heap.size w w' := by
  obtain ⟨V, hV⟩ : ∃ V, w.alloc (.cells #[.bool false, .int .i64 0, .bool false, .string ⟨#[]⟩, .int .i64 0] 61) = V := ⟨_, rfl⟩
  have bV : Below w.heap.size w V := by rw [← hV]; exact (Below.refl _ _).alloc (Nat.le_refl _) _
  have cV : ∀ (j : Nat) (v : Value), #[Value.bool false, .int .i64 0, .bool false, .string ⟨#[]⟩, .int .i64 0][j]? = some v → V.cell? ⟨w.heap.size, j, none⟩ = some v := fun j v hj => by rw [← hV]; exact cell_at rfl hj
  have hV1 := h.below bV
  have fV : ∀ j, V.frozen? ⟨w.heap.size, j, none⟩ = false := fun j => by rw [← hV]; exact froz_new rfl
  have hp := hidP (isPath_any s V hV1.mx (by omega))
  have hsz : w.heap.size < V.heap.size := by rw [← hV]; simp
  have hAll : Hid (∀ W, Below V.heap.size V W → Ts W S ∧ Below w.heap.size w W ∧ (∀ (j : Nat) (v : Value), #[Value.bool false, .int .i64 0, .bool false, .string ⟨#[]⟩, .int .i64 0][j]? = some v → W.cell? ⟨w.heap.size, j, none⟩ = some v) ∧ (∀ j, W.frozen? ⟨w.heap.size, j, none⟩ = false) ∧ w.heap.size < W.heap.size) := fun W b =>
    ⟨hV1.below b, bV.trans (b.mono (by omega)), fun j v hj => (b.cell (p := ⟨w.heap.size, j, none⟩) hsz).trans (cV j v hj), fun j => by rw [World.frozen?_of_block (b.block _ hsz)]; exact fV j, by have := b.size; omega⟩
  cases hq : isP s with
  | false =>
    rw [hq] at hp
    rw [if_neg (by simp), if_pos rfl]
    clear hV1 cV fV bV hq h hsz
    go_enter Tryd.func35, Tryd.ntmps35
    go_wp2_with (first | rw [hV])
    refine hp.out.mono ?_
    rintro e w2 ⟨rfl, hb⟩
    obtain ⟨hT, hB, hc, hf, _⟩ := hAll.out w2 hb
    have k0 := hc 0 _ rfl
    have k1 := hc 1 _ rfl
    have k2 := hc 2 _ rfl
    have k3 := hc 3 _ rfl
    have k4 := hc 4 _ rfl
    have f0 := hf 0
    have f1 := hf 1
    have f2 := hf 2
    have f3 := hf 3
    have f4 := hf 4
    clear hc hf hT
    go_wp2_with fail
    refine bodyPost_ret (v := .tuple #[ndV ndZ, .int .i64 111]) (by simp [results, Tryd.results35, go_sem, k0, k1, k2, k3, k4, ndV, ndZ, noS]) rfl ⟨rfl, ?_⟩
    exact ((((hB.setCell (Nat.le_refl _) _).setCell (Nat.le_refl _) _).setCell (Nat.le_refl _) _).setCell (Nat.le_refl _) _).setCell (Nat.le_refl _) _
  | true =>
    rw [hq] at hp
    have hlk : Hid (∀ W, Below V.heap.size V W → (Instr.lookup 62 (.map (some S.bh)) (.string s) true).run Tryd.prog W = .ok (.tuple #[ndV (S.p.nd s), .bool (inS s S.p.ks)]) W ∧ W.cell? ⟨S.bt, 0, none⟩ = some (.map (some S.bh))) := fun W b => ⟨(hV1.below b).look hs, (hV1.below b).c0⟩
    obtain ⟨n, hn⟩ : ∃ n, S.p.nd s = n := ⟨_, rfl⟩
    rw [hn] at hlk ⊢
    cases hi : inS s S.p.ks with
    | false =>
      rw [hi] at hlk
      rw [if_neg (by simp), if_neg (by simp), if_neg (by simp)]
      clear hV1 cV fV bV hq h hsz hi hn
      go_enter Tryd.func35, Tryd.ntmps35
      go_wp2_with (first | rw [hV])
      refine hp.out.mono ?_
      rintro e w2 ⟨rfl, hb⟩
      obtain ⟨hT, hB, hc, hf, hlt⟩ := hAll.out w2 hb
      obtain ⟨l1, l2⟩ := hlk.out w2 hb
      unfold ndV at l1
      obtain ⟨W3, hW3⟩ : ∃ W3, w2.alloc (.cells #[.bool n.f, .int .i64 n.ins, .bool n.m, .string n.wh, .int .i64 n.un] 61) = W3 := ⟨_, rfl⟩
      have hB3 : Below w.heap.size w W3 := by rw [← hW3]; exact hB.alloc (by omega) _
      have hc : ∀ (j : Nat) (v : Value), #[Value.bool false, .int .i64 0, .bool false, .string ⟨#[]⟩, .int .i64 0][j]? = some v → W3.cell? ⟨w.heap.size, j, none⟩ = some v := fun j v hj => by rw [← hW3]; exact (World.cell?_alloc_lt _ _ _ hlt).trans (hc j v hj)
      have hf : ∀ j, W3.frozen? ⟨w.heap.size, j, none⟩ = false := fun j => by rw [← hW3, World.frozen?_of_block (Below.heap_alloc _ _ _ hlt)]; exact hf j
      have k0 := hc 0 _ rfl
      have k1 := hc 1 _ rfl
      have k2 := hc 2 _ rfl
      have k3 := hc 3 _ rfl
      have k4 := hc 4 _ rfl
      have f0 := hf 0
      have f1 := hf 1
      have f2 := hf 2
      have f3 := hf 3
      have f4 := hf 4
      clear hc hf hT hlt hB
      go_wp2_with (rw [hW3])
      refine bodyPost_ret (v := .tuple #[ndV ndZ, .int .i64 110]) (by simp [results, Tryd.results35, go_sem, k0, k1, k2, k3, k4, ndV, ndZ, noS]) rfl ⟨rfl, ?_⟩
      exact ((((hB3.setCell (Nat.le_refl _) _).setCell (Nat.le_refl _) _).setCell (Nat.le_refl _) _).setCell (Nat.le_refl _) _).setCell (Nat.le_refl _) _
    | true =>
      rw [hi] at hlk
      rw [if_pos ⟨rfl, rfl⟩, if_neg (by simp), if_pos rfl]
      clear hV1 cV fV bV hq h hsz hi hn
      go_enter Tryd.func35, Tryd.ntmps35
      go_wp2_with (first | rw [hV])
      refine hp.out.mono ?_
      rintro e w2 ⟨rfl, hb⟩
      obtain ⟨hT, hB, hc, hf, hlt⟩ := hAll.out w2 hb
      obtain ⟨l1, l2⟩ := hlk.out w2 hb
      unfold ndV at l1
      obtain ⟨W3, hW3⟩ : ∃ W3, w2.alloc (.cells #[.bool n.f, .int .i64 n.ins, .bool n.m, .string n.wh, .int .i64 n.un] 61) = W3 := ⟨_, rfl⟩
      have hB3 : Below w.heap.size w W3 := by rw [← hW3]; exact hB.alloc (by omega) _
      have hc : ∀ (j : Nat) (v : Value), #[Value.bool false, .int .i64 0, .bool false, .string ⟨#[]⟩, .int .i64 0][j]? = some v → W3.cell? ⟨w.heap.size, j, none⟩ = some v := fun j v hj => by rw [← hW3]; exact (World.cell?_alloc_lt _ _ _ hlt).trans (hc j v hj)
      have hf : ∀ j, W3.frozen? ⟨w.heap.size, j, none⟩ = false := fun j => by rw [← hW3, World.frozen?_of_block (Below.heap_alloc _ _ _ hlt)]; exact hf j
      have k0 := hc 0 _ rfl
      have k1 := hc 1 _ rfl
      have k2 := hc 2 _ rfl
      have k3 := hc 3 _ rfl
      have k4 := hc 4 _ rfl
      have f0 := hf 0
      have f1 := hf 1
      have f2 := hf 2
      have f3 := hf 3
      have f4 := hf 4
      have j0 : W3.cell? ⟨w2.heap.size, 0, none⟩ = some (.bool n.f) := by rw [← hW3]; exact cell_at rfl rfl
      have j1 : W3.cell? ⟨w2.heap.size, 1, none⟩ = some (.int .i64 n.ins) := by rw [← hW3]; exact cell_at rfl rfl
      have j2 : W3.cell? ⟨w2.heap.size, 2, none⟩ = some (.bool n.m) := by rw [← hW3]; exact cell_at rfl rfl
      have j3 : W3.cell? ⟨w2.heap.size, 3, none⟩ = some (.string n.wh) := by rw [← hW3]; exact cell_at rfl rfl
      have j4 : W3.cell? ⟨w2.heap.size, 4, none⟩ = some (.int .i64 n.un) := by rw [← hW3]; exact cell_at rfl rfl
      clear hc hf hT hlt hB
      go_wp2_with (rw [hW3])
      refine bodyPost_ret (v := .tuple #[ndV n, .int .i64 0]) (by simp [results, Tryd.results35, go_sem, k0, k1, k2, k3, k4, ndV]) rfl ⟨rfl, ?_⟩
      exact ((((hB3.setCell (Nat.le_refl _) _).setCell (Nat.le_refl _) _).setCell (Nat.le_refl _) _).setCell (Nat.le_refl _) _).setCell (Nat.le_refl _) _
end Go.Proofs.YtnniahlacfflmaaDoor
