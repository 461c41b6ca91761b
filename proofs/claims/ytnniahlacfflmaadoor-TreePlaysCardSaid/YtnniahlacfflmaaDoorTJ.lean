/- The contracts of package tree's Mount and Unmount. -/
import Derived.Test.YtnniahlacfflmaaDoorTI
namespace Go.Proofs.YtnniahlacfflmaaDoor
open Go.RowKit Go.Shelf
attribute [local go_sem] Oper.semAt_some
theorem mountP_err {P : Pl} {t s : ByteArray} (h : fErr P s ≠ 0) : mountP P t s = (fErr P s, P) := by
  unfold fErr at h ⊢
  unfold mountP
  split
  · rfl
  · rename_i h1
    rw [if_neg h1] at h
    split
    · rename_i h2; rw [if_pos h2] at h; exact absurd rfl h
    · rfl
theorem mountP_at {P : Pl} {t s : ByteArray} (h : fErr P s = 0) : mountP P t s = if (P.nd s).f = false then (110, P) else if (P.nd s).m = true then (112, P) else (0, { P with nd := bumpU 1 (abv s) (up P.nd s { P.nd s with m := true, wh := t }) }) := by
  obtain ⟨h1, h2, _⟩ := fErr_ok h
  unfold mountP
  rw [if_neg (by rw [h1]; simp), if_pos h2]
theorem unmountP_err {P : Pl} {s : ByteArray} (h : fErr P s ≠ 0) : unmountP P s = (fErr P s, P) := by
  unfold fErr at h ⊢
  unfold unmountP
  split
  · rfl
  · rename_i h1
    rw [if_neg h1] at h
    split
    · rename_i h2; rw [if_pos h2] at h; exact absurd rfl h
    · rfl
theorem unmountP_at {P : Pl} {s : ByteArray} (h : fErr P s = 0) : unmountP P s = if (P.nd s).m = false then (110, P) else if 0 < (P.nd s).un then (112, P) else (0, { P with nd := bumpU (-1) (abv s) (up P.nd s { P.nd s with m := false, wh := noS }) }) := by
  obtain ⟨h1, h2, _⟩ := fErr_ok h
  unfold unmountP
  rw [if_neg (by rw [h1]; simp), if_pos h2]
set_option maxRecDepth 100000 in
set_option maxHeartbeats 4000000 in
theorem mount_any (S : St) (t s : ByteArray) (w : World) (h : Ts w S) (hw : Wf S.p) (hs : s.size ≤ 1000) (hc : S.c ≤ 900000) :
    Calls Tryd.prog 16 #[.pointer (some ⟨S.bt, 0, none⟩), .string t, .string s] w fun e w' => e = .returned (.int .i64 (mountP S.p t s).1) ∧ Goes S w (mountP S.p t s).2 1001 w' := by
  have hf := hidP (find_all S s w h hs)
  have fin0 : Hid (∀ W, Below w.heap.size w W → Goes S w S.p 1001 W) := fun W b => (Goes.below h b).mono (by omega)
  by_cases he : fErr S.p s = 0
  · obtain ⟨hP1, hP2, hP3⟩ := fErr_ok he
    rw [mountP_at he]
    rw [he, hP3] at hf
    obtain ⟨n, hn⟩ : ∃ n, S.p.nd s = n := ⟨_, rfl⟩
    rw [hn] at hf ⊢
    unfold ndV at hf
    cases hff : n.f with
    | false =>
      rw [if_pos rfl]
      rw [hff] at hf
      clear h hw hn hP1 hP2 hP3 he
      go_enter Tryd.func16, Tryd.ntmps16
      go_wp2_with fail
      refine hf.out.mono ?_
      rintro e w2 ⟨rfl, hb⟩
      have fin2 := hidP (fin0.out _ (hb.alloc (by have := hb.size; omega) (.cells #[.bool false, .int .i64 n.ins, .bool n.m, .string n.wh, .int .i64 n.un] 61)))
      clear hf hb fin0
      go_wp2_with fail
      go_ret
      exact ⟨rfl, fin2.out⟩
    | true =>
      rw [if_neg (by simp)]
      rw [hff] at hf
      cases hm : n.m with
      | true =>
        rw [if_pos rfl]
        rw [hm] at hf
        clear h hw hn hP1 hP2 hP3 he
        go_enter Tryd.func16, Tryd.ntmps16
        go_wp2_with fail
        refine hf.out.mono ?_
        rintro e w2 ⟨rfl, hb⟩
        have fin2 := hidP (fin0.out _ (hb.alloc (by have := hb.size; omega) (.cells #[.bool true, .int .i64 n.ins, .bool true, .string n.wh, .int .i64 n.un] 61)))
        clear hf hb fin0
        go_wp2_with fail
        go_ret
        exact ⟨rfl, fin2.out⟩
      | false =>
        rw [if_neg (by simp)]
        rw [hm] at hf
        have hmem := inS_iff.1 hP2
        have hnx : Hid (∀ W, Below w.heap.size w W → ∃ W', (Instr.mapUpdate 62 (.map (some S.bh)) (.string s) (.agg #[.bool true, .int .i64 n.ins, .bool true, .string t, .int .i64 n.un])).run Tryd.prog W = .ok () W' ∧ W.cell? ⟨S.bt, 0, none⟩ = some (.map (some S.bh)) ∧
            Hid (Calls Tryd.prog 38 #[.pointer (some ⟨S.bt, 0, none⟩), .string s, .int .i64 1] W' fun e w' => e = .returned (.tuple #[]) ∧ Goes S w { S.p with nd := bumpU 1 (abv s) (up S.p.nd s { n with m := true, wh := t }) } 1001 w')) := fun W b => by
          have b1 := h.b1 s
          have b2 := h.b2 s
          rw [hn] at b1 b2
          obtain ⟨W', hr, g⟩ := (h.below b).put hs { n with m := true, wh := t } S.p.ks (fun x => ⟨.inr, fun e => e.elim (fun e => by rw [e]; exact hmem) id⟩) (by omega) (by simp only; omega) (by simp only; omega)
          unfold ndV at hr
          simp only [hff] at hr
          refine ⟨W', hr, (h.below b).c0, ?_⟩
          refine (countMount_any _ s 1 W' g.g (isP_hd hP1) hs (by omega) (by omega) (hw.above hmem) (by show S.c + 1 ≤ 900001; omega)).mono ?_
          rintro e w' ⟨rfl, g2⟩
          exact ⟨rfl, Goes.ahead b (g.trans g2)⟩
        clear h hw hn hP1 hP2 hP3 he fin0 hmem
        go_enter Tryd.func16, Tryd.ntmps16
        go_wp2_with fail
        refine hf.out.mono ?_
        rintro e w2 ⟨rfl, hb⟩
        obtain ⟨W3, hW3⟩ : ∃ W3, w2.alloc (.cells #[.bool true, .int .i64 n.ins, .bool true, .string t, .int .i64 n.un] 61) = W3 := ⟨_, rfl⟩
        have hB3 : Below w.heap.size w W3.drew := by rw [← hW3]; exact (hb.alloc (by have := hb.size; omega) _).drew
        obtain ⟨W4, r4, r5, hcn⟩ := hnx.out W3.drew hB3
        have r5' : W3.cell? ⟨S.bt, 0, none⟩ = some (.map (some S.bh)) := r5
        have j0 : W3.cell? ⟨w2.heap.size, 0, none⟩ = some (.bool true) := by rw [← hW3]; exact cell_at rfl rfl
        have j1 : W3.cell? ⟨w2.heap.size, 1, none⟩ = some (.int .i64 n.ins) := by rw [← hW3]; exact cell_at rfl rfl
        have j2 : W3.cell? ⟨w2.heap.size, 2, none⟩ = some (.bool true) := by rw [← hW3]; exact cell_at rfl rfl
        have j3 : W3.cell? ⟨w2.heap.size, 3, none⟩ = some (.string t) := by rw [← hW3]; exact cell_at rfl rfl
        have j4 : W3.cell? ⟨w2.heap.size, 4, none⟩ = some (.int .i64 n.un) := by rw [← hW3]; exact cell_at rfl rfl
        clear hf hb hnx hB3
        go_wp2_with (rw [hW3])
        go_region
        go_wp2_with fail
        refine hcn.out.mono ?_
        rintro e w6 ⟨rfl, g6⟩
        have fin := hidP g6
        clear g6 hcn
        go_wp2_with fail
        go_ret
        exact ⟨rfl, fin.out⟩
  · rw [mountP_err he]
    obtain ⟨n, hn⟩ : ∃ n, fNd S.p s = n := ⟨_, rfl⟩
    obtain ⟨v, hv⟩ : ∃ v, fErr S.p s = v := ⟨_, rfl⟩
    rw [hn, hv] at hf
    rw [hv] at he ⊢
    unfold ndV at hf
    clear h hn hv hw
    go_enter Tryd.func16, Tryd.ntmps16
    go_wp2_with fail
    refine hf.out.mono ?_
    rintro e w2 ⟨rfl, hb⟩
    have fin2 := hidP (fin0.out _ (hb.alloc (by have := hb.size; omega) (.cells #[.bool n.f, .int .i64 n.ins, .bool n.m, .string n.wh, .int .i64 n.un] 61)))
    clear hf hb fin0
    go_wp2_with fail
    go_ret
    exact ⟨rfl, fin2.out⟩
set_option maxRecDepth 100000 in
set_option maxHeartbeats 4000000 in
theorem unmount_any (S : St) (s : ByteArray) (w : World) (h : Ts w S) (hw : Wf S.p) (hs : s.size ≤ 1000) (hc : S.c ≤ 900000) :
    Calls Tryd.prog 18 #[.pointer (some ⟨S.bt, 0, none⟩), .string s] w fun e w' => e = .returned (.int .i64 (unmountP S.p s).1) ∧ Goes S w (unmountP S.p s).2 1001 w' := by
  have hf := hidP (find_all S s w h hs)
  have fin0 : Hid (∀ W, Below w.heap.size w W → Goes S w S.p 1001 W) := fun W b => (Goes.below h b).mono (by omega)
  by_cases he : fErr S.p s = 0
  · obtain ⟨hP1, hP2, hP3⟩ := fErr_ok he
    rw [unmountP_at he]
    rw [he, hP3] at hf
    obtain ⟨n, hn⟩ : ∃ n, S.p.nd s = n := ⟨_, rfl⟩
    rw [hn] at hf ⊢
    unfold ndV at hf
    cases hm : n.m with
    | false =>
      rw [if_pos rfl]
      rw [hm] at hf
      clear h hw hn hP1 hP2 hP3 he
      go_enter Tryd.func18, Tryd.ntmps18
      go_wp2_with fail
      refine hf.out.mono ?_
      rintro e w2 ⟨rfl, hb⟩
      have fin2 := hidP (fin0.out _ (hb.alloc (by have := hb.size; omega) (.cells #[.bool n.f, .int .i64 n.ins, .bool false, .string n.wh, .int .i64 n.un] 61)))
      clear hf hb fin0
      go_wp2_with fail
      go_ret
      exact ⟨rfl, fin2.out⟩
    | true =>
      rw [if_neg (by simp)]
      rw [hm] at hf
      by_cases hu : 0 < n.un
      · rw [if_pos hu]
        clear h hw hn hP1 hP2 hP3 he
        go_enter Tryd.func18, Tryd.ntmps18
        go_wp2_with fail
        refine hf.out.mono ?_
        rintro e w2 ⟨rfl, hb⟩
        have fin2 := hidP (fin0.out _ (hb.alloc (by have := hb.size; omega) (.cells #[.bool n.f, .int .i64 n.ins, .bool true, .string n.wh, .int .i64 n.un] 61)))
        clear hf hb fin0
        go_wp2_with fail
        go_ret
        exact ⟨rfl, fin2.out⟩
      · rw [if_neg hu]
        have hmem := inS_iff.1 hP2
        have hnx : Hid (∀ W, Below w.heap.size w W → ∃ W', (Instr.mapUpdate 62 (.map (some S.bh)) (.string s) (.agg #[.bool n.f, .int .i64 n.ins, .bool false, .string ⟨#[]⟩, .int .i64 n.un])).run Tryd.prog W = .ok () W' ∧ W.cell? ⟨S.bt, 0, none⟩ = some (.map (some S.bh)) ∧
            Hid (Calls Tryd.prog 38 #[.pointer (some ⟨S.bt, 0, none⟩), .string s, .int .i64 (-1)] W' fun e w' => e = .returned (.tuple #[]) ∧ Goes S w { S.p with nd := bumpU (-1) (abv s) (up S.p.nd s { n with m := false, wh := noS }) } 1001 w')) := fun W b => by
          have b1 := h.b1 s
          have b2 := h.b2 s
          rw [hn] at b1 b2
          obtain ⟨W', hr, g⟩ := (h.below b).put hs { n with m := false, wh := noS } S.p.ks (fun x => ⟨.inr, fun e => e.elim (fun e => by rw [e]; exact hmem) id⟩) (by omega) (by simp only; omega) (by simp only; omega)
          unfold ndV at hr
          simp only [noS] at hr
          refine ⟨W', hr, (h.below b).c0, ?_⟩
          refine (countMount_any _ s (-1) W' g.g (isP_hd hP1) hs (by omega) (by omega) (hw.above hmem) (by show S.c + 1 ≤ 900001; omega)).mono ?_
          rintro e w' ⟨rfl, g2⟩
          exact ⟨rfl, Goes.ahead b (g.trans g2)⟩
        clear h hw hn hP1 hP2 hP3 he fin0 hmem
        go_enter Tryd.func18, Tryd.ntmps18
        go_wp2_with fail
        refine hf.out.mono ?_
        rintro e w2 ⟨rfl, hb⟩
        obtain ⟨W3, hW3⟩ : ∃ W3, w2.alloc (.cells #[.bool n.f, .int .i64 n.ins, .bool false, .string ⟨#[]⟩, .int .i64 n.un] 61) = W3 := ⟨_, rfl⟩
        have hB3 : Below w.heap.size w W3.drew := by rw [← hW3]; exact (hb.alloc (by have := hb.size; omega) _).drew
        obtain ⟨W4, r4, r5, hcn⟩ := hnx.out W3.drew hB3
        have r5' : W3.cell? ⟨S.bt, 0, none⟩ = some (.map (some S.bh)) := r5
        have j0 : W3.cell? ⟨w2.heap.size, 0, none⟩ = some (.bool n.f) := by rw [← hW3]; exact cell_at rfl rfl
        have j1 : W3.cell? ⟨w2.heap.size, 1, none⟩ = some (.int .i64 n.ins) := by rw [← hW3]; exact cell_at rfl rfl
        have j2 : W3.cell? ⟨w2.heap.size, 2, none⟩ = some (.bool false) := by rw [← hW3]; exact cell_at rfl rfl
        have j3 : W3.cell? ⟨w2.heap.size, 3, none⟩ = some (.string ⟨#[]⟩) := by rw [← hW3]; exact cell_at rfl rfl
        have j4 : W3.cell? ⟨w2.heap.size, 4, none⟩ = some (.int .i64 n.un) := by rw [← hW3]; exact cell_at rfl rfl
        clear hf hb hnx hB3
        go_wp2_with (rw [hW3])
        go_region
        go_wp2_with fail
        refine hcn.out.mono ?_
        rintro e w6 ⟨rfl, g6⟩
        have fin := hidP g6
        clear g6 hcn
        go_wp2_with fail
        go_ret
        exact ⟨rfl, fin.out⟩
  · rw [unmountP_err he]
    obtain ⟨n, hn⟩ : ∃ n, fNd S.p s = n := ⟨_, rfl⟩
    obtain ⟨v, hv⟩ : ∃ v, fErr S.p s = v := ⟨_, rfl⟩
    rw [hn, hv] at hf
    rw [hv] at he ⊢
    unfold ndV at hf
    clear h hn hv hw
    go_enter Tryd.func18, Tryd.ntmps18
    go_wp2_with fail
    refine hf.out.mono ?_
    rintro e w2 ⟨rfl, hb⟩
    have fin2 := hidP (fin0.out _ (hb.alloc (by have := hb.size; omega) (.cells #[.bool n.f, .int .i64 n.ins, .bool n.m, .string n.wh, .int .i64 n.un] 61)))
    clear hf hb fin0
    go_wp2_with fail
    go_ret
    exact ⟨rfl, fin2.out⟩
end Go.Proofs.YtnniahlacfflmaaDoor
