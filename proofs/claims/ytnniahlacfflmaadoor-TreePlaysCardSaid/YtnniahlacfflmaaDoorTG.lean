/- The contract of package tree's Remove. -/
import Derived.Test.YtnniahlacfflmaaDoorTF
namespace Go.Proofs.YtnniahlacfflmaaDoor
open Go.RowKit Go.Shelf
attribute [local go_sem] Oper.semAt_some
theorem fErr_ok {P : Pl} {s : ByteArray} (h : fErr P s = 0) : isP s = true ∧ inS s P.ks = true ∧ fNd P s = P.nd s := by
  unfold fErr at h
  unfold fNd
  cases h1 : isP s with
  | false => rw [h1] at h; cases h
  | true =>
    rw [h1] at h
    cases h2 : inS s P.ks with
    | false => rw [h2] at h; cases h
    | true => exact ⟨rfl, rfl, by rw [if_pos ⟨rfl, rfl⟩]⟩
theorem removeP_err {P : Pl} {s : ByteArray} (h : fErr P s ≠ 0) : removeP P s = (fErr P s, P) := by
  unfold fErr at h ⊢
  unfold removeP
  split
  · rfl
  · rename_i h1
    rw [if_neg h1] at h
    split
    · rename_i h2; rw [if_pos h2] at h; exact absurd rfl h
    · rfl
theorem removeP_at {P : Pl} {s : ByteArray} (h : fErr P s = 0) : removeP P s = if s = rootS ∨ (0 < (P.nd s).ins ∨ (P.nd s).m = true) then (112, P) else (0, ⟨remS s P.ks, bumpN (up P.nd s ndZ) (fo s) (-1), bump (bump P.st s) (fo s)⟩) := by
  obtain ⟨h1, h2, _⟩ := fErr_ok h
  unfold removeP
  rw [if_neg (by rw [h1]; simp), if_pos h2]
theorem beq_root {s : ByteArray} (h : s ≠ rootS) : (s.toList == [47]) = false := by
  cases h2 : (s.toList == [47]) with
  | false => rfl
  | true =>
    have : s.toList = [47] := by simpa using h2
    rw [Lib.toList_data] at this
    exact absurd (byt_root.1 this) h
set_option maxRecDepth 100000 in
set_option maxHeartbeats 4000000 in
theorem remove_any (S : St) (s : ByteArray) (w : World) (h : Ts w S) (hw : Wf S.p) (hs : s.size ≤ 1000) (hc : S.c ≤ 900000) :
    Calls Tryd.prog 14 #[.pointer (some ⟨S.bt, 0, none⟩), .string s] w fun e w' => e = .returned (.int .i64 (removeP S.p s).1) ∧ Goes S w (removeP S.p s).2 4 w' := by
  have hf := hidP (find_all S s w h hs)
  have fin0 : Hid (∀ W, Below w.heap.size w W → Goes S w S.p 4 W) := fun W b => (Goes.below h b).mono (by omega)
  by_cases he : fErr S.p s = 0
  · obtain ⟨hP1, hP2, hP3⟩ := fErr_ok he
    rw [removeP_at he]
    rw [he, hP3] at hf
    obtain ⟨n, hn⟩ : ∃ n, S.p.nd s = n := ⟨_, rfl⟩
    rw [hn] at hf ⊢
    unfold ndV at hf
    by_cases hr : s = rootS
    · rw [if_pos (.inl hr)]
      have hr' : (s.toList == [47]) = true := by rw [hr, Lib.toList_data]; rfl
      clear h hw hn hP1 hP2 hP3 he hr
      go_enter Tryd.func14, Tryd.ntmps14
      go_wp2_with fail
      refine hf.out.mono ?_
      rintro e w2 ⟨rfl, hb⟩
      have fin2 := hidP (fin0.out _ (hb.alloc (by have := hb.size; omega) (.cells #[.bool n.f, .int .i64 n.ins, .bool n.m, .string n.wh, .int .i64 n.un] 61)))
      clear hf hb fin0
      go_wp2_with fail
      go_ret
      exact ⟨rfl, fin2.out⟩
    · have hr' := beq_root hr
      by_cases hi : 0 < n.ins
      · rw [if_pos (.inr (.inl hi))]
        clear h hw hn hP1 hP2 hP3 he hr
        go_enter Tryd.func14, Tryd.ntmps14
        go_wp2_with fail
        refine hf.out.mono ?_
        rintro e w2 ⟨rfl, hb⟩
        have fin2 := hidP (fin0.out _ (hb.alloc (by have := hb.size; omega) (.cells #[.bool n.f, .int .i64 n.ins, .bool n.m, .string n.wh, .int .i64 n.un] 61)))
        clear hf hb fin0
        go_wp2_with fail
        go_ret
        exact ⟨rfl, fin2.out⟩
      · cases hm : n.m with
        | true =>
          rw [if_pos (.inr (.inr rfl))]
          rw [hm] at hf
          clear h hw hn hP1 hP2 hP3 he hr
          go_enter Tryd.func14, Tryd.ntmps14
          go_wp2_with fail
          refine hf.out.mono ?_
          rintro e w2 ⟨rfl, hb⟩
          have fin2 := hidP (fin0.out _ (hb.alloc (by have := hb.size; omega) (.cells #[.bool n.f, .int .i64 n.ins, .bool true, .string n.wh, .int .i64 n.un] 61)))
          clear hf hb fin0
          go_wp2_with fail
          go_ret
          exact ⟨rfl, fin2.out⟩
        | false =>
          rw [if_neg (by rintro (q | q | q); exact hr q; exact hi q; cases q)]
          rw [hm] at hf
          have hmem := inS_iff.1 hP2
          have hup := (hw.par s hmem hr).1
          have hne := fo_ne hP1 hr
          have hnx : Hid (∀ W, Below w.heap.size w W → ∃ W', (Builtin.delete_ #[62, 9] 0 #[.map (some S.bh), .string s]).run Tryd.prog W = .ok (.tuple #[]) W' ∧ W.cell? ⟨S.bt, 0, none⟩ = some (.map (some S.bh)) ∧
              Hid (Calls Tryd.prog 30 #[.pointer (some ⟨S.bt, 0, none⟩), .string s, .int .i64 (-1)] W' fun e w' => e = .returned (.tuple #[]) ∧ Goes S w ⟨remS s S.p.ks, bumpN (up S.p.nd s ndZ) (fo s) (-1), bump (bump S.p.st s) (fo s)⟩ 4 w')) := fun W b => by
            obtain ⟨W', hr, g⟩ := (h.below b).del hs (remS s S.p.ks) (fun x => mem_remS) 0
            refine ⟨W', hr, (h.below b).c0, ?_⟩
            refine (count_any _ s (-1) W' g.g hs (isP_size hP1) (by omega) (by omega) (mem_remS.2 ⟨hup, hne⟩) (by show S.c + 1 ≤ 900001; omega)).mono ?_
            rintro e w' ⟨rfl, g2⟩
            exact ⟨rfl, Goes.ahead b (g.trans g2)⟩
          clear h hw hn hP1 hP2 hP3 he hr fin0 hmem hup hne
          go_enter Tryd.func14, Tryd.ntmps14
          go_wp2_with fail
          refine hf.out.mono ?_
          rintro e w2 ⟨rfl, hb⟩
          obtain ⟨W3, hW3⟩ : ∃ W3, w2.alloc (.cells #[.bool n.f, .int .i64 n.ins, .bool false, .string n.wh, .int .i64 n.un] 61) = W3 := ⟨_, rfl⟩
          have hB3 : Below w.heap.size w W3 := by rw [← hW3]; exact hb.alloc (by have := hb.size; omega) _
          obtain ⟨W4, r4, r5, hcn⟩ := hnx.out W3 hB3
          have j1 : W3.cell? ⟨w2.heap.size, 1, none⟩ = some (.int .i64 n.ins) := by rw [← hW3]; exact cell_at rfl rfl
          have j2 : W3.cell? ⟨w2.heap.size, 2, none⟩ = some (.bool false) := by rw [← hW3]; exact cell_at rfl rfl
          clear hf hb hnx hB3
          go_wp2_with (rw [hW3])
          refine hcn.out.mono ?_
          rintro e w6 ⟨rfl, g6⟩
          have fin := hidP g6
          clear g6 hcn
          go_wp2_with fail
          go_ret
          exact ⟨rfl, fin.out⟩
  · rw [removeP_err he]
    obtain ⟨n, hn⟩ : ∃ n, fNd S.p s = n := ⟨_, rfl⟩
    obtain ⟨v, hv⟩ : ∃ v, fErr S.p s = v := ⟨_, rfl⟩
    rw [hn, hv] at hf
    rw [hv] at he ⊢
    unfold ndV at hf
    clear h hn hv hw
    go_enter Tryd.func14, Tryd.ntmps14
    go_wp2_with fail
    refine hf.out.mono ?_
    rintro e w2 ⟨rfl, hb⟩
    have fin2 := hidP (fin0.out _ (hb.alloc (by have := hb.size; omega) (.cells #[.bool n.f, .int .i64 n.ins, .bool n.m, .string n.wh, .int .i64 n.un] 61)))
    clear hf hb fin0
    go_wp2_with fail
    go_ret
    exact ⟨rfl, fin2.out⟩
end Go.Proofs.YtnniahlacfflmaaDoor
