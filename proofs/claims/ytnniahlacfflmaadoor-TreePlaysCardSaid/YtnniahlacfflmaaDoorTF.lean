/- The contract of package tree's Make. -/
import Derived.Test.YtnniahlacfflmaaDoorTE
import Derived.Deep.RegionWith
namespace Go.Proofs.YtnniahlacfflmaaDoor
open Go.RowKit Go.Shelf
attribute [local go_sem] Oper.semAt_some
theorem makeP_form (P : Pl) (s : ByteArray) (f : Bool) (h : isP s = false) : makeP P s f = (111, P) := by unfold makeP; rw [if_pos h]
theorem makeP_there (P : Pl) (s : ByteArray) (f : Bool) (h : isP s = true) (hi : inS s P.ks = true) : makeP P s f = (112, P) := by unfold makeP; rw [if_neg (by rw [h]; simp), if_pos hi]
theorem makeP_no (P : Pl) (s : ByteArray) (f : Bool) (h : isP s = true) (hi : inS s P.ks = false) (hf : (P.nd (fo s)).f = false) : makeP P s f = (110, P) := by unfold makeP; rw [if_neg (by rw [h]; simp), if_neg (by rw [hi]; simp), if_pos hf]
theorem makeP_ok (P : Pl) (s : ByteArray) (f : Bool) (h : isP s = true) (hi : inS s P.ks = false) (hf : (P.nd (fo s)).f = true) : makeP P s f = (0, ⟨insS s P.ks, bumpN (up P.nd s ⟨f, 0, false, noS, 0⟩) (fo s) 1, bump (bump P.st s) (fo s)⟩) := by unfold makeP; rw [if_neg (by rw [h]; simp), if_neg (by rw [hi]; simp), if_neg (by rw [hf]; simp)]
theorem fld0 (a c : Bool) (b e : Int) (d : ByteArray) (w : World) : (Instr.field 61 (.agg #[.bool a, .int .i64 b, .bool c, .string d, .int .i64 e]) 0).run Tryd.prog w = .ok (.bool a) w := by kernel_rfl
set_option maxRecDepth 100000 in
set_option maxHeartbeats 2000000 in
theorem make_any (S : St) (s : ByteArray) (f : Bool) (w : World) (h : Ts w S) (hs : s.size ≤ 1000) (hc : S.c ≤ 900000) :
    Calls Tryd.prog 10 #[.pointer (some ⟨S.bt, 0, none⟩), .string s, .bool f] w fun e w' => e = .returned (.int .i64 (makeP S.p s f).1) ∧ Goes S w (makeP S.p s f).2 4 w' := by
  have hp := hidP (isPath_any s w h.mx (by omega))
  have fin0 : Hid (∀ W, Below w.heap.size w W → Goes S w S.p 4 W) := fun W b => (Goes.below h b).mono (by omega)
  cases hq : isP s with
  | false =>
    rw [makeP_form _ _ _ hq]
    rw [hq] at hp
    clear h hq
    go_enter Tryd.func10, Tryd.ntmps10
    go_wp2_with fail
    refine hp.out.mono ?_
    rintro e w2 ⟨rfl, hb⟩
    have fin := hidP (fin0.out _ hb)
    clear hp fin0 hb
    go_wp2_with fail
    go_ret
    exact ⟨rfl, fin.out⟩
  | true =>
    rw [hq] at hp
    have h1 := isP_size hq
    have hex : Hid (∀ W, Below w.heap.size w W → Calls Tryd.prog 22 #[.pointer (some ⟨S.bt, 0, none⟩), .string s] W fun e w' => e = .returned (.bool (inS s S.p.ks)) ∧ Below W.heap.size W w') := fun W b => exists_any S s W (h.below b) hs
    cases hi : inS s S.p.ks with
    | true =>
      rw [makeP_there _ _ _ hq hi]
      rw [hi] at hex
      clear h hq h1 hi
      go_enter Tryd.func10, Tryd.ntmps10
      go_wp2_with fail
      refine hp.out.mono ?_
      rintro e w2 ⟨rfl, hb⟩
      have hx2 := hidP (hex.out _ hb)
      clear hp hex
      go_wp2_with fail
      refine hx2.out.mono ?_
      rintro e w3 ⟨rfl, hb3⟩
      have fin := hidP (fin0.out _ (hb.trans (hb3.mono hb.size)))
      clear hx2 fin0 hb hb3
      go_wp2_with fail
      go_ret
      exact ⟨rfl, fin.out⟩
    | false =>
      rw [hi] at hex
      have hfs : (fo s).size ≤ 1000 := Nat.le_trans (fo_le s) hs
      have hfo : Hid (∀ W, Calls Tryd.prog 29 #[.string s] W fun e w' => e = .returned (.string (fo s)) ∧ w' = W) := fun W => folderOf_any s W h1 (by omega)
      have hlk : Hid (∀ W, Below w.heap.size w W → (Instr.lookup 62 (.map (some S.bh)) (.string (fo s)) false).run Tryd.prog W = .ok (ndV (S.p.nd (fo s))) W ∧ W.cell? ⟨S.bt, 0, none⟩ = some (.map (some S.bh))) := fun W b => ⟨(h.below b).look1 hfs, (h.below b).c0⟩
      obtain ⟨n, hn⟩ : ∃ n, S.p.nd (fo s) = n := ⟨_, rfl⟩
      rw [hn] at hlk
      unfold ndV at hlk
      cases hf : n.f with
      | false =>
        rw [makeP_no _ _ _ hq hi (by rw [hn]; exact hf)]
        rw [hf] at hlk
        clear h hq h1 hi hn hf
        go_enter Tryd.func10, Tryd.ntmps10
        go_wp2_with fail
        refine hp.out.mono ?_
        rintro e w2 ⟨rfl, hb⟩
        have hx2 := hidP (hex.out _ hb)
        clear hp hex
        go_wp2_with fail
        refine hx2.out.mono ?_
        rintro e w3 ⟨rfl, hb3⟩
        have hb4 : Below w.heap.size w w3 := hb.trans (hb3.mono hb.size)
        obtain ⟨l1, l2⟩ := hlk.out _ hb4.drew
        have l3 := (hlk.out _ hb4).2
        have l4 := fld0 false n.m n.ins n.un n.wh w3.drew
        have fin := hidP (fin0.out _ hb4.drew)
        clear hx2 fin0 hb hb3 hb4 hlk
        go_wp2_with fail
        go_region_with (go_at_call 29; refine (hfo.out _).mono ?_; rintro e w4 ⟨rfl, rfl⟩)
        all_goals
          go_wp2_with fail
          go_ret
          exact ⟨rfl, fin.out⟩
      | true =>
        rw [makeP_ok _ _ _ hq hi (by rw [hn]; exact hf)]
        rw [hf] at hlk
        have hfk : fo s ∈ S.p.ks := Classical.byContradiction fun q => by
          have := h.z _ q
          rw [hn] at this
          rw [this] at hf
          cases hf
        have hnx : Hid (∀ W, Below w.heap.size w W → ∃ W', (Instr.mapUpdate 62 (.map (some S.bh)) (.string s) (.agg #[.bool f, .int .i64 0, .bool false, .string ⟨#[]⟩, .int .i64 0])).run Tryd.prog W = .ok () W' ∧
            Hid (Calls Tryd.prog 30 #[.pointer (some ⟨S.bt, 0, none⟩), .string s, .int .i64 1] W' fun e w' => e = .returned (.tuple #[]) ∧ Goes S w ⟨insS s S.p.ks, bumpN (up S.p.nd s ⟨f, 0, false, noS, 0⟩) (fo s) 1, bump (bump S.p.st s) (fo s)⟩ 4 w')) := fun W b => by
          obtain ⟨W', hr, g⟩ := (h.below b).put hs ⟨f, 0, false, noS, 0⟩ (insS s S.p.ks) (fun x => mem_insS) (by omega) (by simp only; omega) (by simp only; omega)
          refine ⟨W', hr, ?_⟩
          refine (count_any _ s 1 W' g.g hs h1 (by omega) (by omega) (mem_insS.2 (.inr hfk)) (by show S.c + 1 ≤ 900001; omega)).mono ?_
          rintro e w' ⟨rfl, g2⟩
          exact ⟨rfl, Goes.ahead b (g.trans g2)⟩
        clear h hq h1 hi hn hf fin0
        go_enter Tryd.func10, Tryd.ntmps10
        go_wp2_with fail
        refine hp.out.mono ?_
        rintro e w2 ⟨rfl, hb⟩
        have hx2 := hidP (hex.out _ hb)
        clear hp hex
        go_wp2_with fail
        refine hx2.out.mono ?_
        rintro e w3 ⟨rfl, hb3⟩
        have hb4 : Below w.heap.size w w3 := hb.trans (hb3.mono hb.size)
        obtain ⟨l1, l2⟩ := hlk.out _ hb4.drew
        have l3 := (hlk.out _ hb4).2
        have l4 := fld0 true n.m n.ins n.un n.wh w3.drew
        obtain ⟨W5, r5, hcn⟩ := hnx.out _ hb4.drew
        clear hx2 hb hb3 hb4 hlk hnx
        go_wp2_with fail
        go_region_with (go_at_call 29; refine (hfo.out _).mono ?_; rintro e w4 ⟨rfl, rfl⟩)
        all_goals
          go_wp2_with fail
          refine hcn.out.mono ?_
          rintro e w6 ⟨rfl, g6⟩
          have fin := hidP g6
          clear g6 hcn
          go_wp2_with fail
          go_ret
          exact ⟨rfl, fin.out⟩
end Go.Proofs.YtnniahlacfflmaaDoor
