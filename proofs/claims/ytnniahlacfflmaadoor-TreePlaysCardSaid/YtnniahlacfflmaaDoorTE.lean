/- The contracts of package tree's New, Touch, Make, Remove. -/
import Derived.Test.YtnniahlacfflmaaDoorTD
namespace Go.Proofs.YtnniahlacfflmaaDoor
open Go.RowKit Go.Shelf
attribute [local go_sem] Oper.semAt_some
def fErr (P : Pl) (s : ByteArray) : Int := if isP s = false then 111 else if inS s P.ks = true then 0 else 110
def fNd (P : Pl) (s : ByteArray) : Nd := if isP s = true ∧ inS s P.ks = true then P.nd s else ndZ
theorem find_all (S : St) (s : ByteArray) (w : World) (h : Ts w S) (hs : s.size ≤ 1000) : Calls Tryd.prog 35 #[.pointer (some ⟨S.bt, 0, none⟩), .string s] w fun e w' => e = .returned (.tuple #[ndV (fNd S.p s), .int .i64 (fErr S.p s)]) ∧ Below w.heap.size w w' := by
  refine (find_any S s w h hs).mono ?_
  rintro e w' ⟨rfl, hb⟩
  refine ⟨?_, hb⟩
  unfold fNd fErr
  split <;> rfl
set_option maxRecDepth 100000 in
set_option maxHeartbeats 2000000 in
theorem touch_any (S : St) (s : ByteArray) (w : World) (h : Ts w S) (hs : s.size ≤ 1000) (hc : S.c ≤ 900000) :
    Calls Tryd.prog 12 #[.pointer (some ⟨S.bt, 0, none⟩), .string s] w fun e w' => e = .returned (.int .i64 (touchP S.p s).1) ∧ Goes S w (touchP S.p s).2 1 w' := by
  have hf := hidP (find_all S s w h hs)
  by_cases he : fErr S.p s = 0
  · have hP : touchP S.p s = (0, { S.p with st := bump S.p.st s }) := by
      unfold fErr at he
      unfold touchP
      split at he
      · cases he
      · rename_i h1
        rw [if_neg h1]
        split at he
        · rename_i h2; rw [if_pos h2]
        · cases he
    rw [hP]
    rw [he] at hf
    obtain ⟨n, hn⟩ : ∃ n, fNd S.p s = n := ⟨_, rfl⟩
    rw [hn] at hf
    unfold ndV at hf
    have hAll : Hid (∀ W, Below w.heap.size w W → ∃ W', (Instr.lookup 63 (.map (some S.bs)) (.string s) false).run Tryd.prog W = .ok (.int .i64 (S.p.st s)) W ∧ W.cell? ⟨S.bt, 1, none⟩ = some (.map (some S.bs)) ∧ (Instr.mapUpdate 63 (.map (some S.bs)) (.string s) (.int .i64 (S.p.st s + 1))).run Tryd.prog W = .ok () W' ∧ Hid (Goes S w { S.p with st := bump S.p.st s } 1 W')) := fun W b => by
      have hT := h.below b
      obtain ⟨W', hr, g⟩ := hT.mark (s := s) hs (by omega)
      exact ⟨W', hT.stamp hs, hT.c1, hr, Goes.ahead b g⟩
    have b3 := h.b3 s
    obtain ⟨u, hu⟩ : ∃ u, S.p.st s = u := ⟨_, rfl⟩
    rw [hu] at hAll b3
    have hwr : IntKind.i64.wrap (u + 1) = u + 1 := by rw [IntKind.wrap_i64]; omega
    clear h hn hP he hu
    go_enter Tryd.func12, Tryd.ntmps12
    go_wp2_with fail
    refine hf.out.mono ?_
    rintro e w2 ⟨rfl, hb⟩
    obtain ⟨W3, hW3⟩ : ∃ W3, w2.alloc (.cells #[.bool n.f, .int .i64 n.ins, .bool n.m, .string n.wh, .int .i64 n.un] 61) = W3 := ⟨_, rfl⟩
    have hB3 : Below w.heap.size w W3 := by rw [← hW3]; exact hb.alloc (by have := hb.size; omega) _
    obtain ⟨W4, r1, r2, r3, r4⟩ := hAll.out W3 hB3
    clear hAll hf hb
    go_wp2_with (rw [hW3])
    go_ret
    exact ⟨rfl, r4.out⟩
  · have hP : touchP S.p s = (fErr S.p s, S.p) := by
      unfold fErr at he ⊢
      unfold touchP
      split
      · rfl
      · rename_i h1
        rw [if_neg h1] at he
        split
        · rename_i h2; rw [if_pos h2] at he; exact absurd rfl he
        · rfl
    rw [hP]
    obtain ⟨n, hn⟩ : ∃ n, fNd S.p s = n := ⟨_, rfl⟩
    obtain ⟨v, hv⟩ : ∃ v, fErr S.p s = v := ⟨_, rfl⟩
    rw [hn, hv] at hf
    rw [hv] at he ⊢
    unfold ndV at hf
    have fin : Hid (∀ W, Below w.heap.size w W → Goes S w S.p 1 W) := fun W b => (Goes.below h b).mono (by omega)
    clear h hn hP hv
    go_enter Tryd.func12, Tryd.ntmps12
    go_wp2_with fail
    refine hf.out.mono ?_
    rintro e w2 ⟨rfl, hb⟩
    have fin2 := hidP (fin.out _ (hb.alloc (by have := hb.size; omega) (.cells #[.bool n.f, .int .i64 n.ins, .bool n.m, .string n.wh, .int .i64 n.un] 61)))
    clear hf hb fin
    go_wp2_with fail
    go_ret
    exact ⟨rfl, fin2.out⟩
end Go.Proofs.YtnniahlacfflmaaDoor
