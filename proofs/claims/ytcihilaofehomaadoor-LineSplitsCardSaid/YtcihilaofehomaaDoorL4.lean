/- The walk of the law LineSplits. -/
import Derived.Test.YtcihilaofehomaaDoorK1
import Derived.Test.YtcihilaofehomaaDoorR2
namespace Go.Proofs.YtcihilaofehomaaDoor
open Go.RowKit Lin
theorem splF_len : ∀ (n : Nat) (l : L) (ws : List L), splF n l = some ws → ws.length ≤ n
  | n, [], ws, h => by cases n <;> (cases h; simp)
  | 0, _ :: _, ws, h => by cases h
  | n + 1, c :: r, ws, h => by
    simp only [splF] at h
    cases hp : cutW (c :: r) with
    | none => rw [hp] at h; cases h
    | some p =>
      rw [hp] at h
      simp only [Option.bind_some, Option.map_eq_some_iff] at h
      obtain ⟨u, hu, rfl⟩ := h
      have := splF_len n _ u hu
      simp; omega
set_option maxRecDepth 100000 in
set_option maxHeartbeats 4000000 in
theorem splits_walk (s : ByteArray) (w : World) (hg : Mx w) :
    Calls Tryd.prog 4 #[.string s] w fun e w' => e = .returned (.bool true) ∧ Below w.heap.size w w' := by
  have hkn := known_any w hg
  by_cases hz : 2000 < s.size
  · have hzI : (2000 : Int) < (s.size : Int) := by omega
    go_enter Tryd.func4, Tryd.ntmps4
    go_wp2_with fail
    refine hkn.mono ?_
    rintro e w1 ⟨rfl, hb1⟩
    go_wp2_with fail
    go_ret
    exact ⟨rfl, hb1⟩
  have hzI : decide ((2000 : Int) < (s.size : Int)) = false := by simp; omega
  obtain ⟨Q, _, _, hQe⟩ := letters (quo s.data.toList)
  have hq1 : Hid (∀ w, Calls Tryd.prog 18 #[.string s] w fun e w' => e = .returned (.string Q) ∧ Below w.heap.size w w') := by
    intro w
    have := quote_any s w (by omega)
    rw [hQe] at this
    exact this
  have hq2 : Hid (∀ w, Calls Tryd.prog 19 #[.string s] w fun e w' => e = .returned (.string Q) ∧ Below w.heap.size w w') := by
    intro w
    have := rquote_any s w (by omega)
    rw [hQe] at this
    exact this
  have hQQ : (Q.toList == Q.toList) = true := by simp
  have hs1 := fun w => split_any s w (by omega)
  have hs2 := fun w => rsplit_any s w (by omega)
  have hlen : Hid (∀ l, spl s.data.toList = some l → l.length ≤ 1000000) := fun l h => by
    have := splF_len _ _ _ h
    rw [size_list] at this
    omega
  clear hQe
  cases hsp : spl s.data.toList with
  | none =>
    rw [hsp] at hs1 hs2
    have hs1' : Hid (∀ w, Calls Tryd.prog 15 #[.string s] w fun e w' => e = .returned (.tuple #[.slice none 0 0, .int .i64 50]) ∧ Below w.heap.size w w') := hs1
    have hs2' : Hid (∀ w, Calls Tryd.prog 16 #[.string s] w fun e w' => e = .returned (.tuple #[.slice none 0 0, .int .i64 50]) ∧ Below w.heap.size w w') := hs2
    have htx : Hid (∀ w, Calls Tryd.prog 17 #[.slice none 0 0, .slice none 0 0] w fun e w' => e = .returned (.bool true) ∧ Below w.heap.size w w') := fun w => texts_same none none 0 0 0 0 0 0 [] w (fun h => by simp at h) (fun h => by simp at h) (fun j x hj => by simp at hj) (fun j x hj => by simp at hj) (by simp)
    clear hs1 hs2 hsp
    go_enter Tryd.func4, Tryd.ntmps4
    go_wp2_with fail
    refine hkn.mono ?_
    rintro e w1 ⟨rfl, hb1⟩
    go_wp2_with fail
    refine (hs1'.out _).mono ?_
    rintro e w2 ⟨rfl, hb2⟩
    have hb12 := hb1.trans (hb2.mono hb1.size)
    go_wp2_with fail
    refine (hs2'.out _).mono ?_
    rintro e w3 ⟨rfl, hb3⟩
    have hb13 := hb12.trans (hb3.mono hb12.size)
    go_wp2_with fail
    refine (htx.out _).mono ?_
    rintro e w4 ⟨rfl, hb4⟩
    have hb14 := hb13.trans (hb4.mono hb13.size)
    go_wp2_with fail
    refine (hq1.out _).mono ?_
    rintro e w5 ⟨rfl, hb5⟩
    have hb15 := hb14.trans (hb5.mono hb14.size)
    go_wp2_with fail
    refine (hq2.out _).mono ?_
    rintro e w6 ⟨rfl, hb6⟩
    have hb16 := hb15.trans (hb6.mono hb15.size)
    go_wp2_with fail
    go_ret
    exact ⟨rfl, hb16⟩
  | some l =>
    have hll := hlen.out l hsp
    rw [hsp] at hs1 hs2
    have hs1' : Hid (∀ w, Calls Tryd.prog 15 #[.string s] w (SplitP (some l) w)) := hs1
    have hs2' : Hid (∀ w, Calls Tryd.prog 16 #[.string s] w (SplitP (some l) w)) := hs2
    clear hs1 hs2 hsp
    go_enter Tryd.func4, Tryd.ntmps4
    go_wp2_with fail
    refine hkn.mono ?_
    rintro e w1 ⟨rfl, hb1⟩
    go_wp2_with fail
    refine (hs1'.out _).mono ?_
    rintro e w2 ⟨v2, rfl, hown2, hb2⟩
    have hb12 := hb1.trans (hb2.mono hb1.size)
    go_wp2_with fail
    refine (hs2'.out _).mono ?_
    rintro e w3 ⟨v3, rfl, hown3, hb3⟩
    have hb13 := hb12.trans (hb3.mono hb12.size)
    obtain ⟨a2, g2, cap2, rfl, ha2, hc2⟩ := own_cells (own_below hown2 hb3)
    obtain ⟨a3, g3, cap3, rfl, ha3, hc3⟩ := own_cells hown3
    obtain ⟨zs, hzs⟩ : ∃ zs, (l.map fun y => (⟨y.toArray⟩ : ByteArray)) = zs := ⟨_, rfl⟩
    have hzl : zs.length = l.length := by rw [← hzs, List.length_map]
    rw [hzs] at hc2 hc3
    have htx := texts_same a2 a3 g2 0 cap2 g3 0 cap3 zs w3 (by rw [hzl]; exact ha2) (by rw [hzl]; exact ha3) hc2 hc3 (by rw [hzl]; exact hll)
    rw [hzl] at htx
    have htx' : Hid (Calls Tryd.prog 17 #[.slice a2 l.length cap2, .slice a3 l.length cap3] w3 fun e w' => e = .returned (.bool true) ∧ Below w3.heap.size w3 w') := htx
    clear htx hc2 hc3 hown2 hown3 ha2 ha3 hzs hzl
    go_wp2_with (go_at_call 17; refine htx'.out.mono ?_)
    rintro e w4 ⟨rfl, hb4⟩
    have hb14 := hb13.trans (hb4.mono hb13.size)
    go_wp2_with fail
    refine (hq1.out _).mono ?_
    rintro e w5 ⟨rfl, hb5⟩
    have hb15 := hb14.trans (hb5.mono hb14.size)
    go_wp2_with fail
    refine (hq2.out _).mono ?_
    rintro e w6 ⟨rfl, hb6⟩
    have hb16 := hb15.trans (hb6.mono hb15.size)
    go_wp2_with fail
    go_ret
    exact ⟨rfl, hb16⟩
end Go.Proofs.YtcihilaofehomaaDoor
