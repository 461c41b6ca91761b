/- The law's all, at stop 0 and at stop 1. -/
import Derived.Test.YtcikjnifkoagpaaPD
namespace Go.Proofs.Ytcikjnifkoagpaa
open Go.RowKit Go.Shelf
set_option maxRecDepth 100000 in
set_option maxHeartbeats 4000000 in
theorem allf_1 (pa ps pt : Nat) (W0 : World) (hpa : pa < W0.heap.size) (hps : ps < W0.heap.size) (n1 : ps ≠ pa) (ca : Cl pa (.slice none 0 0) W0) (cs : W0.cell? ⟨ps, 0, none⟩ = some (.int .i64 1)) :
    Calls Try.prog 34 #[.func (.func 32) #[] #[.pointer (some ⟨pa, 0, none⟩), .pointer (some ⟨ps, 0, none⟩)], .pointer (some ⟨pt, 0, none⟩)] W0 fun e W' => e = .returned (.tuple #[]) ∧ ∃ v, Cl pa v W' ∧ W'.ownsRow W0.heap.size 40 6 v 1 (prsC [one]) ∧ Mv (Tc W0.heap.size pa) W0 W' := by
  have hcl := all1_any W0.heap.size pa ps 1 one (.slice none 0 0) [] W0 (Nat.le_refl _) hpa hps n1 ca cs (World.ownsRow_nil _ _ _ _) (by simp)
  rw [show decide (((([] : Ps).length + 1 : Nat) : Int) ≠ 1) = false from rfl] at hcl
  simp only [one, prV, List.nil_append] at hcl
  have hclH := hidP hcl
  clear hcl ca cs
  go_enter Try.func34, Try.ntmps34
  go_wp2_with fail
  refine hclH.out.mono ?_
  rintro e w1 ⟨rfl, v1, ca1, ho1, m1, _⟩
  have M1 : Hid (Mv (Tc W0.heap.size pa) W0 w1) := m1.mono (fun k _ h => by rcases h with h | h; exact .inl h; simp [Value.ownBlock] at h)
  have ho1H := hidP ho1
  have ca1H := hidP ca1
  clear ho1 ca1 m1 hclH
  go_wp2_with fail
  refine bodyPost_ret (v := .tuple #[]) (by simp [results, Try.results34, go_sem]) rfl ?_
  exact ⟨rfl, v1, ca1H.out, ho1H.out, M1.out⟩
theorem allm_any (bt : Nat) (w : World) : Calls Try.prog 31 #[.pointer (some ⟨bt, 0, none⟩)] w fun e w' => e = .returned (.func (.func 34) #[] #[.pointer (some ⟨w.heap.size, 0, none⟩)]) ∧ w' = w.alloc (.cells #[.pointer (some ⟨bt, 0, none⟩)] 24) := by
  go_enter Try.func31, Try.ntmps31
  go_wp2_with fail
  go_ret
  exact ⟨rfl, rfl⟩
theorem Cl.new (W : World) (v : Value) (t : TypeId) (n : Nat) (hn : W.heap.size = n) : Cl n v (W.alloc (.cells #[v] t)) := ⟨cell_at hn rfl, froz_new hn⟩
set_option maxRecDepth 100000 in
set_option maxHeartbeats 4000000 in
theorem all_0 (bt bm : Nat) (room last : Int) (l : Ps) (w : World) (hT : Tb w bt bm room last l) (hs : Srt l) (hlen : l.length ≤ 150) (hpid : ∀ p ∈ l, -9223372036854775808 ≤ p.pid ∧ p.pid ≤ 9223372036854775807) :
    Calls Try.prog 24 #[.pointer (some ⟨bt, 0, none⟩), .int .i64 0] w fun e w' => ∃ v, e = .returned v ∧ w'.ownsRow w.heap.size 40 6 v (l.length + 1) (prsC (one :: l)) ∧ Below w.heap.size w w' := by
  obtain ⟨W, hW⟩ : ∃ W, (w.alloc (.cells #[.int .i64 0] 3)).alloc (.cells #[.slice none 0 0] 51) = W := ⟨_, rfl⟩
  have hbW : Below w.heap.size w W := by rw [← hW]; exact ((Below.refl _ _).alloc (Nat.le_refl _) _).alloc (by simp) _
  have hsW : W.heap.size = w.heap.size + 2 := by rw [← hW]; simp
  have caW : Cl (w.heap.size + 1) (.slice none 0 0) W := by rw [← hW]; exact Cl.new _ _ _ _ (by simp)
  have csW : W.cell? ⟨w.heap.size, 0, none⟩ = some (.int .i64 0) := by rw [← hW]; exact (((Below.refl _ _).alloc (Nat.le_refl _) _).cell (p := ⟨w.heap.size, 0, none⟩) (by simp)).trans (cell_at rfl rfl)
  obtain ⟨V, hV⟩ : ∃ V, W.alloc (.cells #[.pointer (some ⟨bt, 0, none⟩)] 24) = V := ⟨_, rfl⟩
  have mV : ∀ F, Mv F W V := fun F => by rw [← hV]; exact Mv.alloc _ _ _
  have hsV : V.heap.size = w.heap.size + 3 := by rw [← hV]; simp; omega
  have ctV : V.cell? ⟨W.heap.size, 0, none⟩ = some (.pointer (some ⟨bt, 0, none⟩)) := by rw [← hV]; exact cell_at rfl rfl
  have hTV := (hT.below hbW).mv (mV (fun _ => False)) (fun h => h) (fun h => h)
  have hbt := hT.lt
  have hbm := hT.ltm
  have hA := allf_0 (w.heap.size + 1) w.heap.size W.heap.size bt bm room last l V hTV hs hlen hpid (by omega) (by omega) (by omega) (by omega) (by omega) (by omega) (caW.mv (mV (fun _ => False)) (fun h => h)) ((mV (fun _ => False)).cell (fun h => h) csW) ctV
  have hm := allm_any bt W
  rw [hV] at hm
  have hAH := hidP hA
  have hbV : Hid (Below w.heap.size w V) := hbW.trans ((mV (fun _ => False)).toBelow (by omega) (fun _ _ h => h))
  have hsVH := hidP hsV
  clear hA hTV hT hpid caW csW ctV mV hbW hsV hsW hV hs hlen
  go_enter Try.func24, Try.ntmps24
  go_wp2_with (rw [hW])
  refine hm.mono ?_
  rintro e w1 ⟨rfl, rfl⟩
  go_wp2_with fail
  refine hAH.out.mono ?_
  rintro e w2 ⟨rfl, v, ca, ho, m⟩
  have c := ca.c
  have hoH := hidP ho
  have mH := hidP m
  clear ho m ca
  go_wp2_with fail
  go_ret
  refine ⟨v, rfl, own_base hoH.out (by have := hsVH.out; omega), hbV.out.trans (mH.out.toBelow (by have := hsVH.out; omega) (fun k hk h => by have := hsVH.out; rcases h with h | h <;> omega))⟩
set_option maxRecDepth 100000 in
set_option maxHeartbeats 4000000 in
theorem all_1 (bt : Nat) (w : World) :
    Calls Try.prog 24 #[.pointer (some ⟨bt, 0, none⟩), .int .i64 1] w fun e w' => ∃ v, e = .returned v ∧ w'.ownsRow w.heap.size 40 6 v 1 (prsC [one]) ∧ Below w.heap.size w w' := by
  obtain ⟨W, hW⟩ : ∃ W, (w.alloc (.cells #[.int .i64 1] 3)).alloc (.cells #[.slice none 0 0] 51) = W := ⟨_, rfl⟩
  have hbW : Below w.heap.size w W := by rw [← hW]; exact ((Below.refl _ _).alloc (Nat.le_refl _) _).alloc (by simp) _
  have hsW : W.heap.size = w.heap.size + 2 := by rw [← hW]; simp
  have caW : Cl (w.heap.size + 1) (.slice none 0 0) W := by rw [← hW]; exact Cl.new _ _ _ _ (by simp)
  have csW : W.cell? ⟨w.heap.size, 0, none⟩ = some (.int .i64 1) := by rw [← hW]; exact (((Below.refl _ _).alloc (Nat.le_refl _) _).cell (p := ⟨w.heap.size, 0, none⟩) (by simp)).trans (cell_at rfl rfl)
  obtain ⟨V, hV⟩ : ∃ V, W.alloc (.cells #[.pointer (some ⟨bt, 0, none⟩)] 24) = V := ⟨_, rfl⟩
  have mV : ∀ F, Mv F W V := fun F => by rw [← hV]; exact Mv.alloc _ _ _
  have hsV : V.heap.size = w.heap.size + 3 := by rw [← hV]; simp; omega
  have hA := allf_1 (w.heap.size + 1) w.heap.size W.heap.size V (by omega) (by omega) (by omega) (caW.mv (mV (fun _ => False)) (fun h => h)) ((mV (fun _ => False)).cell (fun h => h) csW)
  have hm := allm_any bt W
  rw [hV] at hm
  have hAH := hidP hA
  have hbV : Hid (Below w.heap.size w V) := hbW.trans ((mV (fun _ => False)).toBelow (by omega) (fun _ _ h => h))
  have hsVH := hidP hsV
  clear hA caW csW mV hbW hsV hsW hV
  go_enter Try.func24, Try.ntmps24
  go_wp2_with (rw [hW])
  refine hm.mono ?_
  rintro e w1 ⟨rfl, rfl⟩
  go_wp2_with fail
  refine hAH.out.mono ?_
  rintro e w2 ⟨rfl, v, ca, ho, m⟩
  have c := ca.c
  have hoH := hidP ho
  have mH := hidP m
  clear ho m ca
  go_wp2_with fail
  go_ret
  refine ⟨v, rfl, own_base hoH.out (by have := hsVH.out; omega), hbV.out.trans (mH.out.toBelow (by have := hsVH.out; omega) (fun k hk h => by have := hsVH.out; rcases h with h | h <;> omega))⟩
end Go.Proofs.Ytcikjnifkoagpaa
