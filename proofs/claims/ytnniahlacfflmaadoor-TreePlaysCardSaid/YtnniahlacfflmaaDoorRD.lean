/- The contract of the reference's Folder. -/
import Derived.Test.YtnniahlacfflmaaDoorRC
namespace Go.Proofs.YtnniahlacfflmaaDoor
open Go.RowKit Go.Shelf
attribute [local go_sem] Oper.semAt_some
set_option maxHeartbeats 1000000 in
theorem rfolder_any (p : ByteArray) (w : World) (hp : hd (byt p)) (hz : p.size ≤ 100000) : Calls Tryd.prog 33 #[.string p] w fun e w' => e = .returned (.string (fo p)) ∧ w' = w := by
  obtain ⟨a, x, hl, hx, hc⟩ := hd_cut hp
  have hn : a.length < p.size := by rw [← byt_len, hl]; simp
  have hat : Hid (∀ i, i = a.length → (h : i < p.size) → ((p[i].toNat : Int) == 47) = true) := fun i e h => by
    subst e
    have h1 := at_byt p _ hn
    rw [hl] at h1
    have h2 : p[a.length] = 47 := by simpa using h1.symm
    rw [h2]; rfl
  have hne : Hid (∀ i, a.length < i → (h : i < p.size) → ((p[i].toNat : Int) == 47) = false) := fun i hi h => by
    have h1 := at_byt p _ h
    rw [hl, List.getElem?_append_right (by omega)] at h1
    obtain ⟨k, hk⟩ : ∃ k, i - a.length = k + 1 := ⟨i - a.length - 1, by omega⟩
    rw [hk, List.getElem?_cons_succ] at h1
    have h2 := hx _ (List.mem_of_getElem? h1)
    rw [beq_eq_false_iff_ne]
    intro q
    apply h2
    rw [← UInt8.toNat_inj]
    show _ = 47
    omega
  have hfo : Hid (fo p = if a.length = 0 then ⟨#[47]⟩ else p.extract 0 a.length) := by
    show _ = _
    unfold fo foL
    rw [hc]
    by_cases e : a = []
    · subst e; rfl
    · have : ¬ a.length = 0 := fun q => e (List.length_eq_zero_iff.1 q)
      simp only [if_neg e, if_neg this]
      apply byt_inj
      rw [byt_mk]
      have := take_ext p a.length
      rw [Lib.toList_data] at this
      show a = (p.extract 0 a.length).data.toList
      rw [this, hl]
      simp
  obtain ⟨m, hm⟩ : ∃ m, a.length = m := ⟨_, rfl⟩
  simp only [hm] at hn hat hne hfo
  clear hl hx hc hp hm
  have hw1 : IntKind.i64.wrap ((p.size : Int) - 1) = ((p.size - 1 : Nat) : Int) := by rw [IntKind.wrap_i64]; omega
  go_enter Tryd.func33, Tryd.ntmps33
  go_wp2_with fail
  go_loopw [3] (fun i wr => ∃ j : Nat, m ≤ j ∧ j < p.size ∧ i = .int .i64 j ∧ wr = w) (fun i _ => (intOf i).toNat)
  case atStart => exact ⟨p.size - 1, by omega, by omega, by first | rfl | rw [hw1], rfl⟩
  case round =>
    clear hw1
    obtain ⟨j, hj1, hj2, rfl, rfl⟩ := hrel
    have hj0 : (0 : Int) ≤ (j : Int) := by omega
    have hjI : (j : Int) < (p.size : Int) := by omega
    by_cases e : j = m
    · subst e
      have hb := hat.out j rfl hj2
      by_cases e0 : j = 0
      · have hfo' : Hid (fo p = ⟨#[47]⟩) := by have := hfo.out; rw [if_pos e0] at this; exact this
        have hj0b : ((j : Int) == 0) = true := by simp [e0]
        clear hfo hat hne e0
        go_wp2_with fail
        go_ret
        exact ⟨by rw [hfo'.out]; rfl, rfl⟩
      · have hfo' : Hid (fo p = p.extract 0 j) := by have := hfo.out; rw [if_neg e0] at this; exact this
        have hj0b : ((j : Int) == 0) = false := by simp [e0]
        clear hfo hat hne
        go_wp2_with fail
        go_ret
        exact ⟨by rw [hfo'.out]; rfl, rfl⟩
    · have hb := hne.out j (by omega) hj2
      have hw2 : IntKind.i64.wrap ((j : Int) - 1) = ((j - 1 : Nat) : Int) := by rw [IntKind.wrap_i64]; omega
      clear hfo hat hne
      go_wp2_with fail
      go_roundw
      case rel => exact ⟨j - 1, by omega, by omega, by first | rfl | rw [hw2], by first | rfl | trivial⟩
      case measure => simp [intOf]; omega
end Go.Proofs.YtnniahlacfflmaaDoor
