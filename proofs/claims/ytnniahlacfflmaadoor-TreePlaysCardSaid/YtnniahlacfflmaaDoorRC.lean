/- The contract of the reference's below. -/
import Derived.Test.YtnniahlacfflmaaDoorRB
import Derived.Test.YtnniahlacfflmaaDoorTA
import Derived.Test.YtnniahlacfflmaaDoorTW
namespace Go.Proofs.YtnniahlacfflmaaDoor
open Go.RowKit Go.Shelf
attribute [local go_sem] Oper.semAt_some
theorem mem_abv {p f : ByteArray} : inS f (abv p) = true ↔ byt f ∈ abvL (byt p) := by
  rw [inS_iff]
  unfold abv
  rw [List.mem_map]
  exact ⟨fun ⟨a, h, e⟩ => by rw [← e, byt_mk]; exact h, fun h => ⟨_, h, rfl⟩⟩
theorem take_ext (p : ByteArray) (n : Nat) : (p.extract 0 n).toList = (byt p).take n := by
  rw [Lib.toList_data]; unfold byt; simp [ByteArray.data_extract]
theorem at_byt (p : ByteArray) (n : Nat) (h : n < p.size) : (byt p)[n]? = some p[n] := by
  rw [List.getElem?_eq_getElem (by rw [byt_len]; exact h)]; rfl
set_option maxHeartbeats 1000000 in
theorem rbelow_any (p f : ByteArray) (w : World) (hp : hd (byt p)) (hf : hd (byt f)) : Calls Tryd.prog 37 #[.string p, .string f] w fun e w' => e = .returned (.bool (inS f (abv p))) ∧ w' = w := by
  obtain ⟨bv, hbv⟩ : ∃ b, inS f (abv p) = b := ⟨_, rfl⟩
  rw [hbv]
  have hx : byt f ≠ [] := by obtain ⟨r, e⟩ := hd_cons hf; rw [e]; simp
  have hM := mem_abv (p := p) (f := f)
  rw [hbv] at hM
  clear hbv
  cases t0 : (f.toList == [47])
  · have hr : byt f ≠ [47] := fun e => by rw [Lib.toList_data, show f.data.toList = [47] from e] at t0; simp at t0
    rw [below_iff hp hx hr, byt_len, byt_len] at hM
    by_cases hl : f.size < p.size
    · have hlI : (f.size : Int) < (p.size : Int) := by omega
      cases t1 : ((p.extract 0 f.size).toList == f.toList)
      · have hb : Hid (bv = false) := by
          show _ = _
          cases bv with
          | false => rfl
          | true =>
            have := (hM.1 rfl).2.1
            rw [take_ext, this, Lib.toList_data f] at t1
            simp [byt] at t1
        clear hM hx hr hp hf
        go_enter Tryd.func37, Tryd.ntmps37
        go_wp2_with fail
        go_ret
        exact ⟨ret_bool hb.out.symm, rfl⟩
      · have hb : Hid (bv = ((p[f.size].toNat : Int) == 47)) := by
          show _ = _
          rw [Bool.eq_iff_iff, hM, at_byt p _ hl]
          have e : (byt p).take f.size = byt f := by rw [← take_ext]; rw [Lib.toList_data f] at t1; exact beq_iff_eq.1 t1
          have e2 : ((p[f.size].toNat : Int) == 47) = true ↔ p[f.size] = 47 := by
            rw [beq_iff_eq, ← UInt8.toNat_inj]
            show _ ↔ _ = 47
            omega
          rw [e2]
          simp [e, hl]
        clear hM hx hr hp hf
        go_enter Tryd.func37, Tryd.ntmps37
        go_wp2_with fail
        go_ret
        exact ⟨ret_bool hb.out.symm, rfl⟩
    · have hlI : ¬ (f.size : Int) < (p.size : Int) := by omega
      have hb : Hid (bv = false) := by
        show _ = _
        cases bv with
        | false => rfl
        | true => exact absurd (hM.1 rfl).1 hl
      clear hM hx hr hp hf
      go_enter Tryd.func37, Tryd.ntmps37
      go_wp2_with fail
      go_ret
      exact ⟨ret_bool hb.out.symm, rfl⟩
  · have hr : byt f = [47] := by rw [Lib.toList_data] at t0; exact beq_iff_eq.1 t0
    rw [hr, below_root hp] at hM
    have hb : Hid (bv = !(p.toList == [47])) := by
      show _ = _
      rw [Bool.eq_iff_iff, hM, Lib.toList_data]
      simp [byt]
    clear hM hx hr hp hf
    go_enter Tryd.func37, Tryd.ntmps37
    go_wp2_with fail
    go_ret
    exact ⟨ret_bool hb.out.symm, rfl⟩
end Go.Proofs.YtnniahlacfflmaaDoor
