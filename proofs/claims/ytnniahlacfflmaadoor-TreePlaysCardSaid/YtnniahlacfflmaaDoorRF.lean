/- The reference's IsPath: its walk. -/
import Derived.Test.YtnniahlacfflmaaDoorRE
namespace Go.Proofs.YtnniahlacfflmaaDoor
open Go.RowKit Go.Shelf
attribute [local go_sem] Oper.semAt_some
theorem okw_cases (l : L) : okw l = (!(l == []) && (!(l == [46]) && (!(l == [46, 46]) && !decide (40 < l.length)))) := by
  unfold okw; simp only [Bool.not_or, Bool.and_assoc]
theorem wd_size (p : ByteArray) (f i : Nat) : (p.extract f i).size = (wd p f i).length := by rw [← wd_ext, Lib.toList_data]; exact (size_list _).symm
theorem c_eq {c d : UInt8} {v : Int} (hv : (d.toNat : Int) = v) : ((c.toNat : Int) == v) = true ↔ c = d := by
  rw [beq_iff_eq, ← UInt8.toNat_inj]; omega
set_option maxHeartbeats 4000000 in
theorem rispath_any (p : ByteArray) (w : World) (hz : p.size ≤ 100000) : Calls Tryd.prog 32 #[.string p] w fun e w' => e = .returned (.bool (isP p)) ∧ w' = w := by
  obtain ⟨bv, hbv⟩ : ∃ b, isP p = b := ⟨_, rfl⟩
  rw [hbv]
  cases t0 : (p.toList == [47])
  · have hne : byt p ≠ [47] := fun e => by rw [Lib.toList_data, show p.data.toList = [47] from e] at t0; simp at t0
    by_cases h2 : p.size < 2
    · have h2I : (p.size : Int) < 2 := by omega
      have hb : Hid (bv = false) := by
        show _ = _
        rw [← hbv]
        unfold isP
        cases hp : byt p with
        | nil => rfl
        | cons c r =>
          have hr : r = [] := by have := byt_len p; rw [hp] at this; exact List.length_eq_zero_iff.1 (by simp at this; omega)
          subst hr
          have hc : c ≠ 47 := fun e => hne (by rw [hp, e])
          simp [isPL, hc]
      clear hbv hne
      go_enter Tryd.func32, Tryd.ntmps32
      go_wp2_with fail
      go_ret
      exact ⟨ret_bool hb.out.symm, rfl⟩
    · have h2I : ¬ (p.size : Int) < 2 := by omega
      have h0 : 0 < p.size := by omega
      have h0I : (0 : Int) < (p.size : Int) := by omega
      have hd0 : byt p = p[0] :: (byt p).drop 1 := by have := drop_at p h0; simpa using this
      have hb0 : bv = ((p[0] == 47) && ((byt p).drop 1 == [] || rIs 0 [] ((byt p).drop 1))) := by
        rw [← hbv]; unfold isP; rw [hd0, isPL_scan]; simp
      cases tc : ((p[0].toNat : Int) == 47)
      · have hb : Hid (bv = false) := by
          show _ = _
          have : ¬ p[0] = 47 := fun e => by have := (c_eq (c := p[0]) (d := 47) (v := 47) rfl).2 e; rw [tc] at this; cases this
          rw [hb0]; simp [this]
        clear hbv hne hd0 hb0
        go_enter Tryd.func32, Tryd.ntmps32
        go_wp2_with fail
        go_ret
        exact ⟨ret_bool hb.out.symm, rfl⟩
      · have hc : p[0] = 47 := (c_eq (c := p[0]) (d := 47) (v := 47) rfl).1 tc
        have hR0 : Hid (Rdp p bv 0 1 1) := by
          refine ⟨by omega, by omega, fun _ => ⟨by omega, ?_⟩, fun e => by omega, by omega⟩
          have : ¬ (byt p).drop 1 = [] := fun e => by rw [e, hc] at hd0; exact hne hd0
          have hq : ((byt p).drop 1 == []) = false := by rw [beq_eq_false_iff_ne]; exact this
          rw [hb0, hc, wd_same, hq]; rfl
        clear hbv hne hd0 hb0 hc
        go_enter Tryd.func32, Tryd.ntmps32
        go_wp2_with fail
        go_loopw [3, 4, 5] (fun n f i wr => ∃ n' f' i' : Nat, n = .int .i64 n' ∧ f = .int .i64 f' ∧ i = .int .i64 i' ∧ Hid (Rdp p bv n' f' i') ∧ wr = w) (fun _ _ i _ => p.size + 1 - (intOf i).toNat)
        case atStart => exact ⟨0, 1, 1, rfl, rfl, rfl, hR0, rfl⟩
        case round =>
          clear hR0 tc h2I h0I
          obtain ⟨n, f, i, rfl, rfl, rfl, hR, rfl⟩ := hrel
          have hn1 := hR.out.n1
          have hi1 := hR.out.i1
          have hwi : IntKind.i64.wrap ((i : Int) + 1) = ((i + 1 : Nat) : Int) := by rw [IntKind.wrap_i64]; omega
          have hwn : IntKind.i64.wrap ((n : Int) + 1) = ((n + 1 : Nat) : Int) := by rw [IntKind.wrap_i64]; omega
          have hi0 : (0 : Int) ≤ (i : Int) := by omega
          by_cases hle : i ≤ p.size
          · have hleI : (i : Int) ≤ (p.size : Int) := by omega
            obtain ⟨hfi, hbv⟩ := hR.out.a hle
            have hf1 := hR.out.f1
            have hfI : (f : Int) ≤ (i : Int) := by omega
            have hf0 : (0 : Int) ≤ (f : Int) := by omega
            by_cases hlt : i < p.size
            · have hltI : (i : Int) < (p.size : Int) := by omega
              rw [drop_at p hlt] at hbv
              cases tz : ((p[i].toNat : Int) == 0)
              · have hcz : p[i] ≠ 0 := fun e => by have := (c_eq (c := p[i]) (d := 0) (v := 0) rfl).2 e; rw [tz] at this; cases this
                cases ts : ((p[i].toNat : Int) == 47)
                · have hcs : p[i] ≠ 47 := fun e => by have := (c_eq (c := p[i]) (d := 47) (v := 47) rfl).2 e; rw [ts] at this; cases this
                  have fin : Hid (Rdp p bv n f (i + 1)) := by
                    refine ⟨hf1, by omega, fun h => ⟨by omega, ?_⟩, fun e => by omega, by omega⟩
                    rw [hbv, rIs_other _ _ _ hcz hcs, wd_next p hfi hlt]
                  clear hbv hR hcz hcs
                  go_wp2_with fail
                  go_roundw
                  case rel => exact ⟨n, f, i + 1, rfl, rfl, by first | rfl | rw [hwi], fin, by first | rfl | trivial⟩
                  case measure => simp [intOf]; omega
                · have hcs : p[i] = 47 := (c_eq (c := p[i]) (d := 47) (v := 47) rfl).1 ts
                  rw [hcs, rIs_stroke] at hbv
                  have hok : okw (wd p f i) = true → Rdp p bv (n + 1) (i + 1) (i + 1) := fun h => by
                    rw [if_pos h] at hbv
                    exact ⟨by omega, by omega, fun _ => ⟨by omega, by rw [wd_same]; exact hbv⟩, fun e => by omega, by omega⟩
                  have hno : okw (wd p f i) = false → bv = false := fun h => by rw [h] at hbv; exact hbv
                  clear hbv hR hcz hcs
                  have hokc := okw_cases (wd p f i)
                  rw [← wd_size, ← wd_ext] at hokc
                  cases t1 : ((p.extract f i).toList == [])
                  · cases t2 : ((p.extract f i).toList == [46])
                    · cases t3 : ((p.extract f i).toList == [46, 46])
                      · rw [t1, t2, t3] at hokc
                        by_cases h4 : 40 < (p.extract f i).size
                        · have hb := hidP (hno (by rw [← wd_ext, hokc, decide_eq_true h4]; rfl))
                          clear hokc hok hno
                          have h4I : (40 : Int) < ((p.extract f i).size : Int) := by omega
                          obtain ⟨e, he⟩ : ∃ e, p.extract f i = e := ⟨_, rfl⟩
                          rw [he] at t1 t2 t3 h4 h4I
                          go_wp2_with (rw [he])
                          go_ret
                          exact ⟨ret_bool hb.out.symm, rfl⟩
                        · have fin := hidP (hok (by rw [← wd_ext, hokc, decide_eq_false h4]; rfl))
                          clear hokc hok hno
                          have h4I : ¬ (40 : Int) < ((p.extract f i).size : Int) := by omega
                          obtain ⟨e, he⟩ : ∃ e, p.extract f i = e := ⟨_, rfl⟩
                          rw [he] at t1 t2 t3 h4 h4I
                          go_wp2_with (rw [he])
                          go_roundw
                          case rel => exact ⟨n + 1, i + 1, i + 1, by first | rfl | rw [hwn], by first | rfl | rw [hwi], by first | rfl | rw [hwi], fin, by first | rfl | trivial⟩
                          case measure => simp [intOf]; omega
                      · have hb := hidP (hno (by rw [← wd_ext, hokc, t3]; simp))
                        clear hokc hok hno
                        go_wp2_with fail
                        go_ret
                        exact ⟨ret_bool hb.out.symm, rfl⟩
                    · have hb := hidP (hno (by rw [← wd_ext, hokc, t2]; simp))
                      clear hokc hok hno
                      go_wp2_with fail
                      go_ret
                      exact ⟨ret_bool hb.out.symm, rfl⟩
                  · have hb := hidP (hno (by rw [← wd_ext, hokc, t1]; simp))
                    clear hokc hok hno
                    go_wp2_with fail
                    go_ret
                    exact ⟨ret_bool hb.out.symm, rfl⟩
              · have hcz : p[i] = 0 := (c_eq (c := p[i]) (d := 0) (v := 0) rfl).1 tz
                have hb : Hid (bv = false) := by show _ = _; rw [hbv, hcz, rIs_zero]
                clear hbv hR hcz
                go_wp2_with fail
                go_ret
                exact ⟨ret_bool hb.out.symm, rfl⟩
            · have hltI : ¬ (i : Int) < (p.size : Int) := by omega
              have hie : i = p.size := by omega
              rw [show (byt p).drop i = [] from List.drop_eq_nil_of_le (by rw [byt_len]; omega), rIs_end] at hbv
              have hok : okw (wd p f i) = true → Rdp p bv (n + 1) (i + 1) (i + 1) := fun h => by
                rw [if_pos h] at hbv
                exact ⟨by omega, by omega, fun e => by omega, fun _ => hbv, by omega⟩
              have hno : okw (wd p f i) = false → bv = false := fun h => by rw [h] at hbv; exact hbv
              clear hbv hR hie
              have hokc := okw_cases (wd p f i)
              rw [← wd_size, ← wd_ext] at hokc
              cases t1 : ((p.extract f i).toList == [])
              · cases t2 : ((p.extract f i).toList == [46])
                · cases t3 : ((p.extract f i).toList == [46, 46])
                  · rw [t1, t2, t3] at hokc
                    by_cases h4 : 40 < (p.extract f i).size
                    · have hb := hidP (hno (by rw [← wd_ext, hokc, decide_eq_true h4]; rfl))
                      clear hokc hok hno
                      have h4I : (40 : Int) < ((p.extract f i).size : Int) := by omega
                      obtain ⟨e, he⟩ : ∃ e, p.extract f i = e := ⟨_, rfl⟩
                      rw [he] at t1 t2 t3 h4 h4I
                      go_wp2_with (rw [he])
                      go_ret
                      exact ⟨ret_bool hb.out.symm, rfl⟩
                    · have fin := hidP (hok (by rw [← wd_ext, hokc, decide_eq_false h4]; rfl))
                      clear hokc hok hno
                      have h4I : ¬ (40 : Int) < ((p.extract f i).size : Int) := by omega
                      obtain ⟨e, he⟩ : ∃ e, p.extract f i = e := ⟨_, rfl⟩
                      rw [he] at t1 t2 t3 h4 h4I
                      go_wp2_with (rw [he])
                      go_roundw
                      case rel => exact ⟨n + 1, i + 1, i + 1, by first | rfl | rw [hwn], by first | rfl | rw [hwi], by first | rfl | rw [hwi], fin, by first | rfl | trivial⟩
                      case measure => simp [intOf]; omega
                  · have hb := hidP (hno (by rw [← wd_ext, hokc, t3]; simp))
                    clear hokc hok hno
                    go_wp2_with fail
                    go_ret
                    exact ⟨ret_bool hb.out.symm, rfl⟩
                · have hb := hidP (hno (by rw [← wd_ext, hokc, t2]; simp))
                  clear hokc hok hno
                  go_wp2_with fail
                  go_ret
                  exact ⟨ret_bool hb.out.symm, rfl⟩
              · have hb := hidP (hno (by rw [← wd_ext, hokc, t1]; simp))
                clear hokc hok hno
                go_wp2_with fail
                go_ret
                exact ⟨ret_bool hb.out.symm, rfl⟩
          · have hleI : ¬ (i : Int) ≤ (p.size : Int) := by omega
            have hb : Hid (decide ((n : Int) ≤ 8) = bv) := by
              show _ = _
              rw [hR.out.z (by omega), decide_eq_decide]; omega
            clear hR
            go_wp2_with fail
            go_ret
            exact ⟨ret_bool hb.out, rfl⟩
  · have hb : Hid (bv = true) := by
      show _ = _
      rw [← hbv]
      have : byt p = [47] := by rw [Lib.toList_data] at t0; exact beq_iff_eq.1 t0
      unfold isP; rw [this]; rfl
    clear hbv
    go_enter Tryd.func32, Tryd.ntmps32
    go_wp2_with fail
    go_ret
    exact ⟨ret_bool hb.out.symm, rfl⟩
end Go.Proofs.YtnniahlacfflmaaDoor
