/- The folders above a path, as a row; the contract of package tree's countMount. -/
import Derived.Test.YtnniahlacfflmaaDoorTG
namespace Go.Proofs.YtnniahlacfflmaaDoor
open Go.RowKit Go.Shelf
attribute [local go_sem] Oper.semAt_some
def encA (s : ByteArray) : Array Value := #[.string s]
set_option maxHeartbeats 1000000 in
theorem above_any (s : ByteArray) (w : World) : Calls Tryd.prog 46 #[.string s] w fun e w' => e = .returned (.func (.func 54) #[] #[.pointer (some ⟨w.heap.size, 0, none⟩)]) ∧ w' = w.alloc (.cells #[.string s] 9) := by
  go_enter Tryd.func46, Tryd.ntmps46
  go_wp2_with fail
  go_ret
  exact ⟨rfl, rfl⟩
theorem fo_hd {s : ByteArray} (h : hd (byt s)) : hd (byt (fo s)) := foL_hd h
theorem hd_size {s : ByteArray} (h : hd (byt s)) : 1 ≤ s.size := by
  obtain ⟨r, hr⟩ := hd_cons h
  have := congrArg List.length hr
  rw [byt_len, List.length_cons] at this
  omega
theorem fo_lt' {s : ByteArray} (h : hd (byt s)) (hn : s ≠ rootS) : (fo s).size < s.size := by
  rw [← byt_len s]; exact foL_lt h (fun e => hn (byt_root.1 e))
def strN : Value → Nat
  | .string s => s.size
  | _ => 0
set_option maxRecDepth 100000 in
set_option maxHeartbeats 4000000 in
theorem above_row (s : ByteArray) (o : Nat) (E : Nat → Prop) (W : World) (hh : hd (byt s)) (hs : s.size ≤ 100000) (c0 : W.cell? ⟨o, 0, none⟩ = some (.string s)) (e0 : ¬ E o) :
    Row Tryd.prog 54 #[.pointer (some ⟨o, 0, none⟩)] encA (abv s) E W := by
  intro l J Jx E1 V m g hJ hJx hY h0
  have d0 := m.cell (a := ⟨o, 0, none⟩) e0 c0
  refine (callsIn_wide (n := 5)).1 ?_
  refine callsIn_of_wp Tryd.func54 rfl trivial ?_ rfl
  simp only [Tryd.ntmps54, List.size_toArray, List.length_cons, List.length_nil, Nat.reduceAdd, Nat.reduceSub, Array.replicate_succ, Array.replicate_zero, List.push_toArray, List.append_toArray, List.nil_append, List.cons_append]
  gi_wp2_with fail
  gi_loopw [3] (fun v wr => ∃ (r : ByteArray) (E2 : Nat → Prop), v = .string r ∧ r.size ≤ s.size ∧ Hid (hd (byt r)) ∧ Hid (J (abv r) E2 wr) ∧ Hid (Mv E1 V wr) ∧ Hid (Gr E1 V E2)) (fun v _ => strN v)
  case atStart => exact ⟨s, E1, rfl, Nat.le_refl _, hh, h0, Mv.refl _ _, Gr.refl _ _⟩
  case round =>
    obtain ⟨r, E2, rfl, hz, hr, hj, hm, hg⟩ := hrel
    by_cases hroot : r = rootS
    · have hj' := hj.out
      rw [hroot, abv_root] at hj'
      have t0 : (r.toList == [47]) = true := by rw [hroot, Lib.toList_data]; rfl
      clear hroot
      gi_wp2_with fail
      go_end0
      exact ⟨⟨_, rfl⟩, hm.out, .inl ⟨E2, hg.out, hj'⟩⟩
    · have t0 := beq_root hroot
      have hj' := hj.out
      rw [abv_step hr.out hroot] at hj'
      have hlt := fo_lt' hr.out hroot
      have hfh := hidP (fo_hd hr.out)
      have hfo := hidP (folderOf_any r wr (hd_size hr.out) (by omega))
      obtain ⟨fn, tmps, assign, body, hy, hR⟩ := hY _ _ E2 wr hj'
      dsimp only [encA] at hy
      gi_wp2_with fail
      refine ⟨trivial, (callsIn_wide.2 hfo.out).mono ?_⟩
      rintro e w2 ⟨rfl, rfl⟩
      have hsz := hidP hm.out.size
      gi_wp2_with fail
      refine (wide_round' hR).mono ?_
      rintro e W3 ⟨m3, (⟨rfl, E3, g3, hj3⟩ | ⟨rfl, E3, g3, hj3⟩)⟩
      · gi_wp2_with fail
        exact ⟨⟨fo r, E3, rfl, by omega, hfh.out, hj3, hm.out.trans hg.out m3, hg.out.trans hsz.out g3⟩, by simp only [strN]; omega⟩
      · gi_wp2_with fail
        refine bodyPost_ret (results_none rfl _ _ _) rfl ?_
        exact ⟨⟨_, rfl⟩, hm.out.trans hg.out m3, .inr ⟨E3, hg.out.trans hsz.out g3, hj3⟩⟩
end Go.Proofs.YtnniahlacfflmaaDoor
