/- The reference's All: a row of processes of its own. -/
import Derived.Test.YtcikjnifkoagpaaRQ4
import Derived.Test.YtcikjnifkoagpaaPD
namespace Go.Proofs.Ytcikjnifkoagpaa
open Go.RowKit Go.Shelf Go.Lib
theorem wpList_append_run {P : Program} {w : World} {ops : Array Oper} {rest : List Oper} {o : Oper} {a : Act} {Q : Exit → Act → World → Prop} (hgd : o.guard = none) (s x : Operand) (t : TypeId)
    (ho : o.op = .call { callee := .builtin .append, args := #[s, x], argTypes := #[t, t] }) (v xv v' : Value) (w' : World) (hs : a.eval s = v) (hx : a.eval x = xv)
    (hr : (Builtin.append_ #[t, t] o.type #[v, xv]).run P w = .ok v' w') (h : wpList P ops Q rest (a.put o.dst v') w') : wpList P ops Q (o :: rest) a w := by
  refine wpList_plain hgd fun K hK => ?_
  unfold Oper.wp execOp
  simp only [ho, resolve, invoke, builtin, Sem.run_bind, Sem.run_pure, Result.andThen_ok, List.map_toArray, List.map_cons, List.map_nil, hs, hx, hr]
  exact hK _ _ h
theorem prs_cells (p : Pr) : prC p = [.int .i64 p.pid, .int .i64 p.par, .string p.grp, .bool p.zom, .int .i64 p.st, .string p.cmd] := rfl
set_option maxRecDepth 100000 in
set_option maxHeartbeats 4000000 in
theorem rall_any {b g cap : Nat} {room last : Int} {l : Ps} (w : World) (h : RO w b g cap room last l) :
    Calls Try.prog 25 #[.pointer (some ⟨b, 0, none⟩)] w fun e w' => ∃ v, e = .returned v ∧ w'.ownsRow w.heap.size 40 6 v l.length (prsC l) ∧ Below w.heap.size w w' := by
  obtain ⟨i0, hinf, hz0, hz1, hz2⟩ := info_parts infoP
  obtain ⟨n, hn⟩ : ∃ n, l.length = n := ⟨_, rfl⟩
  have hlen := h.len
  rw [hn] at hlen
  have hN := hidP hn
  have hH := hidP h
  have st0 : Hid (w.ownsRow w.heap.size 40 6 (.slice none 0 0) 0 (prsC (l.take 0)) ∧ Below w.heap.size w w) := ⟨⟨rfl, .inl ⟨rfl, rfl⟩⟩, Below.refl _ _⟩
  clear h hn
  go_enter Try.func25, Try.ntmps25
  go_wp2_with fail
  go_loopw [3, 4] (fun v3 v4 wr => ∃ i : Nat, i ≤ n ∧ v4 = .int .i64 i ∧ Hid (wr.ownsRow w.heap.size 40 6 v3 i (prsC (l.take i)) ∧ Below w.heap.size w wr)) (fun _ v4 _ => n - (intOf v4).toNat)
  case atStart => exact ⟨0, by omega, rfl, st0⟩
  case round =>
    clear st0
    obtain ⟨i, hi, rfl, hI⟩ := hrel
    have hR : RO wr b g cap room last l := hH.out.below hI.out.2
    have c0 := hR.c0
    rw [hN.out] at c0
    by_cases hlt : i < n
    · have hltI : (i : Int) < (n : Int) := by omega
      obtain ⟨p, hp⟩ : ∃ p, l[i]? = some p := ⟨_, List.getElem?_eq_getElem (by rw [hN.out]; exact hlt)⟩
      have q0 := hR.at hp (q := 0) rfl
      have q1 := hR.at hp (q := 1) rfl
      have q2 := hR.at hp (q := 2) rfl
      have q3 := hR.at hp (q := 3) rfl
      have q4 := hR.at hp (q := 4) rfl
      have q5 := hR.at hp (q := 5) rfl
      simp only [Nat.add_zero] at q0
      have htk : Hid (prsC (l.take (i + 1)) = prsC (l.take i) ++ prC p) := by show _ = _; rw [take_snoc hp, prsC_snoc]
      obtain ⟨z0, z1, z2, z3, z4, z5, z6, z7⟩ := p
      simp only at q0 q1 q2 q3 q4 q5
      obtain ⟨W1, hW1⟩ : ∃ W1, wr.alloc (.cells #[.int .i64 z0, .int .i64 z1, .string z2, .bool z3, .int .i64 z4, .string z5] 40) = W1 := ⟨_, rfl⟩
      obtain ⟨v3, hv3⟩ : ∃ v3, u3 = v3 := ⟨_, rfl⟩
      have ho := hI.out.1
      have hb := hI.out.2
      have hr1 := ho.alloc (.cells #[.int .i64 z0, .int .i64 z1, .string z2, .bool z3, .int .i64 z4, .string z5] 40)
      rw [hW1] at hr1
      have b1 : Below wr.heap.size wr W1 := by rw [← hW1]; exact (Below.refl _ _).alloc (Nat.le_refl _) _
      obtain ⟨v', W2, hrun, hown, hgr, _, _⟩ := run_append_own_at (P := Try.prog) W1 w.heap.size 51 51 40 i0 _ 6 64 Try.underlying51 hinf hz0 hz1 hz2 rfl (by decide) _ _ _ hr1 ⟨wr.heap.size, 0, none⟩ 1 1 (prC ⟨z0, z1, z2, z3, z4, z5, z6, z7⟩) rfl (fun j u hj => by
        rw [Addr.add_lit, Nat.zero_add, ← hW1]
        exact cell_at rfl (by rw [← Array.getElem?_toList]; exact hj)) (fun u hu => by
        rw [prs_cells] at hu
        simp only [List.mem_cons, List.not_mem_nil, or_false] at hu
        rcases hu with rfl | rfl | rfl | rfl | rfl | rfl <;> rfl) (by unfold maxLen; omega) (by omega) (by have := hb.size; have := b1.size; omega)
      have fin : Hid (W2.ownsRow w.heap.size 40 6 v' (i + 1) (prsC (l.take (i + 1))) ∧ Below w.heap.size w W2) := by
        refine ⟨by rw [htk.out]; exact hown, (hb.trans (b1.mono hb.size)).trans ?_⟩
        have m2 : Mv (fun k => u3.ownBlock = some k) W1 W2 := (Mv.refl _ _).grown hgr (fun k e => .inl e)
        exact m2.toBelow (by have := hb.size; have := b1.size; omega) (fun k hk e => by have := (ho.lt k e).1; omega)
      clear hR hI hp hown hgr b1 hb ho hr1 htk hv3
      go_wp2_with (first | rw [hW1] | (at_builtin; refine wpList_append_run rfl _ _ 51 rfl _ _ v' W2 rfl rfl hrun ?_))
      exact ⟨⟨i + 1, by omega, by go_num, fin⟩, by simp [intOf]; omega⟩
    · have hltI : decide ((i : Int) < (n : Int)) = false := by simp; omega
      have hin : i = n := by omega
      have fin : Hid (wr.ownsRow w.heap.size 40 6 u3 l.length (prsC l) ∧ Below w.heap.size w wr) := by
        have h1 := hI.out.1
        rw [hin, List.take_of_length_le (by rw [hN.out]; omega)] at h1
        rw [hN.out]
        exact ⟨h1, hI.out.2⟩
      clear hI hR
      go_wp2_with fail
      go_ret
      exact ⟨_, rfl, fin.out⟩
end Go.Proofs.Ytcikjnifkoagpaa
