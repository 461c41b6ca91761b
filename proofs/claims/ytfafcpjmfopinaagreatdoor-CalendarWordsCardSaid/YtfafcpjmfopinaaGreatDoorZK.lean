import Derived.Test.YtfafcpjmfopinaaGreatDoorZB
import Derived.Test.YtfafcpjmfopinaaGreatDoorShelfJ
import Derived.Deep.AppendLies
import Derived.OwnWalk
import Derived.Test.YtfafcpjmfopinaaGreatDoorZE
import Derived.Test.YtfafcpjmfopinaaGreatDoorZC
/- Contracts of package calendar's padded, printPart, printList, printWeekday, printWeek at lists of one part. -/
namespace Go.Proofs.YtfafcpjmfopinaaGreatDoor
open Go.RowKit Go.Shelf
theorem infoSp : (Tryz.prog.info? 9).map (fun i => (i.zero, i.size, i.bytes)) = some (some (.string ⟨#[]⟩), 1, 16) := by kernel_rfl
theorem grown_b {w w' : World} (h : Below w.heap.size w w') : w.grownBy w' none := ⟨h.os, h.tape, h.output, h.size, fun k hk _ => h.block k hk⟩
theorem own_one {w : World} {base : Nat} {t : TypeId} {v : Value} {n : Nat} {xs : List Value} (h : w.ownsRow base t 1 v (n + 1) xs) : ∃ g cap, v = .slice (some ⟨g, 0, none⟩) (n + 1) cap ∧ n + 1 ≤ cap := by
  rcases h.2 with ⟨_, h0⟩ | ⟨g, cap, cur, rfl, hb, hh, hn, _⟩
  · omega
  · exact ⟨g, cap, rfl, by omega⟩
set_option maxRecDepth 100000 in
theorem padded_one (n : Nat) (hn : n < 10) (w : World) :
    Calls Tryz.prog 45 #[.int .i64 n, .int .i64 2] w fun e w' => e = .returned (.string ⟨#[48, UInt8.ofNat (48 + n)]⟩) ∧ Below w.heap.size w w' := by
  have hd : Lib.decDigits n = [UInt8.ofNat (48 + n)] := by unfold Lib.decDigits; rw [dif_pos hn]
  have hI := Tryz.strconv_Itoa_small n (by omega) w
  rw [hd] at hI
  have hR := Tryz.strings_Repeat ⟨#[48]⟩ 1 w (by decide) (by decide)
  generalize UInt8.ofNat (48 + n) = b at *
  go_enter Tryz.func45, Tryz.ntmps45
  go_wp2_with fail
  refine hI.mono ?_
  rintro e w1 ⟨rfl, rfl⟩
  go_wp2_with fail
  refine hR.mono ?_
  rintro e w2 ⟨rfl, hb⟩
  go_wp2_with fail
  go_ret
  exact ⟨rfl, hb⟩
set_option maxRecDepth 100000 in
theorem part_star (d : Int) (w : World) : Calls Tryz.prog 27 #[aggP (true, 0, 0, 0), .int .i64 d] w fun e w' => e = .returned (.string ⟨#[42]⟩) ∧ Below w.heap.size w w' := by
  unfold aggP
  go_enter Tryz.func27, Tryz.ntmps27
  go_wp2_with fail
  go_ret
  exact ⟨rfl, (Below.refl _ _).alloc (Nat.le_refl _) _⟩
set_option maxRecDepth 100000 in
theorem part_one (n : Nat) (hn : n < 10) (w : World) : Calls Tryz.prog 27 #[aggP (false, n, n, 0), .int .i64 2] w fun e w' => e = .returned (.string ⟨#[48, UInt8.ofNat (48 + n)]⟩) ∧ Below w.heap.size w w' := by
  unfold aggP
  obtain ⟨U, hU⟩ : ∃ U, w.alloc (.cells #[.bool false, .int .i64 n, .int .i64 n, .int .i64 0] 70) = U := ⟨_, rfl⟩
  have hbU : Below w.heap.size w U := by rw [← hU]; exact (Below.refl _ _).alloc (Nat.le_refl _) _
  have c0 : U.cell? ⟨w.heap.size, 0, none⟩ = some (.bool false) := by rw [← hU]; exact cell_at rfl rfl
  have c1 : U.cell? ⟨w.heap.size, 1, none⟩ = some (.int .i64 n) := by rw [← hU]; exact cell_at rfl rfl
  have c2 : U.cell? ⟨w.heap.size, 2, none⟩ = some (.int .i64 n) := by rw [← hU]; exact cell_at rfl rfl
  have c3 : U.cell? ⟨w.heap.size, 3, none⟩ = some (.int .i64 0) := by rw [← hU]; exact cell_at rfl rfl
  have hp := padded_one n hn U
  generalize UInt8.ofNat (48 + n) = b at *
  go_enter Tryz.func27, Tryz.ntmps27
  go_wp2_with (rw [hU])
  refine hp.mono ?_
  rintro e V ⟨rfl, hb⟩
  have lt := cell_lt c0
  have d1 := (hb.cell (p := ⟨w.heap.size, 1, none⟩) lt).trans c1
  have d2 := (hb.cell (p := ⟨w.heap.size, 2, none⟩) lt).trans c2
  have d3 := (hb.cell (p := ⟨w.heap.size, 3, none⟩) lt).trans c3
  go_wp2_with fail
  go_ret
  exact ⟨rfl, hbU.trans (hb.mono hbU.size)⟩
end Go.Proofs.YtfafcpjmfopinaaGreatDoor
/- Contracts of package calendar's printList and printWeek at lists of one part. -/
namespace Go.Proofs.YtfafcpjmfopinaaGreatDoor
open Go.RowKit Go.Shelf
theorem news1 (w : World) (a : Value) (t : TypeId) : ∀ j u, [a][j]? = some u → (w.alloc (.cells #[a] t)).cell? ((⟨w.heap.size, 0, none⟩ : Addr).add j) = some u := by
  intro j u hj
  match j, hj with
  | 0, hj => simp at hj; subst hj; simp [Addr.add]
set_option maxRecDepth 100000 in
set_option maxHeartbeats 4000000 in
theorem list_one (q : Part) (d : Int) (T : ByteArray) (v : Value) (w : World) (hp : Pin (fun _ => False) w v [q]) (hT : T.size ≤ 1000)
    (hP : ∀ w, Calls Tryz.prog 27 #[aggP q, .int .i64 d] w fun e w' => e = .returned (.string T) ∧ Below w.heap.size w w') :
    Calls Tryz.prog 12 #[v, .int .i64 d] w fun e w' => e = .returned (.string T) ∧ Below w.heap.size w w' := by
  have hT' : T.data.size ≤ 140737488355328 := Nat.le_trans hT (by decide)
  obtain ⟨i0, hinf, hz0, hz1, hz2⟩ := info_parts infoSp
  obtain ⟨pp, cap, rfl, _, hq⟩ := hp
  obtain ⟨b, o, rfl, _, r0, r1, r2, r3⟩ := hq 0 q rfl
  obtain ⟨q0, q1, q2, q3⟩ := q
  simp only [Nat.zero_mul, Nat.add_zero] at r0 r1 r2 r3
  simp only [List.length_cons, List.length_nil, Nat.zero_add, aggP] at hP ⊢
  obtain ⟨wm, hmk, hom, hgm⟩ := run_make_own (P := Tryz.prog) w w.heap.size 54 9 i0 _ 1 Tryz.underlying54 hinf hz0 hz1 .i64 .i64 1 (by rw [hz2]; decide) (by unfold maxLen; decide) (Nat.le_refl _)
  have hmk' : (Instr.makeSlice 54 (.int .i64 0) (.int .i64 1)).run Tryz.prog w = .ok (.slice (some ⟨w.heap.size, 0, none⟩) 0 1) wm := hmk
  have hbm : Below w.heap.size w wm := ⟨hgm.os, hgm.tape, hgm.output, hgm.size, fun k hk => hgm.block k hk (by simp)⟩
  have lb : b < w.heap.size := cell_lt r0
  clear hmk hq hgm
  go_enter Tryz.func12, Tryz.ntmps12
  go_wp2_with fail
  clear hmk'
  go_loopw [5, 13] (fun v i wr => ∃ (k g cp : Nat), k ≤ 1 ∧ i = .int .i64 k ∧ v = .slice (some ⟨g, 0, none⟩) k cp ∧ wr.ownsRow w.heap.size 9 1 (.slice (some ⟨g, 0, none⟩) k cp) k ([Value.string T].take k) ∧ Below w.heap.size w wr) (fun _ i _ => 1 - (intOf i).toNat)
  case atStart => exact ⟨0, w.heap.size, 1, by omega, rfl, rfl, hom, hbm⟩
  case round =>
    obtain ⟨k, g, cp, hk, rfl, rfl, hown, hb⟩ := hrel
    have hbs := hb.size
    by_cases hk0 : k = 0
    · subst hk0
      have s0 := (hb.cell (p := ⟨b, o, none⟩) lb).trans r0
      have s1 := (hb.cell (p := ⟨b, o + 1, none⟩) lb).trans r1
      have s2 := (hb.cell (p := ⟨b, o + 2, none⟩) lb).trans r2
      have s3 := (hb.cell (p := ⟨b, o + 3, none⟩) lb).trans r3
      obtain ⟨U, hU⟩ : ∃ U, wr.alloc (.cells #[.bool q0, .int .i64 q1, .int .i64 q2, .int .i64 q3] 70) = U := ⟨_, rfl⟩
      have hbU : Below wr.heap.size wr U := by rw [← hU]; exact (Below.refl _ _).alloc (Nat.le_refl _) _
      have y0 : U.cell? ⟨wr.heap.size, 0, none⟩ = some (.bool q0) := by rw [← hU]; exact cell_at rfl rfl
      have y1 : U.cell? ⟨wr.heap.size, 1, none⟩ = some (.int .i64 q1) := by rw [← hU]; exact cell_at rfl rfl
      have y2 : U.cell? ⟨wr.heap.size, 2, none⟩ = some (.int .i64 q2) := by rw [← hU]; exact cell_at rfl rfl
      have y3 : U.cell? ⟨wr.heap.size, 3, none⟩ = some (.int .i64 q3) := by rw [← hU]; exact cell_at rfl rfl
      go_wp2_with (rw [hU])
      refine (hP U).mono ?_
      rintro e V ⟨rfl, hb2⟩
      have hb3 : Below w.heap.size w V := (hb.trans (hbU.mono hb.size)).trans (hb2.mono (Nat.le_trans hb.size hbU.size))
      have hz3 := hb3.size
      have hown2 := ((hown.kept (grown_b hbU) (.inr (by simp [Value.ownBlock]))).kept (grown_b hb2) (.inr (by simp [Value.ownBlock]))).alloc (.cells #[.string T] 9)
      go_wp2_with (at_builtin; refine wpList_append_own_at _ rfl _ _ 54 rfl w.heap.size 9 i0 (.string ⟨#[]⟩) 1 16 Tryz.underlying54 hinf hz0 hz1 hz2 rfl (by decide) _ _ _ rfl hown2 ⟨V.heap.size, 0, none⟩ 1 1 [.string T] rfl rfl (news1 V (.string T) 9) (fun x hx => by simp at hx; subst hx; rfl) (by unfold maxLen; omega) (by omega) (by simp; omega) ?_; intro v' w3 hown' hgrow _ _; obtain ⟨g', cap', rfl, _⟩ := own_one hown')
      have hb4 : Below w.heap.size w w3 := (hb3.alloc (by omega) _).grown hgrow (by simp; omega) (fun k e => (hown2.lt k e).1)
      exact ⟨⟨1, g', cap', by omega, rfl, rfl, by simpa using hown', hb4⟩, by simp [intOf]⟩
    · obtain rfl : k = 1 := by omega
      obtain ⟨g', cp', he, hcp⟩ := own_one (n := 0) hown
      simp only [Value.slice.injEq, Option.some.injEq] at he
      obtain ⟨-, -, rfl⟩ := he
      have hj := Tryz.strings_Join g 0 cp [T] ⟨#[44]⟩ wr (fun j x hj => by
        match j, hj with
        | 0, hj =>
          simp at hj; subst hj
          exact hown.cellAt 0 (by omega)) (hown.lt g rfl).2 (by simp) (by simpa using hcp) (by simp [Lib.join]; exact hT')
      have hjT : (⟨(Lib.join ([T].map (·.data.toList)) (⟨#[44]⟩ : ByteArray).data.toList).toArray⟩ : ByteArray) = T := by simp [Lib.join]
      rw [hjT] at hj
      simp only [List.length_cons, List.length_nil, Nat.zero_add] at hj
      go_wp2_with fail
      refine hj.mono ?_
      rintro e V ⟨rfl, hbV⟩
      go_wp2_with fail
      go_ret
      exact ⟨rfl, hb.trans (hbV.mono hb.size)⟩
end Go.Proofs.YtfafcpjmfopinaaGreatDoor
/- Contracts of package calendar's printWeekday and printWeek, at Monday. -/
namespace Go.Proofs.YtfafcpjmfopinaaGreatDoor
open Go.RowKit Go.Shelf
set_option maxRecDepth 100000 in
theorem weekday_mon (w : World) : Calls Tryz.prog 29 #[.int .i64 0] w fun e w' => e = .returned (.string ⟨#[77, 111, 110]⟩) ∧ w' = w := by
  go_enter Tryz.func29, Tryz.ntmps29
  go_wp2_with fail
  go_ret
  exact ⟨rfl, rfl⟩
set_option maxRecDepth 100000 in
set_option maxHeartbeats 4000000 in
theorem week_one (q0 : Bool) (z q3 : Int) (T : ByteArray) (hTs : T.data.size ≤ 140737488355328) (hwd : ∀ w, Calls Tryz.prog 29 #[.int .i64 z] w fun e w' => e = .returned (.string T) ∧ w' = w) (v : Value) (w : World) (hp : Pin (fun _ => False) w v [(q0, z, z, q3)]) :
    Calls Tryz.prog 13 #[v] w fun e w' => e = .returned (.string T) ∧ Below w.heap.size w w' := by
  obtain ⟨i0, hinf, hz0, hz1, hz2⟩ := info_parts infoSp
  obtain ⟨pp, cap, rfl, _, hq⟩ := hp
  obtain ⟨b, o, rfl, _, r0, r1, r2, r3⟩ := hq 0 _ rfl
  simp only [Nat.zero_mul, Nat.add_zero] at r0 r1 r2 r3
  simp only [List.length_cons, List.length_nil, Nat.zero_add] at ⊢
  obtain ⟨wm, hmk, hom, hgm⟩ := run_make_own (P := Tryz.prog) w w.heap.size 54 9 i0 _ 1 Tryz.underlying54 hinf hz0 hz1 .i64 .i64 1 (by rw [hz2]; decide) (by unfold maxLen; decide) (Nat.le_refl _)
  have hmk' : (Instr.makeSlice 54 (.int .i64 0) (.int .i64 1)).run Tryz.prog w = .ok (.slice (some ⟨w.heap.size, 0, none⟩) 0 1) wm := hmk
  have hbm : Below w.heap.size w wm := ⟨hgm.os, hgm.tape, hgm.output, hgm.size, fun k hk => hgm.block k hk (by simp)⟩
  have lb : b < w.heap.size := cell_lt r0
  clear hmk hq hgm
  go_enter Tryz.func13, Tryz.ntmps13
  go_wp2_with fail
  clear hmk'
  go_loopw [3, 12] (fun v i wr => ∃ (k g cp : Nat), k ≤ 1 ∧ i = .int .i64 k ∧ v = .slice (some ⟨g, 0, none⟩) k cp ∧ wr.ownsRow w.heap.size 9 1 (.slice (some ⟨g, 0, none⟩) k cp) k ([Value.string T].take k) ∧ Below w.heap.size w wr) (fun _ i _ => 1 - (intOf i).toNat)
  case atStart => exact ⟨0, w.heap.size, 1, by omega, rfl, rfl, hom, hbm⟩
  case round =>
    obtain ⟨k, g, cp, hk, rfl, rfl, hown, hb⟩ := hrel
    have hbs := hb.size
    by_cases hk0 : k = 0
    · subst hk0
      have s0 := (hb.cell (p := ⟨b, o, none⟩) lb).trans r0
      have s1 := (hb.cell (p := ⟨b, o + 1, none⟩) lb).trans r1
      have s2 := (hb.cell (p := ⟨b, o + 2, none⟩) lb).trans r2
      have s3 := (hb.cell (p := ⟨b, o + 3, none⟩) lb).trans r3
      obtain ⟨U, hU⟩ : ∃ U, wr.alloc (.cells #[.bool q0, .int .i64 z, .int .i64 z, .int .i64 q3] 70) = U := ⟨_, rfl⟩
      have hbU : Below wr.heap.size wr U := by rw [← hU]; exact (Below.refl _ _).alloc (Nat.le_refl _) _
      have y1 : U.cell? ⟨wr.heap.size, 1, none⟩ = some (.int .i64 z) := by rw [← hU]; exact cell_at rfl rfl
      have y2 : U.cell? ⟨wr.heap.size, 2, none⟩ = some (.int .i64 z) := by rw [← hU]; exact cell_at rfl rfl
      go_wp2_with (rw [hU])
      refine (hwd U).mono ?_
      rintro e V ⟨rfl, hV⟩
      subst hV
      have hb3 : Below w.heap.size w V := hb.trans (hbU.mono hb.size)
      have hz3 := hb3.size
      have hown2 := (hown.kept (grown_b hbU) (.inr (by simp [Value.ownBlock]))).alloc (.cells #[.string T] 9)
      go_wp2_with (at_builtin; refine wpList_append_own_at _ rfl _ _ 54 rfl w.heap.size 9 i0 (.string ⟨#[]⟩) 1 16 Tryz.underlying54 hinf hz0 hz1 hz2 rfl (by decide) _ _ _ rfl hown2 ⟨V.heap.size, 0, none⟩ 1 1 [.string T] rfl rfl (news1 V (.string T) 9) (fun x hx => by simp at hx; subst hx; rfl) (by unfold maxLen; omega) (by omega) (by simp; omega) ?_; intro v' w3 hown' hgrow _ _; obtain ⟨g', cap', rfl, _⟩ := own_one hown')
      have hb4 : Below w.heap.size w w3 := (hb3.alloc (by omega) _).grown hgrow (by simp; omega) (fun k e => (hown2.lt k e).1)
      exact ⟨⟨1, g', cap', by omega, rfl, rfl, by simpa using hown', hb4⟩, by simp [intOf]⟩
    · obtain rfl : k = 1 := by omega
      obtain ⟨g', cp', he, hcp⟩ := own_one (n := 0) hown
      simp only [Value.slice.injEq, Option.some.injEq] at he
      obtain ⟨-, -, rfl⟩ := he
      have hj := Tryz.strings_Join g 0 cp [T] ⟨#[44]⟩ wr (fun j x hj => by
        match j, hj with
        | 0, hj =>
          simp at hj; subst hj
          exact hown.cellAt 0 (by omega)) (hown.lt g rfl).2 (by simp) (by simpa using hcp) (by simp [Lib.join]; exact hTs)
      have hjT : (⟨(Lib.join ([T].map (·.data.toList)) (⟨#[44]⟩ : ByteArray).data.toList).toArray⟩ : ByteArray) = T := by simp [Lib.join]
      rw [hjT] at hj
      simp only [List.length_cons, List.length_nil, Nat.zero_add] at hj
      go_wp2_with fail
      refine hj.mono ?_
      rintro e V ⟨rfl, hbV⟩
      go_wp2_with fail
      go_ret
      exact ⟨rfl, hb.trans (hbV.mono hb.size)⟩
theorem week_mon (v : Value) (w : World) (hp : Pin (fun _ => False) w v [(false, 0, 0, 0)]) :
    Calls Tryz.prog 13 #[v] w fun e w' => e = .returned (.string ⟨#[77, 111, 110]⟩) ∧ Below w.heap.size w w' :=
  week_one false 0 0 _ (by decide) weekday_mon v w hp
end Go.Proofs.YtfafcpjmfopinaaGreatDoor
/- The contract of package calendar's Print, where each list's print is told. -/
namespace Go.Proofs.YtfafcpjmfopinaaGreatDoor
open Go.RowKit Go.Shelf
structure QP (W y : World) : Prop where
  b : Below W.heap.size W y
/-- The expression in its box, its lists where they lay. -/
structure PC (x : Nat) (v0 v1 v2 v3 v4 v5 v6 : Value) (c : Cal.C7) (y : World) : Prop where
  c0 : y.cell? ⟨x, 0, none⟩ = some v0
  c1 : y.cell? ⟨x, 1, none⟩ = some v1
  c2 : y.cell? ⟨x, 2, none⟩ = some v2
  c3 : y.cell? ⟨x, 3, none⟩ = some v3
  c4 : y.cell? ⟨x, 4, none⟩ = some v4
  c5 : y.cell? ⟨x, 5, none⟩ = some v5
  c6 : y.cell? ⟨x, 6, none⟩ = some v6
  p0 : Pin (fun _ => False) y v0 c.week
  p1 : Pin (fun _ => False) y v1 c.year
  p2 : Pin (fun _ => False) y v2 c.month
  p3 : Pin (fun _ => False) y v3 c.day
  p4 : Pin (fun _ => False) y v4 c.hour
  p5 : Pin (fun _ => False) y v5 c.minute
  p6 : Pin (fun _ => False) y v6 c.second
theorem PC.next {x : Nat} {v0 v1 v2 v3 v4 v5 v6 : Value} {c : Cal.C7} {y z : World} (h : PC x v0 v1 v2 v3 v4 v5 v6 c y) (hb : Below y.heap.size y z) : PC x v0 v1 v2 v3 v4 v5 v6 c z :=
  ⟨(hb.cell (cell_lt h.c0)).trans h.c0, (hb.cell (cell_lt h.c1)).trans h.c1, (hb.cell (cell_lt h.c2)).trans h.c2, (hb.cell (cell_lt h.c3)).trans h.c3, (hb.cell (cell_lt h.c4)).trans h.c4, (hb.cell (cell_lt h.c5)).trans h.c5, (hb.cell (cell_lt h.c6)).trans h.c6, h.p0.below hb, h.p1.below hb, h.p2.below hb, h.p3.below hb, h.p4.below hb, h.p5.below hb, h.p6.below hb⟩
theorem hidP {p : Prop} (h : p) : Hid p := h
set_option maxRecDepth 100000 in
set_option maxHeartbeats 8000000 in
theorem print_of (S : Nat → Sl) (c : Cal.C7) (w : World) (hp : CalPin (fun _ => False) w S c) (hg : Gl (fun _ => False) w) (hI : isB c = true) (t1 t2 t3 t4 t5 t6 R : ByteArray) (z1 : t1.size ≤ 1000) (z2 : t2.size ≤ 1000) (z3 : t3.size ≤ 1000) (z4 : t4.size ≤ 1000) (z5 : t5.size ≤ 1000) (z6 : t6.size ≤ 1000)
    (l1 : ∀ v w, Pin (fun _ => False) w v c.year → Calls Tryz.prog 12 #[v, .int .i64 4] w fun e w' => e = .returned (.string t1) ∧ Below w.heap.size w w')
    (l2 : ∀ v w, Pin (fun _ => False) w v c.month → Calls Tryz.prog 12 #[v, .int .i64 2] w fun e w' => e = .returned (.string t2) ∧ Below w.heap.size w w')
    (l3 : ∀ v w, Pin (fun _ => False) w v c.day → Calls Tryz.prog 12 #[v, .int .i64 2] w fun e w' => e = .returned (.string t3) ∧ Below w.heap.size w w')
    (l4 : ∀ v w, Pin (fun _ => False) w v c.hour → Calls Tryz.prog 12 #[v, .int .i64 2] w fun e w' => e = .returned (.string t4) ∧ Below w.heap.size w w')
    (l5 : ∀ v w, Pin (fun _ => False) w v c.minute → Calls Tryz.prog 12 #[v, .int .i64 2] w fun e w' => e = .returned (.string t5) ∧ Below w.heap.size w w')
    (l6 : ∀ v w, Pin (fun _ => False) w v c.second → Calls Tryz.prog 12 #[v, .int .i64 2] w fun e w' => e = .returned (.string t6) ∧ Below w.heap.size w w')
    (hR : (c.week.length = 0 ∧ R = t1 ++ ⟨#[45]⟩ ++ t2 ++ ⟨#[45]⟩ ++ t3 ++ (⟨#[32]⟩ ++ t4 ++ ⟨#[58]⟩ ++ t5 ++ ⟨#[58]⟩ ++ t6)) ∨ (∃ t0 : ByteArray, t0.size ≤ 1000 ∧ 0 < c.week.length ∧ (∀ v w, Pin (fun _ => False) w v c.week → Calls Tryz.prog 13 #[v] w fun e w' => e = .returned (.string t0) ∧ Below w.heap.size w w') ∧ R = t0 ++ ⟨#[32]⟩ ++ (t1 ++ ⟨#[45]⟩ ++ t2 ++ ⟨#[45]⟩ ++ t3 ++ (⟨#[32]⟩ ++ t4 ++ ⟨#[58]⟩ ++ t5 ++ ⟨#[58]⟩ ++ t6)))) :
    Calls Tryz.prog 6 #[aggC S] w fun e w' => e = .returned (.tuple #[.string R, .int .i64 0]) ∧ Below w.heap.size w w' := by
  have hIs : ∀ W, Below w.heap.size w W → Calls Tryz.prog 11 #[.agg #[slv (S 0), slv (S 1), slv (S 2), slv (S 3), slv (S 4), slv (S 5), slv (S 6)]] W fun e w' => e = .returned (.bool true) ∧ Below W.heap.size W w' := fun W hb => by
    have h := isC_any S c W (hp.mv (Mv.below hb) (Gr.refl _ _)) (hg.mv (Mv.below hb) (Gr.refl _ _))
    rw [hI] at h
    exact h
  show Calls Tryz.prog 6 #[.agg #[slv (S 0), slv (S 1), slv (S 2), slv (S 3), slv (S 4), slv (S 5), slv (S 6)]] w _
  obtain ⟨p0, p1, p2, p3, p4, p5, p6⟩ := hp
  generalize slv (S 0) = v0 at *
  generalize slv (S 1) = v1 at *
  generalize slv (S 2) = v2 at *
  generalize slv (S 3) = v3 at *
  generalize slv (S 4) = v4 at *
  generalize slv (S 5) = v5 at *
  generalize slv (S 6) = v6 at *
  have L1 := hidP l1
  have L2 := hidP l2
  have L3 := hidP l3
  have L4 := hidP l4
  have L5 := hidP l5
  have L6 := hidP l6
  have HR := hidP hR
  clear l1 l2 l3 l4 l5 l6 hR
  obtain ⟨W0, hW0⟩ : ∃ W0, w.alloc (.cells #[v0, v1, v2, v3, v4, v5, v6] 26) = W0 := ⟨_, rfl⟩
  have hb0 : Below w.heap.size w W0 := by rw [← hW0]; exact (Below.refl _ _).alloc (Nat.le_refl _) _
  have hPC : PC w.heap.size v0 v1 v2 v3 v4 v5 v6 c W0 := ⟨by rw [← hW0]; exact cell_at rfl rfl, by rw [← hW0]; exact cell_at rfl rfl, by rw [← hW0]; exact cell_at rfl rfl, by rw [← hW0]; exact cell_at rfl rfl, by rw [← hW0]; exact cell_at rfl rfl, by rw [← hW0]; exact cell_at rfl rfl, by rw [← hW0]; exact cell_at rfl rfl, p0.below hb0, p1.below hb0, p2.below hb0, p3.below hb0, p4.below hb0, p5.below hb0, p6.below hb0⟩
  have d0 := hPC.c0
  have d1 := hPC.c1
  have d2 := hPC.c2
  have d3 := hPC.c3
  have d4 := hPC.c4
  have d5 := hPC.c5
  have d6 := hPC.c6
  have hv0 : Hid (∃ a0 cap0, v0 = .slice a0 c.week.length cap0) := by obtain ⟨a0, cap0, h, _, _⟩ := p0; exact ⟨a0, cap0, h⟩
  have hIs0 := hidP (hIs W0 hb0)
  have hPCH := hidP hPC
  clear hIs hPC hg hI p0 p1 p2 p3 p4 p5 p6
  go_enter Tryz.func6, Tryz.ntmps6
  go_wp2_with (rw [hW0])
  refine hIs0.out.mono ?_
  rintro e W1 ⟨rfl, hb1⟩
  have hP1 := hidP (hPCH.out.next hb1)
  have hz1 := hidP (hb0.trans (hb1.mono hb0.size))
  clear hIs0 hPCH hW0 hb1 hb0 d0 d1 d2 d3 d4 d5 d6
  go_upto_region 3 with fail
  have hC0 : Hid (QP W1 { W1 with drawn := W1.drawn + 1 }) := QP.mk (Below.refl _ W1).drew
  have hQ : Hid (∀ y, QP W1 y → PC w.heap.size v0 v1 v2 v3 v4 v5 v6 c y) := fun y h => hP1.out.next h.b
  have hconst : ∀ p : Prop, (∀ w', QP W1 w' → p) = p := fun p => propext ⟨fun h => h _ hC0.out, fun h _ _ => h⟩
  refine region_WQ (C := QP W1) (by kernel_rfl) (by kernel_rfl) hC0.out ?_
  iterate 1 (refine WQ_step (fun K hK => ?_); simp only [SQ_eq]; go_simp; refine hK _ ?_; clear hK K)
  refine WQ_step (fun K hK => ?_)
  simp only [SQ_eq]
  go_simp
  refine Exists.intro (v1) (And.intro (fun w' hw => (by have h := (hQ.out w' hw).c1; simp [h])) ?_)
  go_simp
  refine hK _ ?_
  clear hK K
  refine WQ_step (fun K hK => ?_)
  simp only [SQ_eq]
  go_simp
  refine Exists.intro (Value.string t1) (And.intro (fun w' hw => (L1.out _ w' (hQ.out w' hw).p1).mono (fun e z h => ⟨h.1, ⟨hw.b.trans (h.2.mono hw.b.size)⟩⟩)) ?_)
  go_simp
  refine hK _ ?_
  clear hK K
  refine WQ_step (fun K hK => ?_)
  simp only [SQ_eq]
  go_simp
  refine Exists.intro (Value.string (t1 ++ ⟨#[45]⟩)) (And.intro (fun w' hw => (by rw [if_neg (by omega)]; exact ⟨rfl, rfl⟩)) ?_)
  go_simp
  refine hK _ ?_
  clear hK K
  iterate 1 (refine WQ_step (fun K hK => ?_); simp only [SQ_eq]; go_simp; refine hK _ ?_; clear hK K)
  refine WQ_step (fun K hK => ?_)
  simp only [SQ_eq]
  go_simp
  refine Exists.intro (v2) (And.intro (fun w' hw => (by have h := (hQ.out w' hw).c2; simp [h])) ?_)
  go_simp
  refine hK _ ?_
  clear hK K
  refine WQ_step (fun K hK => ?_)
  simp only [SQ_eq]
  go_simp
  refine Exists.intro (Value.string t2) (And.intro (fun w' hw => (L2.out _ w' (hQ.out w' hw).p2).mono (fun e z h => ⟨h.1, ⟨hw.b.trans (h.2.mono hw.b.size)⟩⟩)) ?_)
  go_simp
  refine hK _ ?_
  clear hK K
  refine WQ_step (fun K hK => ?_)
  simp only [SQ_eq]
  go_simp
  refine Exists.intro (Value.string (t1 ++ ⟨#[45]⟩ ++ t2)) (And.intro (fun w' hw => (by rw [if_neg (by omega)]; exact ⟨rfl, rfl⟩)) ?_)
  go_simp
  refine hK _ ?_
  clear hK K
  refine WQ_step (fun K hK => ?_)
  simp only [SQ_eq]
  go_simp
  refine Exists.intro (Value.string (t1 ++ ⟨#[45]⟩ ++ t2 ++ ⟨#[45]⟩)) (And.intro (fun w' hw => (by rw [if_neg (by omega)]; exact ⟨rfl, rfl⟩)) ?_)
  go_simp
  refine hK _ ?_
  clear hK K
  iterate 1 (refine WQ_step (fun K hK => ?_); simp only [SQ_eq]; go_simp; refine hK _ ?_; clear hK K)
  refine WQ_step (fun K hK => ?_)
  simp only [SQ_eq]
  go_simp
  refine Exists.intro (v3) (And.intro (fun w' hw => (by have h := (hQ.out w' hw).c3; simp [h])) ?_)
  go_simp
  refine hK _ ?_
  clear hK K
  refine WQ_step (fun K hK => ?_)
  simp only [SQ_eq]
  go_simp
  refine Exists.intro (Value.string t3) (And.intro (fun w' hw => (L3.out _ w' (hQ.out w' hw).p3).mono (fun e z h => ⟨h.1, ⟨hw.b.trans (h.2.mono hw.b.size)⟩⟩)) ?_)
  go_simp
  refine hK _ ?_
  clear hK K
  refine WQ_step (fun K hK => ?_)
  simp only [SQ_eq]
  go_simp
  refine Exists.intro (Value.string (t1 ++ ⟨#[45]⟩ ++ t2 ++ ⟨#[45]⟩ ++ t3)) (And.intro (fun w' hw => (by rw [if_neg (by omega)]; exact ⟨rfl, rfl⟩)) ?_)
  go_simp
  refine hK _ ?_
  clear hK K
  iterate 1 (refine WQ_step (fun K hK => ?_); simp only [SQ_eq]; go_simp; refine hK _ ?_; clear hK K)
  refine WQ_nil ?_
  intro y hy
  obtain ⟨A, hA⟩ : ∃ A : ByteArray, t1 ++ ⟨#[45]⟩ ++ t2 ++ ⟨#[45]⟩ ++ t3 = A := ⟨_, rfl⟩
  have hAs : A.size ≤ 3002 := by rw [← hA]; simp only [ByteArray.size_append]; have h1 : (⟨#[45]⟩ : ByteArray).size = 1 := rfl; omega
  rw [hA]
  have hAH := hidP hA
  clear hconst hC0 hA
  have hP2 := hidP (hQ.out y hy)
  have hz2 := hidP (hz1.out.trans (hy.b.mono hz1.out.size))
  clear hQ hP1 hz1 hy
  go_upto_region 4 with fail
  have hC0 : Hid (QP y { y with drawn := y.drawn + 1 }) := QP.mk (Below.refl _ y).drew
  have hQ : Hid (∀ x, QP y x → PC w.heap.size v0 v1 v2 v3 v4 v5 v6 c x) := fun x h => hP2.out.next h.b
  have hconst : ∀ p : Prop, (∀ w', QP y w' → p) = p := fun p => propext ⟨fun h => h _ hC0.out, fun h _ _ => h⟩
  refine region_WQ (C := QP y) (by kernel_rfl) (by kernel_rfl) hC0.out ?_
  iterate 2 (refine WQ_step (fun K hK => ?_); simp only [SQ_eq]; go_simp; refine hK _ ?_; clear hK K)
  refine WQ_step (fun K hK => ?_)
  simp only [SQ_eq]
  go_simp
  refine Exists.intro (v4) (And.intro (fun w' hw => (by have h := (hQ.out w' hw).c4; simp [h])) ?_)
  go_simp
  refine hK _ ?_
  clear hK K
  refine WQ_step (fun K hK => ?_)
  simp only [SQ_eq]
  go_simp
  refine Exists.intro (Value.string t4) (And.intro (fun w' hw => (L4.out _ w' (hQ.out w' hw).p4).mono (fun e z h => ⟨h.1, ⟨hw.b.trans (h.2.mono hw.b.size)⟩⟩)) ?_)
  go_simp
  refine hK _ ?_
  clear hK K
  refine WQ_step (fun K hK => ?_)
  simp only [SQ_eq]
  go_simp
  refine Exists.intro (Value.string (⟨#[32]⟩ ++ t4)) (And.intro (fun w' hw => (by rw [if_neg (by omega)]; exact ⟨rfl, rfl⟩)) ?_)
  go_simp
  refine hK _ ?_
  clear hK K
  refine WQ_step (fun K hK => ?_)
  simp only [SQ_eq]
  go_simp
  refine Exists.intro (Value.string (⟨#[32]⟩ ++ t4 ++ ⟨#[58]⟩)) (And.intro (fun w' hw => (by rw [if_neg (by omega)]; exact ⟨rfl, rfl⟩)) ?_)
  go_simp
  refine hK _ ?_
  clear hK K
  iterate 1 (refine WQ_step (fun K hK => ?_); simp only [SQ_eq]; go_simp; refine hK _ ?_; clear hK K)
  refine WQ_step (fun K hK => ?_)
  simp only [SQ_eq]
  go_simp
  refine Exists.intro (v5) (And.intro (fun w' hw => (by have h := (hQ.out w' hw).c5; simp [h])) ?_)
  go_simp
  refine hK _ ?_
  clear hK K
  refine WQ_step (fun K hK => ?_)
  simp only [SQ_eq]
  go_simp
  refine Exists.intro (Value.string t5) (And.intro (fun w' hw => (L5.out _ w' (hQ.out w' hw).p5).mono (fun e z h => ⟨h.1, ⟨hw.b.trans (h.2.mono hw.b.size)⟩⟩)) ?_)
  go_simp
  refine hK _ ?_
  clear hK K
  refine WQ_step (fun K hK => ?_)
  simp only [SQ_eq]
  go_simp
  refine Exists.intro (Value.string (⟨#[32]⟩ ++ t4 ++ ⟨#[58]⟩ ++ t5)) (And.intro (fun w' hw => (by rw [if_neg (by omega)]; exact ⟨rfl, rfl⟩)) ?_)
  go_simp
  refine hK _ ?_
  clear hK K
  refine WQ_step (fun K hK => ?_)
  simp only [SQ_eq]
  go_simp
  refine Exists.intro (Value.string (⟨#[32]⟩ ++ t4 ++ ⟨#[58]⟩ ++ t5 ++ ⟨#[58]⟩)) (And.intro (fun w' hw => (by rw [if_neg (by omega)]; exact ⟨rfl, rfl⟩)) ?_)
  go_simp
  refine hK _ ?_
  clear hK K
  iterate 1 (refine WQ_step (fun K hK => ?_); simp only [SQ_eq]; go_simp; refine hK _ ?_; clear hK K)
  refine WQ_step (fun K hK => ?_)
  simp only [SQ_eq]
  go_simp
  refine Exists.intro (v6) (And.intro (fun w' hw => (by have h := (hQ.out w' hw).c6; simp [h])) ?_)
  go_simp
  refine hK _ ?_
  clear hK K
  refine WQ_step (fun K hK => ?_)
  simp only [SQ_eq]
  go_simp
  refine Exists.intro (Value.string t6) (And.intro (fun w' hw => (L6.out _ w' (hQ.out w' hw).p6).mono (fun e z h => ⟨h.1, ⟨hw.b.trans (h.2.mono hw.b.size)⟩⟩)) ?_)
  go_simp
  refine hK _ ?_
  clear hK K
  refine WQ_step (fun K hK => ?_)
  simp only [SQ_eq]
  go_simp
  refine Exists.intro (Value.string (⟨#[32]⟩ ++ t4 ++ ⟨#[58]⟩ ++ t5 ++ ⟨#[58]⟩ ++ t6)) (And.intro (fun w' hw => (by rw [if_neg (by omega)]; exact ⟨rfl, rfl⟩)) ?_)
  go_simp
  refine hK _ ?_
  clear hK K
  refine WQ_step (fun K hK => ?_)
  simp only [SQ_eq]
  go_simp
  refine Exists.intro (Value.string (A ++ (⟨#[32]⟩ ++ t4 ++ ⟨#[58]⟩ ++ t5 ++ ⟨#[58]⟩ ++ t6))) (And.intro (fun w' hw => (by rw [if_neg (by omega)]; exact ⟨rfl, rfl⟩)) ?_)
  go_simp
  refine hK _ ?_
  clear hK K
  iterate 1 (refine WQ_step (fun K hK => ?_); simp only [SQ_eq]; go_simp; refine hK _ ?_; clear hK K)
  refine WQ_nil ?_
  intro u hu
  clear hconst hC0
  have hP3 := hQ.out u hu
  have hz3 := hidP (hz2.out.trans (hu.b.mono hz2.out.size))
  have e0 := hP3.c0
  have g0 := hidP hP3.p0
  clear hQ hP2 hz2 hu hP3
  obtain ⟨a0, cap0, rfl⟩ := hv0.out
  obtain ⟨B, hB⟩ : ∃ B : ByteArray, A ++ (⟨#[32]⟩ ++ t4 ++ ⟨#[58]⟩ ++ t5 ++ ⟨#[58]⟩ ++ t6) = B := ⟨_, rfl⟩
  have hBs : B.size ≤ 7000 := by rw [← hB]; simp only [ByteArray.size_append]; have h1 : (⟨#[32]⟩ : ByteArray).size = 1 := rfl; have h2 : (⟨#[58]⟩ : ByteArray).size = 1 := rfl; omega
  rw [hB]
  have HR2 := hidP HR.out
  rw [hAH.out, hB] at HR2
  clear hB HR hAH z1 z2 z3 z4 z5 z6 L1 L2 L3 L4 L5 L6
  rcases HR2.out with ⟨hn, rfl⟩ | ⟨t0, z0, hn, hW, rfl⟩
  · rw [hn] at e0
    go_wp2_with fail
    go_ret2
    exact ⟨rfl, hz3.out⟩
  · have hnI : (0 : Int) < (c.week.length : Int) := by omega
    have hwk := hidP (hW _ u g0.out)
    have y1 : ¬ 9223372036854775807 < t0.size + 1 := by omega
    have y2 : ¬ 9223372036854775807 < t0.size + 1 + B.size := by omega
    clear hW HR2
    go_wp2_with fail
    refine hwk.out.mono ?_
    rintro e x ⟨rfl, hbx⟩
    go_wp2_with fail
    go_ret2
    exact ⟨rfl, hz3.out.trans (hbx.mono hz3.out.size)⟩
end Go.Proofs.YtfafcpjmfopinaaGreatDoor
