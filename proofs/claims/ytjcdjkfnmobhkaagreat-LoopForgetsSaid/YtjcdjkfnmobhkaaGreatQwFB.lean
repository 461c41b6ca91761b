/- free: what waited behind one that is out. -/
import Derived.Test.YtjcdjkfnmobhkaaGreatQwSB
namespace Go.Proofs.YtjcdjkfnmobhkaaGreat.Qw
open Go.RowKit Go.Shelf Go.Lib
attribute [local go_sem] Oper.semAt_some
theorem step_append_run {P : Program} {w : World} {ops : Array Oper} {o : Oper} {a : Act} {K : Act → World → Prop} {Q : Exit → Act → World → Prop} {E : Prop} (hgd : o.guard = none) (s x : Operand) (t : TypeId)
    (ho : o.op = .call { callee := .builtin .append, args := #[s, x], argTypes := #[t, t] }) (v xv v' : Value) (w' : World) (hs : a.eval s = v) (hx : a.eval x = xv)
    (hr : (Builtin.append_ #[t, t] o.type #[v, xv]).run P w = .ok v' w') (h : K (a.put o.dst v') w') : if Region.wanted o (yielded ops a.tmps) = true then Oper.wp P o a w K Q else E := by
  have hw : Region.wanted o (yielded ops a.tmps) = true := by simp [Region.wanted, hgd]
  rw [if_pos hw]
  unfold Oper.wp execOp
  simp only [ho, resolve, invoke, builtin, Sem.run_bind, Sem.run_pure, Result.andThen_ok, List.map_toArray, List.map_cons, List.map_nil, hs, hx, hr]
  exact h
set_option maxRecDepth 100000 in
set_option maxHeartbeats 1000000 in
theorem index_nil (f : Value) (w : World) : Calls Tryz.prog 92 #[.slice none 0 0, f] w fun e w' => e = .returned (.int .i64 (-1)) ∧ w' = w := by
  go_enter Tryz.func92, Tryz.ntmps92
  go_wp2_with fail
  go_loopw [8] (fun i wr => i = .int .i64 0 ∧ Hid (wr = w)) (fun _ _ => 0)
  case atStart => exact ⟨rfl, rfl⟩
  case round =>
    obtain ⟨rfl, hw⟩ := hrel
    obtain rfl := hw.out
    go_wp2_with fail
    go_ret
    exact ⟨rfl, rfl⟩
set_option maxRecDepth 100000 in
set_option maxHeartbeats 1000000 in
theorem unheld_nil (q : Nat) (p2 : Option Addr) (n c2 : Nat) (hn : 0 < n) (w : World) :
    Calls Tryz.prog 63 #[qp q, .slice none 0 0, .slice p2 n c2] w fun e V => e = .returned (.slice none 0 0) ∧ Below w.heap.size w V := by
  obtain ⟨W0, hW0⟩ : ∃ W0, (w.alloc (.cells #[qp q] 74)).alloc (.cells #[.slice p2 n c2] 68) = W0 := ⟨_, rfl⟩
  have b0 : Hid (Below w.heap.size w W0) := by show Below _ _ _; rw [← hW0]; exact ((Below.refl _ _).alloc (Nat.le_refl _) _).alloc (by simp) _
  have k1 : W0.cell? ⟨w.heap.size + 1, 0, none⟩ = some (.slice p2 n c2) := by rw [← hW0]; exact cell_at (by simp) rfl
  have hD : Hid (∀ f, Calls Tryz.prog 80 #[.slice none 0 0, f] W0 fun e V => e = .returned (.slice none 0 0) ∧ V = W0) := by
    intro f
    have hI := index_nil f W0
    clear hW0 b0 k1 hn
    go_enter Tryz.func80, Tryz.ntmps80
    go_wp2_with fail
    refine hI.mono ?_
    rintro e w2 ⟨rfl, rfl⟩
    go_wp2_with fail
    go_ret
    exact ⟨rfl, rfl⟩
  have hne : ¬ n = 0 := by omega
  have hneI : ((n : Int) == 0) = false := by simp; omega
  unfold qp at *
  go_enter Tryz.func63, Tryz.ntmps63
  go_wp2_with (rw [hW0])
  refine (hD.out _).mono ?_
  rintro e w2 ⟨rfl, rfl⟩
  go_wp2_with fail
  go_ret
  exact ⟨rfl, b0.out⟩
theorem LR.mv {E : Nat → Prop} {w V : World} {B : Nat → Prop} (m : Mv E w V) (h3 : ∀ k, B k → ¬ E k) : ∀ (f : Fo El) (p : Option Nat), LR w B f p → LR V B f p
  | .nil, _, h => h
  | .cons _ _ k r, p, h => by
    obtain ⟨b, pk, pr, rfl, hb, c0, c1, c2, c3, hk, hr⟩ := h
    have nb := h3 b hb
    exact ⟨b, pk, pr, rfl, hb, ⟨m.cell (a := ⟨b, 0, none⟩) nb c0.1, m.cell (a := ⟨b, 1, none⟩) nb c0.2.1, m.cell (a := ⟨b, 2, none⟩) nb c0.2.2.1, m.cell (a := ⟨b, 3, none⟩) nb c0.2.2.2.1, m.cell (a := ⟨b, 4, none⟩) nb c0.2.2.2.2.1, m.cell (a := ⟨b, 5, none⟩) nb c0.2.2.2.2.2⟩, m.cell (a := ⟨b, 6, none⟩) nb c1, m.cell (a := ⟨b, 7, none⟩) nb c2, m.cell (a := ⟨b, 8, none⟩) nb c3, LR.mv m h3 k pk hk, LR.mv m h3 r pr hr⟩
theorem RF.mv {E : Nat → Prop} {w V : World} {B : Nat → Prop} (m : Mv E w V) (h3 : ∀ k, B k → ¬ E k) : ∀ (xs : List Rec) (F : List (Tr El)), RF w B xs F → RF V B xs F
  | [], [], _ => trivial
  | _ :: xs, _ :: ys, h => ⟨⟨h.1.1, h.1.2.1, LR.mv m h3 _ _ h.1.2.2⟩, RF.mv m h3 xs ys h.2⟩
  | [], _ :: _, h => h.elim
  | _ :: _, [], h => h.elim
/-- A queue in memory: its order, its front v (the records xs, the trees F), how many there are, how many were pushed. -/
structure Qm (nb : NB) (w : World) (q : Nat) (B : Nat → Prop) (v : Value) (xs : List Rec) (F : List (Tr El)) (cnt psh : Int) : Prop where
  c0 : w.cell? ⟨q, 0, none⟩ = some (fnV nb)
  c1 : w.cell? ⟨q, 1, none⟩ = some v
  c2 : w.cell? ⟨q, 2, none⟩ = some (.int .i64 cnt)
  c3 : w.cell? ⟨q, 3, none⟩ = some (.int .i64 psh)
  f1 : w.frozen? ⟨q, 1, none⟩ = false
  f2 : w.frozen? ⟨q, 2, none⟩ = false
  f3 : w.frozen? ⟨q, 3, none⟩ = false
  sv : SV w v xs
  rf : RF w B xs F
  nq : nbk v ≠ some q
  nB : ∀ k, B k → k ≠ q ∧ nbk v ≠ some k
  lo : ∀ k, B k → k < w.heap.size
  len : xs.length ≤ 300000
  xt : Xt w q nb.X
theorem Qm.lt {nb : NB} {w : World} {q : Nat} {B : Nat → Prop} {v : Value} {xs : List Rec} {F : List (Tr El)} {cnt psh : Int} (h : Qm nb w q B v xs F cnt psh) : q < w.heap.size := cell_lt h.c0
theorem Qm.mv {E : Nat → Prop} {nb : NB} {w V : World} {q : Nat} {B : Nat → Prop} {v : Value} {xs : List Rec} {F : List (Tr El)} {cnt psh : Int} (h : Qm nb w q B v xs F cnt psh) (m : Mv E w V) (h1 : ¬ E q) (h2 : ∀ k, nbk v = some k → ¬ E k) (h3 : ∀ k, B k → ¬ E k) : Qm nb V q B v xs F cnt psh := by
  have lq := h.lt
  exact ⟨m.cell (a := ⟨q, 0, none⟩) h1 h.c0, m.cell (a := ⟨q, 1, none⟩) h1 h.c1, m.cell (a := ⟨q, 2, none⟩) h1 h.c2, m.cell (a := ⟨q, 3, none⟩) h1 h.c3, (m.froz (a := ⟨q, 1, none⟩) h1 lq).trans h.f1, (m.froz (a := ⟨q, 2, none⟩) h1 lq).trans h.f2, (m.froz (a := ⟨q, 3, none⟩) h1 lq).trans h.f3, h.sv.mv m h2, RF.mv m h3 _ _ h.rf, h.nq, h.nB, fun k hk => Nat.lt_of_lt_of_le (h.lo k hk) m.size, h.len, h.xt.mv m h1 lq⟩
theorem Qm.below {nb : NB} {w V : World} {q : Nat} {B : Nat → Prop} {v : Value} {xs : List Rec} {F : List (Tr El)} {cnt psh : Int} (h : Qm nb w q B v xs F cnt psh) (b : Below w.heap.size w V) : Qm nb V q B v xs F cnt psh := h.mv (E := fun _ => False) (Mv.below b) (fun h => h) (fun _ _ h => h) (fun _ _ h => h)
/-- What a call leaves: the queue with the front F', in territories of its own. -/
def QP (nb : NB) (w : World) (q : Nat) (B : Nat → Prop) (v : Value) (E : Nat → Prop) (F' : List (Tr El)) (cnt psh : Int) (V : World) : Prop :=
  ∃ v' xs' B', Qm nb V q B' v' xs' F' cnt psh ∧ Mv E w V ∧ Gr B w B' ∧ (nbk v' = nbk v ∨ ∃ k, nbk v' = some k ∧ w.heap.size ≤ k)
theorem onL_nil {α : Type} : ∀ l : List (Tr α), onL [] l = l
  | [] => rfl
  | [_] => rfl
  | x :: y :: l => by show x :: onL [] (y :: l) = _; rw [onL_nil (y :: l)]
theorem SV.appendN {w : World} {v : Value} {l : List Rec} (h : SV w v l) {g2 o2 : Nat} {ys : List Rec} (hx : RA w g2 o2 ys) (hy : ys ≠ []) (hl : l.length ≤ 400000) (hl2 : ys.length ≤ 400000) (c2 : Nat) :
    ∃ v' w', (Builtin.append_ #[68, 68] 68 #[v, slv g2 o2 ys.length c2]).run Tryz.prog w = .ok v' w' ∧ SV w' v' (l ++ ys) ∧ Mv (fun k => nbk v = some k) w w' ∧ (nbk v' = nbk v ∨ ∃ k, nbk v' = some k ∧ w.heap.size ≤ k) := by
  rcases h with ⟨rfl, rfl⟩ | ⟨g, o, c, rfl, h⟩
  · obtain ⟨g', c', w', hrun, hg, hrs, hb⟩ := app_nil (c2 := c2) hx hy (by omega) 68
    exact ⟨_, w', hrun, .inr ⟨g', 0, c', rfl, hrs⟩, Mv.below hb, .inr ⟨g', rfl, hg⟩⟩
  · by_cases hroom : l.length + ys.length ≤ c
    · obtain ⟨V', hrun, hrs, hc⟩ := app_room h (c2 := c2) hx hroom 68
      exact ⟨_, V', hrun, .inr ⟨g, o, c, by rw [List.length_append], hrs⟩, hc.mv.mono (fun k _ s => by obtain ⟨j, e, _⟩ := s; subst e; rfl), .inl rfl⟩
    · obtain ⟨g', c', V', hrun, hg, hrs, hb⟩ := app_grow h (c2 := c2) hx (by omega) (by omega) (by omega) 68
      exact ⟨_, V', hrun, .inr ⟨g', 0, c', by rw [List.length_append], hrs⟩, Mv.below hb, .inr ⟨g', rfl, hg⟩⟩
set_option maxRecDepth 100000 in
set_option maxHeartbeats 1000000 in
/-- free where nothing is left to be made anew. -/
theorem free_short {q : Nat} {w : World} {pv pt p : Option Addr} {n cv nt ct c : Nat} {P : World → Prop} (hc1 : w.cell? ⟨q, 1, none⟩ = some (.slice pv n cv)) (hU : Calls Tryz.prog 63 #[qp q, .slice pt nt ct, .slice pv n cv] w fun e V => e = .returned (.slice p 0 c) ∧ P V) :
    Calls Tryz.prog 50 #[qp q, .slice pt nt ct] w fun e V => e = .returned (.tuple #[]) ∧ P V := by
  have hUH := hidP hU
  clear hU
  unfold qp at *
  go_enter Tryz.func50, Tryz.ntmps50
  go_wp2_with fail
  refine hUH.out.mono ?_
  rintro e V ⟨rfl, hP⟩
  have hPH := hidP hP
  clear hP hUH
  go_wp2_with fail
  refine bodyPost_ret (results_none rfl _ _ _) rfl ?_
  exact ⟨rfl, hPH.out⟩
/-- What least and the sort leave. -/
structure Fn (nb : NB) (key : El → Int) (w : World) (q : Nat) (B : Nat → Prop) (v : Value) (F : List (Tr El)) (gt : Nat) (cnt psh : Int) (V : World) : Prop where
  out : ∃ F', F'.Perm F ∧ F'.Pairwise (fun a b => a.t ≤ b.t) ∧ QP nb w q B v (fun k => k = q ∨ nbk v = some k ∨ k = gt) F' cnt psh V
end Go.Proofs.YtjcdjkfnmobhkaaGreat.Qw
