/- All: the elements in order, told to a taker. -/
import Derived.Test.YtcjlkhgnohdonaaQiX
import Derived.Deep.LoopGhost
namespace Go.Proofs.Ytcjlkhgnohdonaa.Qi
open Go.RowKit Go.Shelf Go.Lib
attribute [local go_sem] Oper.semAt_some
set_option maxRecDepth 100000 in
set_option maxHeartbeats 1000000 in
theorem allf_any (q : Nat) (w : World) : Calls Try.prog 19 #[qp q] w fun e V => e = .returned (.func (.func 31) #[] #[.pointer (some ⟨w.heap.size, 0, none⟩)]) ∧ V = w.alloc (.cells #[qp q] 35) := by
  unfold qp
  go_enter Try.func19, Try.ntmps19
  go_wp2_with fail
  go_ret
  exact ⟨rfl, rfl⟩
/-- A taker: it takes x, and wants more or not; it turns nothing but D and what is new. -/
def Tak (f : Nat) (caps : Array Value) (J : List El → (Nat → Prop) → World → Prop) (Jx : (Nat → Prop) → World → Prop) : Prop :=
  ∀ x rest D W, J (x :: rest) D W → Calls Try.prog f (#[ev x] ++ caps) W fun e V => Mv D W V ∧ ((e = .returned (.bool true) ∧ ∃ D', Gr D W D' ∧ J rest D' V) ∨ (e = .returned (.bool false) ∧ ∃ D', Gr D W D' ∧ Jx D' V))
/-- Where the loop stands: what is left in the twin, beside the taker's. -/
def AS (nb : Nat) (key : El → Int) (w : World) (D0 : Nat → Prop) (q : Nat) (n : Nat) (J : List El → (Nat → Prop) → World → Prop) (s rest : List El) (W : World) : Prop :=
  ∃ D E B, Qu nb key W q E B rest n ∧ J s D W ∧ (∀ k, E k → w.heap.size ≤ k ∧ ¬ D k) ∧ (∀ k, B k → ¬ D k) ∧ Mv D0 w W ∧ Gr D0 w D
/-- The end: all is told, or it was left. -/
def AE (w : World) (D0 : Nat → Prop) (J : List El → (Nat → Prop) → World → Prop) (Jx : (Nat → Prop) → World → Prop) (V : World) : Prop :=
  Mv D0 w V ∧ ∃ D, Gr D0 w D ∧ (J [] D V ∨ Jx D V)
theorem AS.pop {nb : Nat} {key : El → Int} (hB : Bf nb key) {w : World} {D0 : Nat → Prop} {q n : Nat} {J : List El → (Nat → Prop) → World → Prop} (tJ : Ter w.heap.size J) {s : List El} {x : El} {rest : List El} {W : World} (h : AS nb key w D0 q n J s (x :: rest) W) :
    Calls Try.prog 16 #[qp q] W fun e V => e = .returned (.tuple #[ev x, .int .i64 0]) ∧ AS nb key w D0 q n J s rest V := by
  obtain ⟨D, E, B, u, j, h1, h2, h3, h4⟩ := h
  refine (pop_some hB u).mono ?_
  rintro e V ⟨rfl, E', B', u', m, g, gb⟩
  have lD := tJ.low _ _ _ j
  have szW := h3.size
  refine ⟨rfl, D, E', B', u', tJ.keep _ _ _ _ j (m.mono fun k _ e => ⟨(h1 k e).2, (h1 k e).1⟩), fun k hk => ?_, fun k hk => ?_, h3.trans (E' := E) (fun k hk => .inr (h1 k hk).1) m, h4⟩
  · rcases g k hk with s | s
    · exact h1 k s
    · exact ⟨by omega, fun d => by have := lD k d; omega⟩
  · rcases gb k hk with s | s
    · exact h2 k s
    · exact fun d => by have := lD k d; omega
theorem AS.take {nb : Nat} {key : El → Int} {w : World} {D0 : Nat → Prop} {q n : Nat} {J : List El → (Nat → Prop) → World → Prop} {Jx : (Nat → Prop) → World → Prop} {f : Nat} {caps : Array Value} (hT : Tak f caps J Jx) {x : El} {rest : List El} {W : World} (h : AS nb key w D0 q n J (x :: rest) rest W) :
    Calls Try.prog f (#[ev x] ++ caps) W fun e V => (e = .returned (.bool true) ∧ AS nb key w D0 q n J rest rest V) ∨ (e = .returned (.bool false) ∧ AE w D0 J Jx V) := by
  obtain ⟨D, E, B, u, j, h1, h2, h3, h4⟩ := h
  refine (hT x rest D W j).mono ?_
  rintro e V ⟨m, (⟨rfl, D', g, j'⟩ | ⟨rfl, D', g, j'⟩)⟩
  · obtain ⟨lE, lB⟩ := u.lt
    refine .inl ⟨rfl, D', E, B, u.mv m (fun k hk => (h1 k hk).2) h2, j', fun k hk => ⟨(h1 k hk).1, fun d => ?_⟩, fun k hk d => ?_, h3.trans h4 m, h4.trans h3.size g⟩
    · rcases g k d with s | s
      · exact (h1 k hk).2 s
      · have := lE k hk; omega
    · rcases g k d with s | s
      · exact h2 k hk s
      · have := lB k hk; omega
  · exact .inr ⟨rfl, h3.trans h4 m, D', h4.trans h3.size g, .inr j'⟩
set_option maxRecDepth 100000 in
set_option maxHeartbeats 4000000 in
theorem all_run {nb : Nat} {key : El → Int} (hB : Bf nb key) {w : World} {q bl : Nat} {E B : Nat → Prop} {L : List El} {n : Nat} (h : Qu nb key w q E B L n) (hbl : w.cell? ⟨bl, 0, none⟩ = some (qp q)) {f : Nat} {caps : Array Value} (eg : ∀ args w, (callFunc f args).run Try.prog w = .ok (.enter f args) w) {J : List El → (Nat → Prop) → World → Prop} {Jx : (Nat → Prop) → World → Prop} (tJ : Ter w.heap.size J) (hT : Tak f caps J Jx) {D : Nat → Prop} (h0 : J L D w) (hD : ∀ k, B k → ¬ D k) :
    Calls Try.prog 31 #[.func (.func f) #[] caps, .pointer (some ⟨bl, 0, none⟩)] w fun e V => e = .returned (.tuple #[]) ∧ AE w D J Jx V := by
  have hTw : Hid (Calls Try.prog 32 #[qp q] w fun e V => ∃ q', e = .returned (qp q') ∧ AS nb key w D q' n J L L V) := by
    refine (twin_any h).mono ?_
    rintro e V ⟨q', E', rfl, u, hE, hb⟩
    have lD := tJ.low _ _ _ h0
    exact ⟨q', rfl, D, E', B, u, tJ.keep _ _ _ _ h0 (Mv.below hb), fun k hk => ⟨hE k hk, fun d => by have := lD k d; have := hE k hk; omega⟩, hD, Mv.below hb, fun _ h => .inl h⟩
  have hPn : Hid (∀ q' s W, AS nb key w D q' n J s [] W → Calls Try.prog 16 #[qp q'] W fun e V => e = .returned (.tuple #[.int .i64 0, .int .i64 130]) ∧ V = W) := fun q' s W hA => by
    obtain ⟨_, _, _, u, _⟩ := hA
    exact pop_none u
  have hPs : Hid (∀ q' s x rest W, AS nb key w D q' n J s (x :: rest) W → _) := fun q' s x rest W hA => AS.pop hB tJ hA
  have hTk : Hid (∀ q' x rest W, AS nb key w D q' n J (x :: rest) rest W → _) := fun q' x rest W hA => AS.take hT hA
  have hEnd : Hid (∀ q' W, AS nb key w D q' n J [] [] W → AE w D J Jx W) := fun q' W hA => by
    obtain ⟨D', _, _, _, j, _, _, m, g⟩ := hA
    exact ⟨m, D', g, .inl j⟩
  clear h hB tJ hT h0 hD
  unfold qp at *
  go_enter Try.func31, Try.ntmps31
  go_wp2_with fail
  refine hTw.out.mono ?_
  rintro e W1 ⟨q', rfl, hA⟩
  have hAH := hidP hA
  clear hA hTw
  cases L with
  | nil =>
    have hP := hidP (hPn.out q' _ W1 hAH.out)
    go_wp2_with fail
    refine hP.out.mono ?_
    rintro e W2 ⟨rfl, rfl⟩
    clear hP
    go_wp2_with fail
    go_loopw [4, 5] (fun a b wr => a = .int .i64 0 ∧ b = .int .i64 130 ∧ Hid (wr = W2)) (fun _ _ _ => 0)
    case atStart => exact ⟨rfl, rfl, rfl⟩
    case round =>
      obtain ⟨rfl, rfl, hw⟩ := hrel
      obtain rfl := hw.out
      have fin := hidP (hEnd.out q' _ hAH.out)
      go_wp2_with fail
      go_end0
      exact ⟨rfl, fin.out⟩
  | cons x L =>
    have hP := hidP (hPs.out q' _ x L W1 hAH.out)
    clear hAH
    go_wp2_with fail
    refine hP.out.mono ?_
    rintro e W2 ⟨rfl, hA⟩
    have hAH := hidP hA
    clear hP hA
    go_wp2_with fail
    go_loopg [4, 5] (L.length + 1) (fun k s4 s5 wr => (∃ x rest, s4 = ev x ∧ s5 = .int .i64 0 ∧ rest.length + 1 = k ∧ Hid (AS nb key w D q' n J (x :: rest) rest wr)) ∨ (s4 = .int .i64 0 ∧ s5 = .int .i64 130 ∧ Hid (AS nb key w D q' n J [] [] wr)))
    case atStart => exact .inl ⟨x, L, rfl, rfl, rfl, hAH⟩
    case round =>
      rcases hrel with ⟨y, rest, rfl, rfl, hk, hA⟩ | ⟨rfl, rfl, hA⟩
      · have hT := hidP (hTk.out q' y rest wr hA.out)
        have hkH := hidP hk
        clear hA hk
        go_wp2_with fail
        refine hT.out.mono ?_
        rintro e W3 (⟨rfl, hA3⟩ | ⟨rfl, hE⟩)
        · cases rest with
          | nil =>
            have hP := hidP (hPn.out q' _ W3 hA3)
            have hA3H := hidP hA3
            clear hT hA3
            go_wp2_with fail
            refine hP.out.mono ?_
            rintro e W4 ⟨rfl, rfl⟩
            clear hP
            go_wp2_with fail
            go_roundg 0
            case measure => have := hkH.out; simp at this; omega
            case rel => exact .inr ⟨rfl, rfl, hA3H⟩
          | cons z R =>
            have hP := hidP (hPs.out q' _ z R W3 hA3)
            clear hT hA3
            go_wp2_with fail
            refine hP.out.mono ?_
            rintro e W4 ⟨rfl, hA4⟩
            have hA4H := hidP hA4
            clear hP hA4
            go_wp2_with fail
            go_roundg (R.length + 1)
            case measure => have := hkH.out; simp at this; omega
            case rel => exact .inl ⟨z, R, rfl, rfl, rfl, hA4H⟩
        · have hEH := hidP hE
          clear hT hE
          go_wp2_with fail
          refine bodyPost_ret (results_none rfl _ _ _) rfl ?_
          exact ⟨rfl, hEH.out⟩
      · have fin := hidP (hEnd.out q' _ hA.out)
        go_wp2_with fail
        go_end0
        exact ⟨rfl, fin.out⟩
end Go.Proofs.Ytcjlkhgnohdonaa.Qi
