/- QueueTexts. -/
import Derived.Test.YtcjlkhgnohdonaaLT1
import Derived.Deep.LoopGhost
namespace Go.Proofs.Ytcjlkhgnohdonaa
open Go.RowKit Go.Shelf Go.Lib
attribute [local go_sem] Oper.semAt_some
set_option maxRecDepth 100000 in
set_option maxHeartbeats 1000000 in
theorem bf_texts : Qs.Bf 8 kz := by
  refine ⟨enters_of Try.func8 (by kernel_rfl) rfl, fun (a b : ByteArray) w => ?_⟩
  unfold kz
  go_enter Try.func8, Try.ntmps8
  go_wp2_with fail
  go_ret
  exact ⟨by simp, Below.refl _ _⟩
/-- The queue of texts and the row beside it. -/
def Tx (w0 W : World) (q : Nat) (L : List ByteArray) (n : Nat) (v : Value) (left : List ByteArray) : Prop :=
  ∃ E B, Qs.Qu 8 kz W q E B L n ∧ (∀ k, E k ∨ B k → w0.heap.size ≤ k ∧ v.ownBlock ≠ some k) ∧ W.ownsRow 0 9 1 v left.length (left.map .string) ∧ (∀ k, v.ownBlock = some k → w0.heap.size ≤ k) ∧ Below w0.heap.size w0 W
theorem own_lt {W : World} {v : Value} {n : Nat} {xs : List Value} {e : TypeId} {s : Nat} (h : W.ownsRow 0 e s v n xs) {k : Nat} (hk : v.ownBlock = some k) : k < W.heap.size := by
  rcases h.2 with ⟨rfl, _⟩ | ⟨g, cap, cur, rfl, _, hg, _⟩
  · cases hk
  · have : g = k := by simpa [Value.ownBlock] using hk
    subst this
    exact lt_of_heap hg
theorem Tx.go {w0 W : World} {q : Nat} {L L' : List ByteArray} {n n' f : Nat} {v : Value} {left : List ByteArray} {args : Array Value} {R : Ending → Prop} (h : Tx w0 W q L n v left) (hc : ∀ E B, Qs.Qu 8 kz W q E B L n → Calls Try.prog f args W fun e V => R e ∧ Qs.Qg 8 kz W q E B L' n' V) : Calls Try.prog f args W fun e V => R e ∧ Tx w0 V q L' n' v left := by
  obtain ⟨E, B, h1, h2, h3, h4, h5⟩ := h
  refine (hc E B h1).mono ?_
  rintro e V ⟨hR, E', B', q1, q2, q3, q4⟩
  have sz := h5.size
  refine ⟨hR, E', B', q1, fun k hk => ?_, own_mv h3 q2 (fun g hg e => (h2 g (.inl e)).2 hg), h4, h5.trans (q2.toBelow h5.size (fun k hk e => by have := (h2 k (.inl e)).1; omega))⟩
  have : (E k ∨ B k) ∨ W.heap.size ≤ k := by
    rcases hk with hk | hk
    · exact (q3 k hk).imp .inl id
    · exact (q4 k hk).imp .inr id
  rcases this with s | s
  · exact h2 k s
  · exact ⟨by omega, fun e => by have := own_lt h3 e; omega⟩
/-- The row made anew beside the queue. -/
theorem Tx.row {w0 W W1 : World} {q : Nat} {L : List ByteArray} {n : Nat} {v v' : Value} {left left' : List ByteArray} {F : Nat → Prop} (h : Tx w0 W q L n v left) (m : Mv F W W1) (hF : ∀ k, F k → W.heap.size ≤ k) (ho : W1.ownsRow 0 9 1 v' left'.length (left'.map .string)) (hv : ∀ k, v'.ownBlock = some k → W.heap.size ≤ k) : Tx w0 W1 q L n v' left' := by
  obtain ⟨E, B, h1, h2, h3, h4, h5⟩ := h
  obtain ⟨l1, l2⟩ := h1.lt
  have sz := h5.size
  refine ⟨E, B, h1.mv m (fun k hk f => by have := hF k f; have := l1 k hk; omega) (fun k hk f => by have := hF k f; have := l2 k hk; omega), fun k hk => ⟨(h2 k hk).1, fun e => ?_⟩, ho, fun k hk => by have := hv k hk; omega, h5.trans (m.toBelow h5.size (fun k hk f => by have := hF k f; omega))⟩
  have := hv k e
  rcases hk with hk | hk
  · have := l1 k hk; omega
  · have := l2 k hk; omega
/-- The row without its t-th text. -/
theorem Tx.cut {w0 W : World} {q : Nat} {L : List ByteArray} {n g cap t k : Nat} {left : List ByteArray} (h : Tx w0 W q L n (.slice (some ⟨g, 0, none⟩) k cap) left) (hk : left.length = k) (ht : t < k) (h60 : k ≤ 60) (o2 : Nat) (ho2 : k - (t + 1) = 0 ∨ o2 = t + 1) :
    ∃ p1 c1 W1 p2 c2 W2, (Builtin.append_ #[22, 22] 22 #[.slice none 0 0, .slice (some ⟨g, 0, none⟩) t cap]).run Try.prog W.drew = .ok (.slice p1 t c1) W1 ∧ (Builtin.append_ #[22, 22] 22 #[.slice p1 t c1, .slice (some ⟨g, o2, none⟩) (k - (t + 1)) (cap - (t + 1))]).run Try.prog W1 = .ok (.slice p2 (k - 1) c2) W2 ∧ Tx w0 W2 q L n (.slice p2 (k - 1) c2) (left.take t ++ left.drop (t + 1)) := by
  have hT := h
  obtain ⟨E, B, h1, h2, h3, h4, h5⟩ := h
  have hcell : ∀ j u, left[j]? = some u → W.cell? ⟨g, j, none⟩ = some (.string u) := fun j u hj => by
    have := h3.cells (g := g) rfl j (.string u) (by rw [List.getElem?_map, hj]; rfl)
    rw [Addr.add_lit, Nat.zero_add] at this
    exact this
  have hgW : g < W.heap.size := own_lt h3 rfl
  obtain ⟨v1, W1, r1, o1, g1, a1, p1, c1, e1⟩ := app_strs (W := W.drew) (v := .slice none 0 0) (n := 0) (m := t) (c := cap) (p := some ⟨g, 0, none⟩) (xs := []) (ys := left.take t) (World.ownsRow_nil _ _ _ _) (by rw [List.length_take]; omega) (.inr ⟨g, 0, rfl, fun j u hj => by
    rw [Nat.zero_add]
    rw [List.getElem?_take] at hj
    split at hj
    · exact hcell j u hj
    · cases hj⟩) (by omega) (by omega)
  rw [Nat.zero_add] at e1 o1
  rw [List.nil_append] at o1
  have m1 : Mv (fun _ => False) W W1 := (Mv.drew _ _).trans' ((Mv.refl _ _).grown g1 (fun k e => by cases e))
  have n1 : ∀ k, v1.ownBlock = some k → W.heap.size ≤ k := fun k hk => by
    rcases a1 with s | s
    · rw [s] at hk; cases hk
    · rw [s] at hk; injection hk with hk; rw [← hk]; exact Nat.le_refl _
  obtain ⟨v2, W2, r2, o2', g2, a2, p2, c2, e2⟩ := app_strs (W := W1) (v := v1) (n := t) (m := k - (t + 1)) (c := cap - (t + 1)) (p := some ⟨g, o2, none⟩) (xs := left.take t) (ys := left.drop (t + 1)) o1 (by rw [List.length_drop]; omega) (by
    rcases ho2 with z | z
    · exact .inl z
    · refine .inr ⟨g, o2, rfl, fun j u hj => ?_⟩
      rw [List.getElem?_drop] at hj
      rw [z]
      exact m1.cell (a := ⟨g, t + 1 + j, none⟩) (fun f => f) (hcell _ u hj)) (by omega) (by omega)
  have hlen : (left.take t ++ left.drop (t + 1)).length = k - 1 := by rw [List.length_append, List.length_take, List.length_drop]; omega
  have hk1 : t + (k - (t + 1)) = k - 1 := by omega
  rw [hk1] at e2 o2'
  have m2 : Mv (fun k => v1.ownBlock = some k) W1 W2 := (Mv.refl _ _).grown g2 (fun k e => .inl e)
  subst e1; subst e2
  refine ⟨p1, c1, W1, p2, c2, W2, r1, r2, hT.row (F := fun k => Value.ownBlock (.slice p1 t c1) = some k) ((m1.mono (fun _ _ f => f.elim)).trans' m2) n1 (by rw [hlen]; exact o2') (fun k hk => ?_)⟩
  rcases a2 with s | s
  · exact n1 k (s ▸ hk)
  · rw [s] at hk; injection hk with hk; rw [← hk]; exact m1.size
set_option maxRecDepth 100000 in
set_option maxHeartbeats 8000000 in
theorem texts_walk (p0 : Option Addr) (c0 : Nat) (l : List ByteArray) (w : World) (hl : RowSt w p0 l) (hsz : ∀ z ∈ l, z.size ≤ 140737488355328) (hll : l.length ≤ 140737488355328) :
    Calls Try.prog 3 #[.slice p0 l.length c0] w fun e V => e = .returned (.bool true) ∧ Below w.heap.size w V := by
  have hK := hidP (known_any w)
  obtain ⟨n, hn⟩ : ∃ n, l.length = n := ⟨_, rfl⟩
  rw [hn] at hll ⊢
  have hNH := hidP hn
  have hlH := hidP hl
  have hszH := hidP hsz
  clear hn hl hsz
  by_cases h60 : n ≤ 60
  · have h60f : ¬ (60 : Int) < (n : Int) := by omega
    have h60d : decide ((60 : Int) < (n : Int)) = false := decide_eq_false h60f
    have hnI : (n : Int) ≤ 60 := by omega
    go_enter Try.func3, Try.ntmps3
    go_wp2_with fail
    refine hK.out.mono ?_
    rintro e w1 ⟨rfl, bw1⟩
    have bw1H := hidP bw1
    have hA := hidP (Qs.new_any (nb := 8) (key := kz) w1)
    unfold Qs.fnV at hA
    clear bw1 hK
    go_wp2_with fail
    refine hA.out.mono ?_
    rintro e w2 ⟨rfl, ua, ba⟩
    obtain ⟨q, hq⟩ : ∃ q, w1.heap.size = q := ⟨_, rfl⟩
    have hT0 : Hid (Tx w w2 q [] 0 (.slice none 0 0) []) := by
      have s1 := bw1H.out.size
      rw [hq] at ua
      exact ⟨_, _, ua, fun k hk => ⟨by rcases hk with e | e; (have e' : k = q := e; omega); exact False.elim e, fun e => by cases e⟩, World.ownsRow_nil _ _ _ _, (fun k hk => by cases hk), bw1H.out.trans (ba.mono s1)⟩
    unfold Qs.qp at *
    rw [hq]
    clear ua ba hA bw1H
    go_wp2_with fail
    go_loopw [4] (fun i wr => ∃ (j : Nat), j ≤ n ∧ i = .int .i64 j ∧ Hid (Tx w wr q (foldA kz [] (l.take j)) j (.slice none 0 0) [] ∧ ∀ z ∈ l.take j, z.size ≤ 60)) (fun i _ => n - (intOf i).toNat)
    case atStart => exact ⟨0, by omega, rfl, hT0.out, fun z hz => by cases hz⟩
    case round =>
      obtain ⟨j, hj, rfl, hst⟩ := hrel
      by_cases hlt : j < n
      · obtain ⟨hT, hS⟩ := hst.out
        obtain ⟨x, hx⟩ : ∃ x, l[j]? = some x := ⟨_, List.getElem?_eq_getElem (by rw [hNH.out]; exact hlt)⟩
        obtain ⟨_, _, _, _, _, _, bw⟩ := id hT
        obtain ⟨g, o, rfl, cx⟩ := (hlH.out.below bw) j x hx
        have hxs := hszH.out x (List.mem_of_getElem? hx)
        have hjI : (j : Int) < (n : Int) := by omega
        by_cases hx60 : x.size ≤ 60
        · have hxI : ¬ (60 : Int) < (x.size : Int) := by omega
          have hxD : decide ((60 : Int) < (x.size : Int)) = false := decide_eq_false hxI
          have hP := hidP (Tx.go (f := 9) (args := #[Qs.qp q, Qs.ev x]) (R := fun e => e = .returned (.tuple #[])) hT (fun E B h => Qs.push_any bf_texts h (by omega) x))
          have hst2 : Hid (∀ V, Tx w V q (insA kz x (foldA kz [] (l.take j))) (j + 1) (.slice none 0 0) [] → Tx w V q (foldA kz [] (l.take (j + 1))) (j + 1) (.slice none 0 0) [] ∧ ∀ z ∈ l.take (j + 1), z.size ≤ 60) := fun V hV => by
            have e : l.take (j + 1) = l.take j ++ [x] := by rw [List.take_add_one, hx]; rfl
            rw [e, foldA_snoc]
            refine ⟨hV, fun z hz => ?_⟩
            rcases List.mem_append.1 hz with h | h
            · exact hS z h
            · obtain rfl := List.mem_singleton.1 h
              exact hx60
          unfold Qs.qp Qs.ev at hP
          clear hT hS hst hx bw
          go_wp2_with fail
          refine hP.out.mono ?_
          rintro e W2 ⟨rfl, hT2⟩
          have nxt := hidP (hst2.out W2 hT2)
          clear hT2 hst2 hP cx
          go_wp2_with fail
          exact ⟨⟨j + 1, by omega, by go_num, nxt⟩, by simp [intOf]; omega⟩
        · have hxI : (60 : Int) < (x.size : Int) := by omega
          have bwH := hidP bw
          clear hT hS hst hx bw
          go_wp2_with fail
          go_ret
          exact ⟨rfl, bwH.out⟩
      · have hjI : ¬ (j : Int) < (n : Int) := by omega
        have hjD : decide ((j : Int) < (n : Int)) = false := decide_eq_false hjI
        obtain rfl : j = n := by omega
        obtain ⟨hT, hS⟩ := hst.out
        have htk : l.take j = l := List.take_of_length_le (by rw [hNH.out]; exact Nat.le_refl _)
        rw [htk] at hT hS
        obtain ⟨_, _, _, _, _, _, bw⟩ := id hT
        have hrow := hlH.out.below bw
        obtain ⟨v1, W1, r1, o1, g1, a1, p1, cc1, e1⟩ := app_strs (W := wr) (v := .slice none 0 0) (n := 0) (m := j) (c := c0) (p := p0) (xs := []) (ys := l) (World.ownsRow_nil _ _ _ _) hNH.out (by
          by_cases h0 : j = 0
          · exact .inl h0
          · obtain ⟨x, hx⟩ : ∃ x, l[0]? = some x := ⟨_, List.getElem?_eq_getElem (by rw [hNH.out]; omega)⟩
            obtain ⟨g, o, e, _⟩ := hrow 0 x hx
            refine .inr ⟨g, o, e, fun i u hi => ?_⟩
            obtain ⟨g', o', e', c⟩ := hrow i u hi
            rw [e] at e'
            injection e' with e'
            injection e' with z1 z2
            subst z1; subst z2
            exact c) (by omega) (by omega)
        rw [Nat.zero_add] at e1 o1
        rw [List.nil_append] at o1
        subst e1
        have hT1 : Hid (Tx w W1 q (foldA kz [] l) j (.slice p1 j cc1) l) := hT.row (F := fun _ => False) ((Mv.refl _ _).grown g1 (fun k e => by cases e)) (fun _ f => f.elim) (by rw [hNH.out]; exact o1) (fun k hk => by
          rcases a1 with s | s
          · rw [s] at hk; cases hk
          · rw [s] at hk; injection hk with hk; omega)
        have hSH := hidP hS
        clear hT hS hst bw hrow o1 g1 a1 htk
        go_wp2_with (at_builtin; refine wpList_append_run rfl _ _ 22 rfl _ _ _ _ rfl rfl r1 ?_)
        go_loopg [5, 6, 7] j (fun k s5 s6 s7 wx => ∃ (ls : ByteArray) (p : Option Addr) (c : Nat), s5 = .string ls ∧ s6 = .slice p k c ∧ s7 = .int .i64 k ∧ ∃ L left, left.length = k ∧ Hid (Tx w wx q L j (.slice p k c) left) ∧ Hid (L = foldA kz [] left) ∧ Hid (∀ z ∈ left, ls.size ≤ z.size ∧ z.size ≤ 60))
        case atStart => exact ⟨_, _, _, rfl, rfl, rfl, _, l, hNH.out, hT1, rfl, fun z hz => ⟨Nat.zero_le _, hSH.out z hz⟩⟩
        case round =>
          obtain ⟨ls, p, cap, rfl, rfl, rfl, L, left, hlen, hT, hLf, hlf⟩ := hrel
          have hgI : (gk : Int) ≤ 60 := by
            obtain ⟨_, _, u, _⟩ := hT.out
            obtain ⟨_, _, _, _, _, _, _, z1, _⟩ := u
            rw [hLf.out, foldA_len] at z1
            simp at z1; omega
          cases left with
          | nil =>
            have hk0 : gk = 0 := hlen.symm
            subst hk0
            have hL0 : L = [] := hLf.out
            subst hL0
            obtain ⟨E, B, u, _, _, _, bw⟩ := hT.out
            have hP := hidP (Qs.pop_none u)
            have bwH := hidP bw
            unfold Qs.qp at hP
            clear u bw hT hLf hlf hlen
            go_wp2_with fail
            refine hP.out.mono ?_
            rintro e W2 ⟨rfl, rfl⟩
            clear hP
            go_wp2_with fail
            go_ret
            exact ⟨rfl, bwH.out⟩
          | cons y0 R0 =>
            obtain ⟨left, hleft0⟩ : ∃ left, y0 :: R0 = left := ⟨_, rfl⟩
            rw [hleft0] at hlen hT hLf hlf
            have hkp : 0 < gk := by rw [← hlen, ← hleft0]; simp
            obtain ⟨x, L2, hxL⟩ : ∃ x L2, L = x :: L2 := by
              cases L with
              | nil =>
                have := congrArg List.length hLf.out
                rw [foldA_len] at this
                simp at this; omega
              | cons x L2 => exact ⟨x, L2, rfl⟩
            subst hxL
            obtain ⟨rk, hrk⟩ : ∃ rk, gk - 1 = rk := ⟨_, rfl⟩
            have hL2l : L2.length = rk := by
              have := congrArg List.length hLf.out
              rw [foldA_len, List.length_cons] at this
              simp at this; omega
            have hso : Hid ((x :: L2).Pairwise fun a b => kz a ≤ kz b) := by
              obtain ⟨_, _, u, _⟩ := hT.out
              exact Qs.sorted u
            have hxm : x ∈ left := by
              have : x ∈ foldA kz [] left := by rw [← hLf.out]; exact List.mem_cons_self ..
              rcases (foldA_mem kz left [] x).1 this with h | h
              · cases h
              · exact h
            have hx60 := hlf.out x hxm
            have hlsI : ¬ (x.size : Int) < (ls.size : Int) := by omega
            have hlsN : decide (x.size < ls.size) = false := decide_eq_false (by omega)
            have hlsD : decide ((x.size : Int) < (ls.size : Int)) = false := decide_eq_false hlsI
            have hxI : (x.size : Int) ≤ 60 := by omega
            have hlI : (ls.size : Int) ≤ 60 := by omega
            have hP := hidP (Tx.go (f := 10) (args := #[Qs.qp q]) (R := fun e => e = .returned (.tuple #[Qs.ev x, .int .i64 0])) hT.out (fun E B h => Qs.pop_some bf_texts h))
            unfold Qs.qp Qs.ev at hP
            have hkpI : (0 : Int) < (gk : Int) := by omega
            have hkr : (gk : Int) - 1 = (rk : Int) := by omega
            have hlenH := hidP hlen
            have hxmH := hidP hxm
            clear hT hleft0 hlen hxm
            go_wp2_with fail
            refine hP.out.mono ?_
            rintro e W2 ⟨rfl, hT2⟩
            obtain ⟨E, B, u, _, hown, _, bw⟩ := id hT2
            have hLn := hidP (Qs.len_any u)
            unfold Qs.qp at hLn
            rw [hL2l] at hLn
            obtain ⟨g, rfl, hcl⟩ : ∃ g, p = some ⟨g, 0, none⟩ ∧ gk ≤ cap := by
              rcases hown.2 with ⟨z1, _⟩ | ⟨g, cp, cur, z1, _, _, z2, _⟩
              · injection z1 with z1 z2 z3; omega
              · injection z1 with z1 z3 z4
                rw [← hlenH.out, z4]
                exact ⟨g, z1, z2⟩
            have hcell : Hid (∀ j u, left[j]? = some u → W2.cell? ⟨g, j, none⟩ = some (.string u)) := fun j u hj => by
              have := hown.cells (g := g) rfl j (.string u) (by rw [List.getElem?_map, hj]; rfl)
              rw [Addr.add_lit, Nat.zero_add] at this
              exact this
            have hT2H := hidP hT2
            clear u hown bw hT2 hP
            go_wp2_with fail
            refine hLn.out.mono ?_
            rintro e W3 ⟨rfl, rfl⟩
            clear hLn
            go_wp2_with fail
            obtain ⟨G, hG⟩ : ∃ G, G = gk := ⟨_, rfl⟩
            subst hG
            go_loopg [10, 11] G (fun i s10 s11 wy => ∃ (a z : Int), s10 = .int .i64 a ∧ s11 = .int .i64 z ∧ z + 1 = i ∧ i ≤ G ∧ Hid (wy = W3) ∧ Hid ((a = -1 ∧ ∀ j u, i ≤ j → left[j]? = some u → u.size ≠ x.size) ∨ ∃ (t : Nat) (y : ByteArray), a = t ∧ t < G ∧ left[t]? = some y ∧ y.size = x.size ∧ ∀ j u, i ≤ j → j < t → left[j]? = some u → u.size ≠ x.size))
            case atStart => exact ⟨-1, _, rfl, rfl, by omega, Nat.le_refl _, rfl, .inl ⟨rfl, fun j u hj hu => by have := (List.getElem?_eq_some_iff.1 hu).1; have := hlenH.out; omega⟩⟩
            case round =>
              obtain ⟨a, z, rfl, rfl, hz, hiG, hw, ha⟩ := hrel
              obtain rfl := hw.out
              cases gk with
              | zero =>
                obtain rfl : z = -1 := by omega
                obtain ⟨t, y, rfl, htG, hty, hys, hno⟩ : ∃ (t : Nat) (y : ByteArray), a = t ∧ t < G ∧ left[t]? = some y ∧ y.size = x.size ∧ ∀ j u, j < t → left[j]? = some u → u.size ≠ x.size := by
                  rcases ha.out with ⟨_, h⟩ | ⟨t, y, h1, h2, h3, h4, h5⟩
                  · obtain ⟨j, hj⟩ := List.getElem?_of_mem hxmH.out
                    exact absurd rfl (h j x (Nat.zero_le _) hj)
                  · exact ⟨t, y, h1, h2, h3, h4, fun j u hj hu => h5 j u (Nat.zero_le _) hj hu⟩
                obtain ⟨rfl, hL2e⟩ := first_of hLf.out hso.out hty hys hno
                have ct := hcell.out t y hty
                have htI : (t : Int) < (G : Int) := by omega
                have ht0 : ¬ (t : Int) < 0 := by omega
                have hlr : Hid ((left.take t ++ left.drop (t + 1)).length = rk) := by show _ = _; rw [List.length_append, List.length_take, List.length_drop]; have := hlenH.out; omega
                have hL2 : Hid (L2 = foldA kz [] (left.take t ++ left.drop (t + 1))) := hL2e
                have hleft : Hid (∀ z ∈ left.take t ++ left.drop (t + 1), y.size ≤ z.size ∧ z.size ≤ 60) := fun z hz => by
                  have hzl : z ∈ left := by
                    rcases List.mem_append.1 hz with h | h
                    · exact List.mem_of_mem_take h
                    · exact List.mem_of_mem_drop h
                  refine ⟨?_, (hlf.out z hzl).2⟩
                  have : z ∈ L2 := by rw [hL2e]; exact (foldA_mem kz _ [] z).2 (.inr hz)
                  have := (List.pairwise_cons.1 hso.out).1 z this
                  unfold kz at this
                  omega
                have hG60 : G ≤ 60 := by omega
                have htn : t + 1 ≤ G := by omega
                have htc : t ≤ cap := by omega
                have htc1 : t + 1 ≤ cap := by omega
                have hc0 : ¬ cap = 0 := by omega
                have hct : ¬ cap = t ∨ True := .inr trivial
                obtain ⟨t1, hte⟩ : ∃ t1, t + 1 = t1 := ⟨_, rfl⟩
                have ht1 : (t : Int) + 1 = (t1 : Int) := by omega
                have ht1G : t1 ≤ G := by omega
                have ht1I : (t1 : Int) ≤ 60 := by omega
                have ht1w : IntKind.i64.wrap (t1 : Int) = (t1 : Int) := by rw [IntKind.wrap_i64]; omega
                have ht1c : t1 ≤ cap := by omega
                have hteH := hidP hte
                clear ha hno hty hys hiG hz hct htn htc1
                have htH := hidP (⟨hte, htG⟩ : t + 1 = t1 ∧ t < G)
                by_cases hcap : cap = t + 1
                · obtain ⟨p1, c1, W1, p2, c2, W2, hr1, hr2, hT6⟩ := Tx.cut hT2H.out hlenH.out (by omega) hG60 0 (.inl (by omega))
                  rw [hrk, hte] at hr2
                  rw [hrk] at hT6
                  have hT6 := hidP hT6
                  obtain rfl : cap = t1 := by omega
                  clear hte hcap ht1c
                  have htle : t ≤ cap := htc
                  go_wp2_with fail
                  refine Zs.region (S := fun _ => True) 9 (by kernel_rfl) ?_
                  refine Zs.pure (i := 0) (oi := ⟨some 94, _, _, _, _, _⟩) (v := .slice (some ⟨g, 0, none⟩) G cap) rfl (by kernel_rfl) (by kernel_rfl) (by kernel_rfl) (by decide) (fun _ _ _ h => h) (Or.inl ⟨by rfl, ?hy0⟩) trivial ?_
                  case hy0 => (intro w hSw; (try dsimp only at hSw); go_simp; try with_reducible rfl)
                  simp only [Act.put, List.setIfInBounds_toArray, List.set_cons_zero, List.set_cons_succ]
                  refine Zs.pure (i := 1) (oi := ⟨some 95, _, _, _, _, _⟩) (v := .int .i64 (t : Int)) rfl (by kernel_rfl) (by kernel_rfl) (by kernel_rfl) (by decide) (fun _ _ _ h => h) (Or.inl ⟨by rfl, ?hy1⟩) trivial ?_
                  case hy1 => (intro w hSw; (try dsimp only at hSw); go_simp; try with_reducible rfl)
                  simp only [Act.put, List.setIfInBounds_toArray, List.set_cons_zero, List.set_cons_succ]
                  refine Zs.pure (i := 2) (oi := ⟨some 96, _, _, _, _, _⟩) (v := .slice (some ⟨g, 0, none⟩) t cap) rfl (by kernel_rfl) (by kernel_rfl) (by kernel_rfl) (by decide) (fun _ _ _ h => h) (Or.inl ⟨by rfl, ?hy2⟩) trivial ?_
                  case hy2 => (intro w hSw; (try dsimp only at hSw); go_simp; try with_reducible rfl)
                  simp only [Act.put, List.setIfInBounds_toArray, List.set_cons_zero, List.set_cons_succ]
                  refine Zs.pure (i := 4) (oi := ⟨some 98, _, _, _, _, _⟩) (v := .slice (some ⟨g, 0, none⟩) G cap) rfl (by kernel_rfl) (by kernel_rfl) (by kernel_rfl) (by decide) (fun _ _ _ h => h) (Or.inl ⟨by rfl, ?hy4⟩) trivial ?_
                  case hy4 => (intro w hSw; (try dsimp only at hSw); go_simp; try with_reducible rfl)
                  simp only [Act.put, List.setIfInBounds_toArray, List.set_cons_zero, List.set_cons_succ]
                  refine Zs.pure (i := 5) (oi := ⟨some 99, _, _, _, _, _⟩) (v := .int .i64 (t : Int)) rfl (by kernel_rfl) (by kernel_rfl) (by kernel_rfl) (by decide) (fun _ _ _ h => h) (Or.inl ⟨by rfl, ?hy5⟩) trivial ?_
                  case hy5 => (intro w hSw; (try dsimp only at hSw); go_simp; try with_reducible rfl)
                  simp only [Act.put, List.setIfInBounds_toArray, List.set_cons_zero, List.set_cons_succ]
                  refine Zs.pure (i := 6) (oi := ⟨some 100, _, _, _, _, _⟩) (v := .int .i64 (cap : Int)) rfl (by kernel_rfl) (by kernel_rfl) (by kernel_rfl) (by decide) (fun _ _ _ h => h) (Or.inl ⟨by rfl, ?hy6⟩) trivial ?_
                  case hy6 => (intro w hSw; (try dsimp only at hSw); go_simp; try with_reducible rfl)
                  simp only [Act.put, List.setIfInBounds_toArray, List.set_cons_zero, List.set_cons_succ]
                  refine Zs.pure (i := 7) (oi := ⟨some 101, _, _, _, _, _⟩) (v := .slice (some ⟨g, 0, none⟩) (G - cap) (cap - cap)) rfl (by kernel_rfl) (by kernel_rfl) (by kernel_rfl) (by decide) (fun _ _ _ h => h) (Or.inl ⟨by rfl, ?hy7⟩) trivial ?_
                  case hy7 => (intro w hSw; (try dsimp only at hSw); go_simp; try with_reducible rfl)
                  simp only [Act.put, List.setIfInBounds_toArray, List.set_cons_zero, List.set_cons_succ]
                  refine Zs.one (i := 3) (oi := ⟨some 97, _, _, _, _, _⟩) (by kernel_rfl) rfl (fun K hK => ?_)
                  refine Qs.step_append_run rfl (.const (.slice none 0 0)) (.tmp 96) 22 rfl _ _ _ _ rfl rfl hr1 ?_
                  refine hK.out _ _ (fun _ => trivial) ?_
                  clear hK K
                  try simp only [Act.put, List.setIfInBounds_toArray, List.set_cons_zero, List.set_cons_succ]
                  refine Zs.one (i := 8) (oi := ⟨some 102, _, _, _, _, _⟩) (by kernel_rfl) rfl (fun K hK => ?_)
                  refine Qs.step_append_run rfl (.tmp 97) (.tmp 101) 22 rfl _ _ _ _ rfl rfl hr2 ?_
                  refine hK.out _ _ (fun _ => trivial) ?_
                  clear hK K
                  try simp only [Act.put, List.setIfInBounds_toArray, List.set_cons_zero, List.set_cons_succ]
                  refine Zs.one (i := 9) (oi := ⟨some 6, _, _, _, _, _⟩) (by kernel_rfl) rfl (fun K hK => ?_)
                  go_simp
                  refine hK.out _ _ (fun q => absurd q (by decide)) ?_
                  clear hK K
                  try simp only [Act.put, List.setIfInBounds_toArray, List.set_cons_zero, List.set_cons_succ]
                  refine Zs.done (by kernel_rfl) ?_ _
                  go_wp2_with fail
                  go_roundg rk
                  case measure => omega
                  case rel => exact ⟨y, _, _, rfl, rfl, by go_num, L2, left.take t ++ left.drop (t + 1), hlr.out, hT6.out, hL2.out, hleft.out⟩
                · obtain ⟨p1, c1, W1, p2, c2, W2, hr1, hr2, hT6⟩ := Tx.cut hT2H.out hlenH.out (by omega) hG60 (t + 1) (.inr rfl)
                  rw [hrk, hte] at hr2
                  rw [hrk] at hT6
                  have hT6 := hidP hT6
                  have hcap1 : ¬ cap = t1 := by omega
                  clear hte hcap
                  go_wp2_with fail
                  refine Zs.region (S := fun _ => True) 9 (by kernel_rfl) ?_
                  refine Zs.pure (i := 0) (oi := ⟨some 94, _, _, _, _, _⟩) (v := .slice (some ⟨g, 0, none⟩) G cap) rfl (by kernel_rfl) (by kernel_rfl) (by kernel_rfl) (by decide) (fun _ _ _ h => h) (Or.inl ⟨by rfl, ?hy0⟩) trivial ?_
                  case hy0 => (intro w hSw; (try dsimp only at hSw); go_simp; try with_reducible rfl)
                  simp only [Act.put, List.setIfInBounds_toArray, List.set_cons_zero, List.set_cons_succ]
                  refine Zs.pure (i := 1) (oi := ⟨some 95, _, _, _, _, _⟩) (v := .int .i64 (t : Int)) rfl (by kernel_rfl) (by kernel_rfl) (by kernel_rfl) (by decide) (fun _ _ _ h => h) (Or.inl ⟨by rfl, ?hy1⟩) trivial ?_
                  case hy1 => (intro w hSw; (try dsimp only at hSw); go_simp; try with_reducible rfl)
                  simp only [Act.put, List.setIfInBounds_toArray, List.set_cons_zero, List.set_cons_succ]
                  refine Zs.pure (i := 2) (oi := ⟨some 96, _, _, _, _, _⟩) (v := .slice (some ⟨g, 0, none⟩) t cap) rfl (by kernel_rfl) (by kernel_rfl) (by kernel_rfl) (by decide) (fun _ _ _ h => h) (Or.inl ⟨by rfl, ?hy2⟩) trivial ?_
                  case hy2 => (intro w hSw; (try dsimp only at hSw); go_simp; try with_reducible rfl)
                  simp only [Act.put, List.setIfInBounds_toArray, List.set_cons_zero, List.set_cons_succ]
                  refine Zs.pure (i := 4) (oi := ⟨some 98, _, _, _, _, _⟩) (v := .slice (some ⟨g, 0, none⟩) G cap) rfl (by kernel_rfl) (by kernel_rfl) (by kernel_rfl) (by decide) (fun _ _ _ h => h) (Or.inl ⟨by rfl, ?hy4⟩) trivial ?_
                  case hy4 => (intro w hSw; (try dsimp only at hSw); go_simp; try with_reducible rfl)
                  simp only [Act.put, List.setIfInBounds_toArray, List.set_cons_zero, List.set_cons_succ]
                  refine Zs.pure (i := 5) (oi := ⟨some 99, _, _, _, _, _⟩) (v := .int .i64 (t : Int)) rfl (by kernel_rfl) (by kernel_rfl) (by kernel_rfl) (by decide) (fun _ _ _ h => h) (Or.inl ⟨by rfl, ?hy5⟩) trivial ?_
                  case hy5 => (intro w hSw; (try dsimp only at hSw); go_simp; try with_reducible rfl)
                  simp only [Act.put, List.setIfInBounds_toArray, List.set_cons_zero, List.set_cons_succ]
                  refine Zs.pure (i := 6) (oi := ⟨some 100, _, _, _, _, _⟩) (v := .int .i64 (t1 : Int)) rfl (by kernel_rfl) (by kernel_rfl) (by kernel_rfl) (by decide) (fun _ _ _ h => h) (Or.inl ⟨by rfl, ?hy6⟩) trivial ?_
                  case hy6 => (intro w hSw; (try dsimp only at hSw); go_simp; try with_reducible rfl)
                  simp only [Act.put, List.setIfInBounds_toArray, List.set_cons_zero, List.set_cons_succ]
                  refine Zs.pure (i := 7) (oi := ⟨some 101, _, _, _, _, _⟩) (v := .slice (some ⟨g, t1, none⟩) (G - t1) (cap - t1)) rfl (by kernel_rfl) (by kernel_rfl) (by kernel_rfl) (by decide) (fun _ _ _ h => h) (Or.inl ⟨by rfl, ?hy7⟩) trivial ?_
                  case hy7 => (intro w hSw; (try dsimp only at hSw); go_simp; try with_reducible rfl)
                  simp only [Act.put, List.setIfInBounds_toArray, List.set_cons_zero, List.set_cons_succ]
                  refine Zs.one (i := 3) (oi := ⟨some 97, _, _, _, _, _⟩) (by kernel_rfl) rfl (fun K hK => ?_)
                  refine Qs.step_append_run rfl (.const (.slice none 0 0)) (.tmp 96) 22 rfl _ _ _ _ rfl rfl hr1 ?_
                  refine hK.out _ _ (fun _ => trivial) ?_
                  clear hK K
                  try simp only [Act.put, List.setIfInBounds_toArray, List.set_cons_zero, List.set_cons_succ]
                  refine Zs.one (i := 8) (oi := ⟨some 102, _, _, _, _, _⟩) (by kernel_rfl) rfl (fun K hK => ?_)
                  refine Qs.step_append_run rfl (.tmp 97) (.tmp 101) 22 rfl _ _ _ _ rfl rfl hr2 ?_
                  refine hK.out _ _ (fun _ => trivial) ?_
                  clear hK K
                  try simp only [Act.put, List.setIfInBounds_toArray, List.set_cons_zero, List.set_cons_succ]
                  refine Zs.one (i := 9) (oi := ⟨some 6, _, _, _, _, _⟩) (by kernel_rfl) rfl (fun K hK => ?_)
                  go_simp
                  refine hK.out _ _ (fun q => absurd q (by decide)) ?_
                  clear hK K
                  try simp only [Act.put, List.setIfInBounds_toArray, List.set_cons_zero, List.set_cons_succ]
                  refine Zs.done (by kernel_rfl) ?_ _
                  go_wp2_with fail
                  go_roundg rk
                  case measure => omega
                  case rel => exact ⟨y, _, _, rfl, rfl, by go_num, L2, left.take t ++ left.drop (t + 1), hlr.out, hT6.out, hL2.out, hleft.out⟩
              | succ i =>
                obtain rfl : z = (i : Int) := by omega
                obtain ⟨u, hu⟩ : ∃ u, left[i]? = some u := ⟨_, List.getElem?_eq_getElem (by rw [hlenH.out]; omega)⟩
                have cu := hcell.out i u hu
                have hiI : (i : Int) < (G : Int) := by omega
                have huI : (u.size : Int) ≤ 60 := by have := (hlf.out u (List.mem_of_getElem? hu)).2; omega
                by_cases heq : u.size = x.size
                · have hnx : Hid (((i : Int) = -1 ∧ ∀ j u, i ≤ j → left[j]? = some u → u.size ≠ x.size) ∨ ∃ (t : Nat) (y : ByteArray), (i : Int) = t ∧ t < G ∧ left[t]? = some y ∧ y.size = x.size ∧ ∀ j u, i ≤ j → j < t → left[j]? = some u → u.size ≠ x.size) := .inr ⟨i, u, rfl, by omega, hu, heq, fun j u' h1 h2 => by omega⟩
                  have heqI : ((u.size : Int) == (x.size : Int)) = true := by simp [heq]
                  clear ha hu hz
                  go_wp2_with fail
                  go_roundg i
                  case measure => omega
                  case rel => exact ⟨_, _, rfl, rfl, by omega, by omega, rfl, hnx.out⟩
                · have hnx : Hid ((a = -1 ∧ ∀ j u, i ≤ j → left[j]? = some u → u.size ≠ x.size) ∨ ∃ (t : Nat) (y : ByteArray), a = t ∧ t < G ∧ left[t]? = some y ∧ y.size = x.size ∧ ∀ j u, i ≤ j → j < t → left[j]? = some u → u.size ≠ x.size) := by
                    have hone : ∀ j u', i ≤ j → left[j]? = some u' → ¬ i + 1 ≤ j → u'.size ≠ x.size := fun j u' h1 h2 h3 => by
                      obtain rfl : j = i := by omega
                      rw [hu] at h2; injection h2 with h2; subst h2; exact heq
                    rcases ha.out with ⟨h1, h2⟩ | ⟨t, y, h1, h2, h3, h4, h5⟩
                    · exact .inl ⟨h1, fun j u' hj hu' => by
                        by_cases h : i + 1 ≤ j
                        · exact h2 j u' h hu'
                        · exact hone j u' hj hu' h⟩
                    · exact .inr ⟨t, y, h1, h2, h3, h4, fun j u' hj hjt hu' => by
                        by_cases h : i + 1 ≤ j
                        · exact h5 j u' h hjt hu'
                        · exact hone j u' hj hu' h⟩
                  have heqI : ((u.size : Int) == (x.size : Int)) = false := by simp; omega
                  have heqN : ¬ (u.size : Int) = (x.size : Int) := by omega
                  clear ha hu hz
                  go_wp2_with fail
                  go_roundg i
                  case measure => omega
                  case rel => exact ⟨_, _, rfl, rfl, by omega, by omega, rfl, hnx.out⟩
  · have h60f : (60 : Int) < (n : Int) := by omega
    go_enter Try.func3, Try.ntmps3
    go_wp2_with fail
    refine hK.out.mono ?_
    rintro e w1 ⟨rfl, bw1⟩
    have bw1H := hidP bw1
    clear bw1 hK
    go_wp2_with fail
    go_ret
    exact ⟨rfl, bw1H.out⟩
theorem texts_own (p0 : Option Addr) (c0 : Nat) (l : List ByteArray) (w : World) (hl : ∀ i x, l[i]? = some x → x.size ≤ 140737488355328 ∧ ∃ b o, p0 = some ⟨b, o, none⟩ ∧ w.cell? ⟨b, o + i, none⟩ = some (.string x)) (hll : l.length ≤ 140737488355328) :
    Calls Try.prog 3 #[.slice p0 l.length c0] w fun e V => e = .returned (.bool true) ∧ Below w.heap.size w V :=
  texts_walk p0 c0 l w (fun i x h => (hl i x h).2) (fun z hz => by
    obtain ⟨i, hi⟩ := List.getElem?_of_mem hz
    exact (hl i z hi).1) hll
end Go.Proofs.Ytcjlkhgnohdonaa
