/- The walk of the law NameSorts. -/
import Derived.Test.YtimmieelpaoncaaDoorK1
import Derived.Test.YtimmieelpaoncaaDoorS2
import Derived.Test.YtimmieelpaoncaaDoorS5
import Derived.Test.YtimmieelpaoncaaDoorRowS
import Derived.Deep.Upon
namespace Go.Proofs.YtimmieelpaoncaaDoor
open Go.RowKit Nam
theorem own_pos {w : World} {base : Nat} {t : TypeId} {v : Value} {n : Nat} {zs : List ByteArray} (hn : 0 < n) (h : w.ownsRow base t 1 v n (zs.map Value.string)) :
    ∃ g cap, v = .slice (some ⟨g, 0, none⟩) n cap ∧ ∀ j x, zs[j]? = some x → w.cell? ⟨g, 0 + j, none⟩ = some (.string x) := by
  rcases h.2 with ⟨_, h0⟩ | ⟨g, cap, cur, rfl, hb, hg, hn, hm, hs, ht⟩
  · omega
  · refine ⟨g, cap, rfl, fun j x hj => ?_⟩
    have := h.cells (g := g) rfl j (.string x) (by rw [List.getElem?_map, hj]; rfl)
    rw [Go.WideShapes.add_plain] at this
    exact this
theorem cells_bs {w : World} {g : Nat} {xs : List L} (h : ∀ j x, xs[j]? = some x → w.cell? ⟨g, j, none⟩ = some (.string (bs x))) : ∀ j x, (xs.map bs)[j]? = some x → w.cell? ⟨g, 0 + j, none⟩ = some (.string x) := by
  intro j x hj
  rw [List.getElem?_map] at hj
  obtain ⟨y, hy, rfl⟩ := Option.map_eq_some_iff.1 hj
  rw [Nat.zero_add]
  exact h j y hy
theorem cells_at {w w' : World} {b o : Nat} {zs : List ByteArray} (hb : Below w.heap.size w w') (h : ∀ j x, zs[j]? = some x → w.cell? ⟨b, o + j, none⟩ = some (.string x)) : ∀ j x, zs[j]? = some x → w'.cell? ⟨b, o + j, none⟩ = some (.string x) :=
  fun j x hj => (hb.cell (p := ⟨b, o + j, none⟩) (cell_lt (h j x hj))).trans (h j x hj)
theorem news_of {w : World} {b o : Nat} {zs : List ByteArray} (h : ∀ j x, zs[j]? = some x → w.cell? ⟨b, o + j, none⟩ = some (.string x)) : ∀ j u, (zs.map Value.string)[j]? = some u → w.cell? ((⟨b, o, none⟩ : Addr).add j) = some u := by
  intro j u hj
  rw [List.getElem?_map] at hj
  obtain ⟨y, hy, rfl⟩ := Option.map_eq_some_iff.1 hj
  rw [Go.WideShapes.add_plain]
  exact h j y hy
theorem append_none {P : Program} {w : World} {ops : Array Oper} {rest : List Oper} {o : Oper} {a : Act} {Q : Exit → Act → World → Prop} (hgd : o.guard = none) (s x : Operand) (t : TypeId)
    (ho : o.op = .call { callee := .builtin .append, args := #[s, x], argTypes := #[t, t] }) (e : TypeId) (i : TypeInfo) (ht : P.underlying t = some (.slice e)) (hi : P.info? e = some i) (c : Nat)
    (hs : a.eval s = .slice none 0 0) (hx : a.eval x = .slice none 0 c) (h : wpList P ops Q rest (a.put o.dst (.slice none 0 0)) w) : wpList P ops Q (o :: rest) a w := by
  refine wpList_plain hgd fun K hK => ?_
  have hrun := run_append_nothing (P := P) w t t o.type e i ht hi none 0 0 (Nat.le_refl _) (.slice none 0 c) (Src.ofNil w ht c)
  unfold Oper.wp
  simp [execOp, ho, resolve, invoke, builtin, hs, hx, hrun, Result.andThen]
  exact hK _ _ h
set_option maxRecDepth 100000 in
set_option maxHeartbeats 1000000 in
theorem sorts_walk (a : Option Addr) (b o len cap : Nat) (zs : List ByteArray) (w : World) (hg : GlN w) (ha : 0 < len → a = some ⟨b, o, none⟩) (hz : zs.length = len) (hel : ∀ j x, zs[j]? = some x → w.cell? ⟨b, o + j, none⟩ = some (.string x)) (hm : ∀ x ∈ zs, x.size ≤ maxLen) (hlm : len ≤ maxLen) :
    Calls Tryd.prog 6 #[.slice a len cap] w fun e w' => e = .returned (.bool true) ∧ Below w.heap.size w w' := by
  obtain ⟨i0, hinf, hz0, hz1, hz2⟩ := info_parts infoS
  have hkn := known_any w hg
  have E : Hid (∀ j x, zs[j]? = some x → w.cell? ⟨b, o + j, none⟩ = some (.string x)) := hel
  have M : Hid ((∀ x ∈ zs, x.size ≤ maxLen) ∧ len ≤ maxLen ∧ zs.length = len) := ⟨hm, hlm, hz⟩
  clear hel hm hlm hz
  go_enter Tryd.func6, Tryd.ntmps6
  go_wp2_with fail
  refine hkn.mono ?_
  rintro e w1 ⟨rfl, hb1⟩
  have E1 : Hid (∀ j x, zs[j]? = some x → w1.cell? ⟨b, o + j, none⟩ = some (.string x)) := cells_at hb1 E.out
  have hsh := short_any a b o cap zs w1 (by rw [M.out.2.2]; exact ha) E1.out M.out.1 (by rw [M.out.2.2]; exact M.out.2.1)
  rw [M.out.2.2] at hsh
  clear hkn
  go_wp2_with fail
  refine hsh.mono ?_
  rintro e w2 ⟨q, rfl, hq, hb2⟩
  have hB2 : Below w.heap.size w w2 := hb1.trans (hb2.mono hb1.size)
  have E2 : Hid (∀ j x, zs[j]? = some x → w2.cell? ⟨b, o + j, none⟩ = some (.string x)) := cells_at hb2 E1.out
  clear hsh
  cases q
  · clear hq
    go_wp2_with fail
    go_ret
    exact ⟨rfl, hB2⟩
  · have hl := hq rfl
    clear hq
    by_cases hp : 0 < len
    · obtain rfl := ha hp
      go_wp2_with (at_builtin; refine wpList_append_own_at _ rfl _ _ 36 rfl w2.heap.size 9 i0 (.string ⟨#[]⟩) 1 16 Tryd.underlying36 hinf hz0 hz1 hz2 rfl (by decide) _ 0 [] rfl (World.ownsRow_nil _ _ _ _) ⟨b, o, none⟩ len cap (zs.map Value.string) rfl (by rw [List.length_map, M.out.2.2, Nat.mul_one]) (news_of E2.out) (fun x hx => by obtain ⟨y, _, rfl⟩ := List.mem_map.1 hx; rfl) (by unfold maxLen; omega) (by omega) (Nat.le_refl _) ?_; intro v' w3 hown' hgrow _ _)
      have hb3 : Below w2.heap.size w2 w3 := (Below.refl _ _).grown hgrow (Nat.le_refl _) (fun k e => by cases e)
      rw [Nat.zero_add, List.nil_append] at hown'
      obtain ⟨g', cp', rfl, hc3⟩ := own_pos hp hown'
      have hns := nsort_any g' 0 cp' zs w3 (by rw [M.out.2.2]; exact hp) (by rw [M.out.2.2]; omega) hc3
      obtain ⟨ys, hys⟩ : ∃ ys, ys = rs (zs.map (·.data.toList)) := ⟨_, rfl⟩
      have hY : Hid (ys = rs (zs.map (·.data.toList))) := hys
      rw [M.out.2.2, ← hys] at hns
      clear hys hgrow hown' hc3
      refine hns.mono ?_
      rintro e w4 ⟨g4, cp4, rfl, hlen, hc4, hb4⟩
      have hb34 : Below w2.heap.size w2 w4 := hb3.trans (hb4.mono hb3.size)
      have hrf := rsort_any (some ⟨b, o, none⟩) b o cap zs w4 (fun _ => rfl) (cells_at hb34 E2.out) (by rw [M.out.2.2]; omega)
      rw [M.out.2.2, ← hY.out] at hrf
      have C4 : Hid (∀ j x, (ys.map bs)[j]? = some x → w4.cell? ⟨g4, 0 + j, none⟩ = some (.string x)) := cells_bs hc4
      clear hns hc4
      go_wp2_with fail
      refine hrf.mono ?_
      rintro e w5 ⟨a5, g5, cp5, rfl, h5, hc5, hb5⟩
      have htx := texts_same (some ⟨g4, 0, none⟩) a5 g4 0 cp4 g5 0 cp5 (ys.map bs) w5 (fun _ => rfl) (by rw [List.length_map]; exact h5) (cells_at hb5 C4.out) (cells_bs hc5) (by rw [List.length_map]; omega)
      rw [List.length_map] at htx
      clear hrf hc5 h5
      go_wp2_with fail
      refine htx.mono ?_
      rintro e w6 ⟨rfl, hb6⟩
      clear htx
      go_wp2_with fail
      go_ret
      exact ⟨rfl, hB2.trans ((hb34.trans ((hb5.trans (hb6.mono hb5.size)).mono hb34.size)).mono hB2.size)⟩
    · obtain rfl : len = 0 := by omega
      clear ha M E E1 E2
      cases a with
      | none =>
        go_wp2_with (at_builtin; refine append_none rfl _ _ 36 rfl 9 i0 Tryd.underlying36 hinf cap rfl rfl ?_)
        have hrf := rsort_any none b o cap [] w2 (fun h => by simp at h) (fun j x h => by simp at h) (by simp)
        have hrs : rs (([] : List ByteArray).map (·.data.toList)) = [] := rfl
        rw [hrs] at hrf
        refine (nsort_nil 0 0 w2).mono ?_
        rintro e w4 ⟨rfl, rfl⟩
        go_wp2_with fail
        refine hrf.mono ?_
        rintro e w5 ⟨a5, g5, cp5, rfl, h5, hc5, hb5⟩
        have htx := texts_same none a5 0 0 0 0 0 cp5 [] w5 (fun h => by simp at h) (fun h => by simp at h) (fun j x h => by simp at h) (fun j x h => by simp at h) (by simp)
        clear hrf hc5 h5
        go_wp2_with fail
        refine htx.mono ?_
        rintro e w6 ⟨rfl, hb6⟩
        clear htx
        go_wp2_with fail
        go_ret
        exact ⟨rfl, hB2.trans ((hb5.trans (hb6.mono hb5.size)).mono hB2.size)⟩
      | some ad =>
        go_wp2_with (at_builtin; refine wpList_append_own_at _ rfl _ _ 36 rfl w2.heap.size 9 i0 (.string ⟨#[]⟩) 1 16 Tryd.underlying36 hinf hz0 hz1 hz2 rfl (by decide) _ 0 [] rfl (World.ownsRow_nil _ _ _ _) ad 0 cap [] rfl rfl (fun j u h => by simp at h) (fun x hx => by simp at hx) (by unfold maxLen; omega) (by omega) (Nat.le_refl _) ?_; intro v' w3 hown' hgrow hn _)
        obtain rfl := hn.2 ⟨rfl, trivial⟩
        have hb3 : Below w2.heap.size w2 w3 := (Below.refl _ _).grown hgrow (Nat.le_refl _) (fun k e => by cases e)
        have hB3 : Below w.heap.size w w3 := hB2.trans (hb3.mono hB2.size)
        clear hown' hgrow hn
        have hrf := rsort_any (some ad) b o cap [] w3 (fun h => by simp at h) (fun j x h => by simp at h) (by simp)
        have hrs : rs (([] : List ByteArray).map (·.data.toList)) = [] := rfl
        rw [hrs] at hrf
        refine (nsort_nil 0 0 w3).mono ?_
        rintro e w4 ⟨rfl, rfl⟩
        go_wp2_with fail
        refine hrf.mono ?_
        rintro e w5 ⟨a5, g5, cp5, rfl, h5, hc5, hb5⟩
        have htx := texts_same none a5 0 0 0 0 0 cp5 [] w5 (fun h => by simp at h) (fun h => by simp at h) (fun j x h => by simp at h) (fun j x h => by simp at h) (by simp)
        clear hrf hc5 h5
        go_wp2_with fail
        refine htx.mono ?_
        rintro e w6 ⟨rfl, hb6⟩
        clear htx
        go_wp2_with fail
        go_ret
        exact ⟨rfl, hB3.trans ((hb5.trans (hb6.mono hb5.size)).mono hB3.size)⟩
end Go.Proofs.YtimmieelpaoncaaDoor
