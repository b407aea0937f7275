/-
  A copy of a row of containers, at this program. Conditions: the slice reads as a list that is not empty, a hundred thousand at the most.
-/
import Derived.Test.YtfgbppngnafpoaaDoorPS
import Derived.Test.YtfgbppngnafpoaaDoorPH
import Derived.Lib.SliceRun
namespace Go.Proofs.YtfgbppngnafpoaaDoor.Sp
open Go.RowKit

theorem ctInfo : (Tryd.prog.info? 26).map (fun i => (i.zero, i.size, i.bytes)) = some (some (.agg #[.string ⟨#[]⟩, .int .i64 0, .int .i64 0, .int .i64 0, .int .i64 0, .int .i64 0, .int .i64 0, .bool false, .bool false, .bool false]), 10, 72) := by kernel_rfl
theorem flat_get {α : Type} {k : Nat} (hk : 0 < k) : ∀ {xss : List (List α)} {i : Nat} {v : α}, (∀ x ∈ xss, x.length = k) → xss.flatten[i]? = some v → ∃ xs, xss[i / k]? = some xs ∧ xs[i % k]? = some v
  | [], i, v, _, h => by simp at h
  | x :: r, i, v, hl, h => by
    have e : x.length = k := hl x (by simp)
    rw [List.flatten_cons] at h
    by_cases c : i < k
    · rw [List.getElem?_append_left (by omega)] at h
      refine ⟨x, ?_, ?_⟩
      · rw [Nat.div_eq_of_lt c]; rfl
      · rw [Nat.mod_eq_of_lt c]; exact h
    · rw [List.getElem?_append_right (by omega), e] at h
      obtain ⟨xs, h1, h2⟩ := flat_get hk (fun y hy => hl y (by simp [hy])) h
      refine ⟨xs, ?_, ?_⟩
      · rw [show i / k = (i - k) / k + 1 by
          have : i = (i - k) + k := by omega
          rw [this, Nat.add_div_right _ hk, Nat.add_sub_cancel]]
        exact h1
      · rw [show i % k = (i - k) % k by rw [← Nat.mod_eq_sub_mod (by omega)]]
        exact h2
theorem Ten.at_ {W : World} {b o : Nat} {c : Ct} (h : Ten W b o c) {i : Nat} {v : Value} (hv : c.l[i]? = some v) : W.cell? ⟨b, o + i, none⟩ = some v := by
  obtain ⟨h0, h1, h2, h3, h4, h5, h6, h7, h8, h9⟩ := h
  have hl := (List.getElem?_eq_some_iff.1 hv).1
  have : c.l.length = 10 := rfl
  have : i = 0 ∨ i = 1 ∨ i = 2 ∨ i = 3 ∨ i = 4 ∨ i = 5 ∨ i = 6 ∨ i = 7 ∨ i = 8 ∨ i = 9 := by omega
  rcases this with rfl | rfl | rfl | rfl | rfl | rfl | rfl | rfl | rfl | rfl
  all_goals
    injection hv with hv
    subst hv
    assumption

set_option maxHeartbeats 1000000 in
set_option maxRecDepth 100000 in
theorem clone_is {v : Value} {zs : List Ct} (w : World) (h : RdC w v zs) (h0 : 0 < zs.length) (hz : zs.length ≤ 100000) :
    Calls Tryd.prog 43 #[v] w fun e w' => ∃ g cap : Nat, e = .returned (.slice (some ⟨g, 0, none⟩) zs.length cap) ∧ zs.length ≤ cap ∧ cap ≤ maxLen ∧ w.heap.size ≤ g ∧ RowC w' g zs ∧ Below w.heap.size w w' := by
  obtain ⟨a, cap, rfl, h1, h2, h3⟩ := h
  obtain ⟨-, b, off, rfl, -⟩ := h3 0 zs[0] (List.getElem?_eq_getElem h0)
  have H3 : Hid (∀ (j : Nat) (c : Ct), zs[j]? = some c → c.n.size ≤ maxLen ∧ Ten w b (off + j * 10) c) := fun j c hc => by
    obtain ⟨k, b', off', e, T⟩ := h3 j c hc
    injection e with e
    injection e with e1 e2
    subst e1 e2
    exact ⟨k, T⟩
  clear h3
  obtain ⟨i0, hi, hz0, hz1, hz2⟩ := info_parts ctInfo
  have q22 : ∀ (w : World) (a : Option Addr) (n c n' c' : Nat), (binOp .eql 31 (.slice a n c) (.slice none n' c')).run Tryd.prog w = .ok (.bool a.isNone) w := fun w a n c n' c' => Lib.run_eql_slice_nil w _ _ a n c n' c' Tryd.underlying31
  obtain ⟨news, hnews⟩ : ∃ news, news = (zs.map Ct.l).flatten := ⟨_, rfl⟩
  have EN : Hid (news = (zs.map Ct.l).flatten) := hnews
  have all10 : Hid (∀ x ∈ zs.map Ct.l, x.length = 10) := fun x hx => by obtain ⟨c, _, rfl⟩ := List.mem_map.1 hx; rfl
  have nl : news.length = zs.length * 10 := by
    rw [hnews, List.length_flatten, List.map_map]
    have : (List.length ∘ Ct.l) = fun _ => 10 := by funext c; rfl
    rw [this, List.map_const', List.sum_replicate_nat]
  clear hnews
  go_enter Tryd.func43, Tryd.ntmps43
  go_wp2_with (first
    | (at_builtin; refine wpList_append_own _ rfl _ _ 31 rfl w.heap.size 26 i0 (.agg #[.string ⟨#[]⟩, .int .i64 0, .int .i64 0, .int .i64 0, .int .i64 0, .int .i64 0, .int .i64 0, .bool false, .bool false, .bool false]) 10 72 Tryd.underlying31 hi hz0 hz1 hz2 rfl (by decide) _ _ _ rfl (World.ownsRow_made w #[] 0 (Nat.le_refl _) (Nat.zero_le _) rfl) ⟨b, off, none⟩ zs.length cap news rfl ?c1 ?c2 ?c3 ?c4 ?c5 ?c6 ?_)
    | fail)
  case c1 => exact nl
  case c2 =>
    intro j u hj
    rw [EN.out] at hj
    obtain ⟨xs, q1, q2⟩ := flat_get (by decide) all10.out hj
    rw [List.getElem?_map] at q1
    cases hc : zs[j / 10]? with
    | none => rw [hc] at q1; cases q1
    | some c =>
      rw [hc] at q1
      injection q1 with q1
      subst q1
      have := (H3.out _ c hc).2.at_ q2
      rw [show off + j / 10 * 10 + j % 10 = off + j by omega] at this
      rw [Addr.add_lit]
      exact Lib.cell?_alloc_some _ this
  case c3 =>
    intro u hu
    rw [EN.out] at hu
    obtain ⟨xs, hx, hu⟩ := List.mem_flatten.1 hu
    obtain ⟨c, _, rfl⟩ := List.mem_map.1 hx
    simp [Ct.l] at hu
    rcases hu with rfl | rfl | rfl | rfl | rfl | rfl | rfl | rfl | rfl | rfl <;> rfl
  case c4 => unfold maxLen; omega
  case c5 => omega
  case c6 => simp
  intro v' w1 hown hgrow hnil
  have HB : Below w.heap.size w w1 := ((Below.refl _ w).alloc (Nat.le_refl _) _).grown hgrow (by simp) (by intro k hk; simp [Value.ownBlock] at hk; omega)
  obtain ⟨g, cap', rfl, hg, n1, n2⟩ : ∃ g cap', v' = .slice (some ⟨g, 0, none⟩) zs.length cap' ∧ w.heap.size ≤ g ∧ zs.length ≤ cap' ∧ cap' ≤ maxLen := by
    obtain ⟨-, ⟨rfl, e⟩ | ⟨g, cap', cur, rfl, h1, -, h2, h3, -⟩⟩ := hown
    · exact absurd rfl hnil
    · exact ⟨g, cap', rfl, h1, h2, h3⟩
  have RC : Hid (RowC w1 g zs) := by
    refine ⟨(World.ownsRow.lt hown g rfl).2, fun i c hc => ?_⟩
    have hi' : i < zs.length := (List.getElem?_eq_some_iff.1 hc).1
    have cell : ∀ q v, q < 10 → c.l[q]? = some v → w1.cell? ⟨g, i * 10 + q, none⟩ = some v := fun q v hq hv => by
      rw [World.ownsRow.cellAt hown (i * 10 + q) (by omega), EN.out]
      exact flat_at all10.out (by rw [List.getElem?_map, hc]; rfl) hv
    refine ⟨(H3.out i c hc).1, ⟨?_, ?_, ?_, ?_, ?_, ?_, ?_, ?_, ?_, ?_⟩, fun k _ => World.ownsRow.frozenAt hown _⟩
    · exact cell 0 _ (by omega) rfl
    · exact cell 1 _ (by omega) rfl
    · exact cell 2 _ (by omega) rfl
    · exact cell 3 _ (by omega) rfl
    · exact cell 4 _ (by omega) rfl
    · exact cell 5 _ (by omega) rfl
    · exact cell 6 _ (by omega) rfl
    · exact cell 7 _ (by omega) rfl
    · exact cell 8 _ (by omega) rfl
    · exact cell 9 _ (by omega) rfl
  clear hown hgrow hnil nl EN H3 all10
  go_wp2
  go_ret
  exact ⟨g, cap', rfl, n1, n2, hg, RC.out, HB⟩

end Go.Proofs.YtfgbppngnafpoaaDoor.Sp
