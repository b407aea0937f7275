/-
  A table's rows as a slice of one's own, in order of their owners (rows), at this program. Conditions: the table is one, its rows are in order, at most 2^40.
-/
import Derived.Test.YtpefjcgccbfgbaaNM
namespace Go.Proofs.Ytpefjcgccbfgbaa.Bk
open Go.RowKit

def OwnH (W : World) (base : Nat) (o : Value) (xs : List Rw) : Prop := W.ownsRow base 91 11 o xs.length (xs.map rowL).flatten
section
variable {W w1 : World} {base : Nat} {o : Value} {xs : List Rw}
theorem OwnH.alloc (h : OwnH W base o xs) (ob : Obj) : OwnH (W.alloc ob) base o xs := World.ownsRow.alloc h ob
theorem OwnH.more {r : Rw} {o' : Value} (h' : w1.ownsRow base 91 11 o' (xs.length + 1) ((xs.map rowL).flatten ++ rowL r)) : OwnH w1 base o' (xs ++ [r]) := by
  unfold OwnH
  rw [List.map_append, List.flatten_append, List.length_append]
  simpa using h'
theorem OwnH.kept {w' : World} {row : Option Nat} (h : OwnH W base o xs) (hg : W.grownBy w' row) (hne : o.ownBlock = none ∨ o.ownBlock ≠ row) : OwnH w' base o xs := World.ownsRow.kept h hg hne
theorem OwnH.ge (h : OwnH W base o xs) : ∀ b, o.ownBlock = some b → base ≤ b := fun b hb => (World.ownsRow.lt h b hb).1
theorem Rng.row {b it : Nat} {done todo : List Rw} (h : Rng W b it done todo) (k : OwnH W base o xs) : some it ≠ o.ownBlock := by
  obtain ⟨D, l, c, n', ⟨es, clock, since, seen, c0, hb, -, -, -, hr, -⟩, -⟩ := h
  obtain ⟨-, ⟨rfl, -⟩ | ⟨g, cap, cur, rfl, -, hb', -⟩⟩ := k
  · simp [Value.ownBlock]
  · intro e
    have : it = g := by simpa [Value.ownBlock] using e
    subst this
    rw [hr] at hb'
    cases hb'
theorem MapW.row {b : Nat} {ls : List Rw} (h : MapW W b ls) (k : OwnH W base o xs) : some b ≠ o.ownBlock := by
  obtain ⟨D, ⟨es, clock, hb, -⟩, -⟩ := h
  obtain ⟨-, ⟨rfl, -⟩ | ⟨g, cap, cur, rfl, -, hb', -⟩⟩ := k
  · simp [Value.ownBlock]
  · intro e
    have : b = g := by simpa [Value.ownBlock] using e
    subst this
    rw [hb] at hb'
    cases hb'
end
theorem OwnH.shape {W : World} {base n : Nat} {o : Value} {xs : List Rw} (h : OwnH W base o xs) (he : xs = [] → o = .slice (some ⟨base, 0, none⟩) 0 n) (hb : base < W.heap.size) (hn : n ≤ maxLen) (hl : xs.length = n) :
    ∃ g cap, o = .slice (some ⟨g, 0, none⟩) xs.length cap ∧ (xs ≠ [] ∨ g < W.heap.size) ∧ (xs.length ≤ cap ∧ cap ≤ maxLen) ∧ base ≤ g := by
  by_cases e : xs = []
  · refine ⟨base, n, by rw [he e, e]; rfl, .inr hb, ⟨by omega, hn⟩, Nat.le_refl _⟩
  · obtain ⟨-, ⟨e1, e2⟩ | ⟨g, cap, cur, e1, e0, hb', h1, h2, -⟩⟩ := h
    · exact absurd (List.length_eq_zero_iff.1 e2) e
    · exact ⟨g, cap, e1, .inl e, ⟨h1, h2⟩, e0⟩
theorem holdInfo : (Try.prog.info? 91).map (fun i => (i.zero, i.size, i.bytes)) = some (some (.agg #[.string ⟨#[]⟩, .string ⟨#[]⟩, .int .i64 0, .int .i64 0, .int .i64 0, .int .i64 0, .int .i64 0, .int .i64 0, .int .i64 0, .int .i64 0, .int .i64 0]), 11, 104) := by kernel_rfl
theorem rowH_new (W : World) (r : Rw) (T : TypeId) : ∀ j u, (rowL r)[j]? = some u → (W.alloc (.cells #[.string r.p, .string r.c, .int .i64 r.k, .int .i64 (r.s 0), .int .i64 (r.s 1), .int .i64 (r.s 2), .int .i64 (r.s 3), .int .i64 (r.s 4), .int .i64 (r.s 5), .int .i64 (r.s 6), .int .i64 (r.s 7)] T)).cell? ((⟨W.heap.size, 0, none⟩ : Addr).add j) = some u := rowL_new W r T
theorem MapW.len {W : World} {b : Nat} {ls : List Rw} (h : MapW W b ls) (ty : TypeId) : (Builtin.len_ #[tMap] ty #[.map (some b)]).run Try.prog W = .ok (.int .i64 (ls.length : Nat)) W := by
  obtain ⟨D, h1, h2⟩ := h
  rw [← h2.size]
  exact h1.len Try.underlying72 ty

set_option maxHeartbeats 4000000 in
set_option maxRecDepth 100000 in
theorem rows_is {b m : Nat} {zs : List Zn} {ls : List Rw} (w : World) (h : Tb w b m zs ls) (hs : ls.Pairwise fun r q => befR r q = true) (hn : ls.length ≤ 1099511627776) :
    Calls Try.prog 40 #[tbV b] w fun e w' => ∃ g cap, e = .returned (.slice (some ⟨g, 0, none⟩) ls.length cap) ∧ RdW w' (.slice (some ⟨g, 0, none⟩) ls.length cap) ls ∧ w.heap.size ≤ g ∧ Below w.heap.size w w' := by
  have cb := h.held
  have mw := h.map
  have HM : Hid (m < w.heap.size ∧ b < w.heap.size) := ⟨h.map.lt, h.b_lt⟩
  have HG : Hid (∀ r ∈ ls, r.p.size ≤ maxLen ∧ r.c.size ≤ maxLen) := fun r hr => (h.map.good r hr).1
  have HS : Hid (ls.Pairwise fun r q => befR r q = true) := hs
  clear h hs
  have ln := fun ty => mw.len ty
  have hn2 : (0 : Int) ≤ (ls.length : Int) := by omega
  have hn3 : (ls.length : Int) ≤ 1099511627776 := by omega
  obtain ⟨i0, hi, hz0, hz1, hz2⟩ := info_parts holdInfo
  go_enter Try.func40, Try.ntmps40
  go_wp2_with (first
    | (at_make; refine wpList_make_own _ rfl _ _ 87 rfl w.heap.size 91 i0 (.agg #[.string ⟨#[]⟩, .string ⟨#[]⟩, .int .i64 0, .int .i64 0, .int .i64 0, .int .i64 0, .int .i64 0, .int .i64 0, .int .i64 0, .int .i64 0, .int .i64 0]) 11 Try.underlying87 hi hz0 hz1 .i64 .i64 _ ls.length rfl rfl rfl (by rw [hz2]; omega) (by unfold maxLen; omega) (Nat.le_refl _) ?_; intro w0 hown0 hgrow0; have cb0 := cell_later (grown_below hgrow0) cb; have mw0 := MapW.later (grown_below hgrow0) mw)
    | (at_range; refine wpList_range_tab _ rfl _ rfl m ls rfl mw0 ?_; intro w2 hrg0 hw2 hs2)
    | go_in)
  have hw0 := grown_below hgrow0
  have HO0 : Hid (OwnH w0 w.heap.size (.slice (some ⟨w.heap.size, 0, none⟩) 0 ls.length) []) := hown0
  have HL0 : Hid (w.heap.size < w0.heap.size) := by
    obtain ⟨-, ⟨e, -⟩ | ⟨g, cap, cur, e, -, hb', -⟩⟩ := hown0
    · cases e
    · cases e
      exact (Array.getElem?_eq_some_iff.1 hb').1
  clear ln hgrow0 hown0 cb mw
  (try go_frame)
  have HO2 : Hid (OwnH w2 w.heap.size (.slice (some ⟨w.heap.size, 0, none⟩) 0 ls.length) []) := HO0.out.kept (below_grown hw2) (.inr (by simp [Value.ownBlock]))
  have HB2 : Below w.heap.size w w2 := hw0.trans (hw2.mono hw0.size)
  have HL2 : Hid (w.heap.size < w2.heap.size) := Nat.lt_of_lt_of_le HL0.out hw2.size
  obtain ⟨it, hit⟩ : ∃ it, it = w0.heap.size := ⟨_, rfl⟩
  have HI : Hid (w.heap.size ≤ it) := by rw [hit]; exact hw0.size
  rw [← hit] at hrg0 ⊢
  clear hit hw2 hs2 hw0 mw0 cb0 HO0 HL0
  go_loopw [3, 19] (fun v _ wr => ∃ (done todo : List Rw), Hid ((done ++ todo).Perm ls) ∧ Rng wr m it done todo ∧ OwnH wr w.heap.size v done ∧ Hid (done = [] → v = .slice (some ⟨w.heap.size, 0, none⟩) 0 ls.length) ∧ Hid (w.heap.size < wr.heap.size) ∧ Below w.heap.size w wr) (fun _ _ wr => wr.rangeLeft m it)
  case atStart => exact ⟨[], ls, List.Perm.refl _, hrg0, HO2.out, fun _ => rfl, HL2, HB2⟩
  case round =>
    clear hrg0 HO2 HB2 HL2
    obtain ⟨done, todo, HP, hrg, own, HE, HLt, HB⟩ := hrel
    go_wp2_with (first
      | (at_next; refine wpList_next_tab _ rfl _ rfl m it done todo rfl hrg ?_ ?_)
      | go_in)
    · intro h0
      subst h0
      have P1 : done.Perm ls := by have := HP.out; rwa [List.append_nil] at this
      have dl : done.length = ls.length := P1.length_eq
      obtain ⟨g, cap, rfl, h1, h2, h3⟩ := own.shape HE.out HLt.out (by unfold maxLen; omega) dl
      have C1 := sort_is own P1 HS.out HG.out h1 h2 (by omega)
      have GB : Hid (w.heap.size ≤ g) := h3
      have DN : Hid (done.length = ls.length) := dl
      clear own HE HLt hrg h1 h2 P1 dl HP h3
      go_wp2_with (fail)
      refine C1.mono ?_
      rintro e w3 ⟨rfl, rd, hg⟩
      have HB3 := HB.grown hg HB.size (fun k e => by cases e; exact GB.out)
      clear C1 hg HB
      go_wp2
      go_ret
      rw [DN.out] at rd
      exact ⟨g, cap, by rw [DN.out]; rfl, rd, GB.out, HB3⟩
    · intro r todo' w1 hp hg hrg1 hlt hgr hsz hen
      obtain ⟨L, hL⟩ : ∃ L, L = wr.rangeLeft m it := ⟨_, rfl⟩
      have HLL : Hid (∀ n, n < L → n < wr.rangeLeft m it) := fun n h => by rw [← hL]; exact h
      rw [← hL] at hlt
      have own1 := own.kept hgr (.inr (hrg.row own).symm)
      have HB1 : Below w.heap.size w w1 := HB.grown hgr HB.size (fun k e => by cases e; exact HI.out)
      have HL1 : Hid (w.heap.size < w1.heap.size) := by have := HLt.out; show _ < _; omega
      have HP1 : Hid ((done ++ [r] ++ todo').Perm ls) := by unfold Hid; rw [List.append_assoc]; exact ((hp.append_left done).symm).trans HP.out
      have DL : Hid (done.length ≤ 1099511627775) := by
        have e1 := HP1.out.length_eq
        rw [List.length_append, List.length_append] at e1
        simp at e1
        show done.length ≤ _
        omega
      clear hL hrg own hgr hsz HB HLt HP HE hp hg
      have own2 := (own1.alloc (.cells #[.string r.p, .string r.c, .int .i64 r.k] 45)).alloc (.cells #[.int .i64 (r.s 0), .int .i64 (r.s 1), .int .i64 (r.s 2), .int .i64 (r.s 3), .int .i64 (r.s 4), .int .i64 (r.s 5), .int .i64 (r.s 6), .int .i64 (r.s 7)] 47)
      have R2 := (hrg1.alloc (.cells #[.string r.p, .string r.c, .int .i64 r.k] 45)).alloc (.cells #[.int .i64 (r.s 0), .int .i64 (r.s 1), .int .i64 (r.s 2), .int .i64 (r.s 3), .int .i64 (r.s 4), .int .i64 (r.s 5), .int .i64 (r.s 6), .int .i64 (r.s 7)] 47)
      have HB2 : Below w.heap.size w ((w1.alloc (.cells #[.string r.p, .string r.c, .int .i64 r.k] 45)).alloc (.cells #[.int .i64 (r.s 0), .int .i64 (r.s 1), .int .i64 (r.s 2), .int .i64 (r.s 3), .int .i64 (r.s 4), .int .i64 (r.s 5), .int .i64 (r.s 6), .int .i64 (r.s 7)] 47)) := (HB1.alloc HB1.size _).alloc (Nat.le_trans HB1.size (by rw [World.size_alloc]; exact Nat.le_succ _)) _
      have qo : Cs ((w1.alloc (.cells #[.string r.p, .string r.c, .int .i64 r.k] 45)).alloc (.cells #[.int .i64 (r.s 0), .int .i64 (r.s 1), .int .i64 (r.s 2), .int .i64 (r.s 3), .int .i64 (r.s 4), .int .i64 (r.s 5), .int .i64 (r.s 6), .int .i64 (r.s 7)] 47)) w1.heap.size [.string r.p, .string r.c, .int .i64 r.k] := Cs.alloc (Cs.new _ _ _ _ rfl) _
      have qs : Cs ((w1.alloc (.cells #[.string r.p, .string r.c, .int .i64 r.k] 45)).alloc (.cells #[.int .i64 (r.s 0), .int .i64 (r.s 1), .int .i64 (r.s 2), .int .i64 (r.s 3), .int .i64 (r.s 4), .int .i64 (r.s 5), .int .i64 (r.s 6), .int .i64 (r.s 7)] 47)) (w1.heap.size + 1) (spL r.s) := Cs.new _ _ _ _ (by simp)
      have L2 : Hid (World.rangeLeft ((w1.alloc (.cells #[.string r.p, .string r.c, .int .i64 r.k] 45)).alloc (.cells #[.int .i64 (r.s 0), .int .i64 (r.s 1), .int .i64 (r.s 2), .int .i64 (r.s 3), .int .i64 (r.s 4), .int .i64 (r.s 5), .int .i64 (r.s 6), .int .i64 (r.s 7)] 47)) m it < L) := by
        unfold Hid
        rw [Rng.left_later (hrg1.alloc _) ((Below.refl _ _).alloc (Nat.le_refl _) _), Rng.left_later hrg1 ((Below.refl _ _).alloc (Nat.le_refl _) _)]
        exact hlt
      have HL2 : Hid (w.heap.size < ((w1.alloc (.cells #[.string r.p, .string r.c, .int .i64 r.k] 45)).alloc (.cells #[.int .i64 (r.s 0), .int .i64 (r.s 1), .int .i64 (r.s 2), .int .i64 (r.s 3), .int .i64 (r.s 4), .int .i64 (r.s 5), .int .i64 (r.s 6), .int .i64 (r.s 7)] 47)).heap.size) := by rw [World.size_alloc, World.size_alloc]; exact Nat.lt_of_lt_of_le HL1.out (by omega)
      clear own1 HB1 hlt HL1 hrg1
      go_upto_region 7 with (fail)
      obtain ⟨po, hpo⟩ : ∃ po, po = w1.heap.size := ⟨_, rfl⟩
      rw [← hpo] at qo qs ⊢
      clear hpo hen
      generalize (w1.alloc (.cells #[.string r.p, .string r.c, .int .i64 r.k] 45)).alloc (.cells #[.int .i64 (r.s 0), .int .i64 (r.s 1), .int .i64 (r.s 2), .int .i64 (r.s 3), .int .i64 (r.s 4), .int .i64 (r.s 5), .int .i64 (r.s 6), .int .i64 (r.s 7)] 47) = W2 at *
      have o0 := qo.1 0 _ rfl
      have o1 := qo.1 1 _ rfl
      have o2 := qo.1 2 _ rfl
      have s0 := qs.1 0 _ rfl
      have s1 := qs.1 1 _ rfl
      have s2 := qs.1 2 _ rfl
      have s3 := qs.1 3 _ rfl
      have s4 := qs.1 4 _ rfl
      have s5 := qs.1 5 _ rfl
      have s6 := qs.1 6 _ rfl
      have s7 := qs.1 7 _ rfl
      have ow3 := own2.alloc (.cells #[.string r.p, .string r.c, .int .i64 r.k, .int .i64 (r.s 0), .int .i64 (r.s 1), .int .i64 (r.s 2), .int .i64 (r.s 3), .int .i64 (r.s 4), .int .i64 (r.s 5), .int .i64 (r.s 6), .int .i64 (r.s 7)] 91)
      go_wp2_with (first
        | (at_builtin; refine wpList_append_own _ rfl _ _ 87 rfl w.heap.size 91 i0 (.agg #[.string ⟨#[]⟩, .string ⟨#[]⟩, .int .i64 0, .int .i64 0, .int .i64 0, .int .i64 0, .int .i64 0, .int .i64 0, .int .i64 0, .int .i64 0, .int .i64 0]) 11 104 Try.underlying87 hi hz0 hz1 hz2 rfl (by decide) _ _ _ rfl ow3 ⟨W2.heap.size, 0, none⟩ 1 1 (rowL r) rfl rfl ?c1 ?c2 ?c3 ?c4 ?c5 ?_)
        | fail)
      case c1 => first | exact rowH_new W2 r _ | exact fun j u hj => hj
      case c2 => exact rowL_one r
      case c3 => have := DL.out; unfold maxLen; omega
      case c4 => have := DL.out; omega
      case c5 => have := HB2.size; first | omega | (simp; omega)
      · intro v' w4 hown' hgrow _
        have own4 := OwnH.more hown'
        have R3 := R2.alloc (.cells #[.string r.p, .string r.c, .int .i64 r.k, .int .i64 (r.s 0), .int .i64 (r.s 1), .int .i64 (r.s 2), .int .i64 (r.s 3), .int .i64 (r.s 4), .int .i64 (r.s 5), .int .i64 (r.s 6), .int .i64 (r.s 7)] 91)
        have m1 : some m ≠ _ := R3.map.row ow3
        have m2 : some it ≠ _ := R3.row ow3
        have R4 := R3.kept hgrow m1 m2
        have HB4 : Below w.heap.size w w4 := (HB2.alloc HB2.size _).grown hgrow (by have := HB2.size; simp; omega) (fun k hk => by have := ow3.ge k hk; omega)
        have L4 : Hid (w4.rangeLeft m it < L) := by
          unfold Hid
          rw [R3.left_grown hgrow m1 m2, R2.left_later ((Below.refl _ _).alloc (Nat.le_refl _) _)]
          exact L2.out
        have HL4 : Hid (w.heap.size < w4.heap.size) := Nat.lt_of_lt_of_le HL2.out (Nat.le_trans (by simp) hgrow.size)
        clear ow3 own2 hown' hgrow R3 R2 m1 m2 HB2 L2 HL2 qo qs o0 o1 o2 s0 s1 s2 s3 s4 s5 s6 s7
        go_wp2
        go_roundw
        case rel => exact ⟨done ++ [r], todo', HP1, R4, own4, fun e => absurd e (by simp), HL4, HB4⟩
        case measure => exact HLL.out _ L4.out

set_option maxHeartbeats 1000000 in
theorem rows_nil (w : World) : Calls Try.prog 40 #[.pointer none] w fun e w' => e = .returned (.slice none 0 0) ∧ Below w.heap.size w w' := by
  go_enter Try.func40, Try.ntmps40
  go_wp2
  go_ret
  exact ⟨rfl, by go_grown⟩

end Go.Proofs.Ytpefjcgccbfgbaa.Bk
