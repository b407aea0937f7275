/-
  Sums of lists of vectors at this program: package vector's own, and the document's. Conditions: the tables of the program lie as its text lays them; the list reads as a list of vectors.
-/
import Derived.Test.YtaeejemknmjglaaDoorPB
namespace Go.Proofs.YtaeejemknmjglaaDoor.Sp
open Go.RowKit

def addV (s d : Int × Int × Int) : Option (Int × Int × Int) := both s d (s.1 + d.1, s.2.1 + d.2.1, s.2.2 + d.2.2)
/-- All added, from the first one on; none: one isn't right. -/
def sumL : Int × Int × Int → List (Int × Int × Int) → Option (Int × Int × Int)
  | s, [] => some s
  | s, d :: r => match addV s d with
    | some x => sumL x r
    | none => none
theorem sumL_on {s d x : Int × Int × Int} {r : List (Int × Int × Int)} (h : addV s d = some x) : sumL s (d :: r) = sumL x r := by rw [sumL, h]
theorem sumL_no {s d : Int × Int × Int} {r : List (Int × Int × Int)} (h : addV s d = none) : sumL s (d :: r) = none := by rw [sumL, h]

/-- A slice reads as a row of vectors. -/
def RdV (W : World) (v : Value) (zs : List (Int × Int × Int)) : Prop := ∃ (a : Option Addr) (cap : Nat), v = .slice a zs.length cap ∧ zs.length ≤ cap ∧ cap ≤ maxLen ∧
  ∀ (j : Nat) (d : Int × Int × Int), zs[j]? = some d → ∃ b off : Nat, a = some ⟨b, off, none⟩ ∧ W.cell? ⟨b, off + j * 3, none⟩ = some (.int .i64 d.1) ∧ W.cell? ⟨b, off + j * 3 + 1, none⟩ = some (.int .i64 d.2.1) ∧ W.cell? ⟨b, off + j * 3 + 2, none⟩ = some (.int .i64 d.2.2)
theorem RdV.later {W w1 : World} {v : Value} {zs : List (Int × Int × Int)} (h : RdV W v zs) (hb : Below W.heap.size W w1) : RdV w1 v zs := by
  obtain ⟨a, cap, e, h1, h2, h3⟩ := h
  refine ⟨a, cap, e, h1, h2, fun j d hj => ?_⟩
  obtain ⟨b, off, e1, e2, e3, e4⟩ := h3 j d hj
  exact ⟨b, off, e1, cell_later hb e2, cell_later hb e3, cell_later hb e4⟩
theorem vo_some (x y z : Int) : vo (some (x, y, z)) = .tuple #[.agg #[.int .i64 x, .int .i64 y, .int .i64 z], .bool true] := rfl
theorem vo_none : vo none = .tuple #[.agg #[.int .i64 0, .int .i64 0, .int .i64 0], .bool false] := rfl

/-- What the document's loop has behind so many. -/
def Sofar (k : Bool) (s : Int × Int × Int) (rest : List (Int × Int × Int)) (R : Option (Int × Int × Int)) : Prop := (k = true ∧ sumL s rest = R) ∨ (k = false ∧ s = (0, 0, 0) ∧ R = none)

set_option maxHeartbeats 2000000 in
set_option maxRecDepth 100000 in
theorem vsum_any {v : Value} {zs : List (Int × Int × Int)} (w : World) (hL : LaidS w) (h : RdV w v zs) :
    Calls Tryd.prog 62 #[v] w fun e w' => e = .returned (vo (sumL (0, 0, 0) zs)) ∧ Below w.heap.size w w' := by
  obtain ⟨R, hR⟩ : ∃ R, R = sumL (0, 0, 0) zs := ⟨_, rfl⟩
  have HR : Hid (sumL (0, 0, 0) (zs.drop 0) = R) := by unfold Hid; rw [hR, List.drop_zero]
  rw [← hR]
  have HL : Hid (LaidS w) := hL
  clear hR hL
  obtain ⟨a, cap, rfl, h1, h2, h3⟩ := h
  have H3 : Hid (∀ (j : Nat) (d : Int × Int × Int), zs[j]? = some d → ∃ b off : Nat, a = some ⟨b, off, none⟩ ∧ w.cell? ⟨b, off + j * 3, none⟩ = some (.int .i64 d.1) ∧ w.cell? ⟨b, off + j * 3 + 1, none⟩ = some (.int .i64 d.2.1) ∧ w.cell? ⟨b, off + j * 3 + 2, none⟩ = some (.int .i64 d.2.2)) := h3
  clear h3
  have zl : zs.length ≤ maxLen := by omega
  unfold maxLen at zl
  go_enter Tryd.func62, Tryd.ntmps62
  go_wp2
  go_loopw [11] (fun f wr => ∃ (j : Nat) (s : Int × Int × Int), f = .int .i64 j ∧ j ≤ zs.length ∧ Hid (sumL s (zs.drop j) = R) ∧ Bx3 wr w.heap.size 0 0 0 ∧ Bx3 wr (w.heap.size + 1) s.1 s.2.1 s.2.2 ∧ Below w.heap.size w wr) (fun f _ => zs.length - (intOf f).toNat)
  case atStart => exact ⟨0, (0, 0, 0), rfl, by omega, HR, (Bx3.new _ _ _ _ _ _ rfl).alloc _, Bx3.new _ _ _ _ _ _ (by simp), by go_grown⟩
  case round =>
    obtain ⟨j, ⟨sc, sm, sh⟩, rfl, jl, HO, q_r, q_s, HB⟩ := hrel
    obtain ⟨r0, r1, r2, r3, r4, r5, r6⟩ := id q_r
    obtain ⟨s0, s1, s2, s3, s4, s5, s6⟩ := id q_s
    simp only at s0 s1 s2
    have hs := HB.size
    by_cases cj : j < zs.length
    · obtain ⟨⟨dc, dm, dh⟩, hdj⟩ : ∃ d, zs[j]? = some d := ⟨zs[j], List.getElem?_eq_getElem cj⟩
      obtain ⟨b, off, rfl, c0, c1, c2⟩ := H3.out j _ hdj
      have c0' := cell_later HB c0
      have c1' := cell_later HB c1
      have c2' := cell_later HB c2
      simp only at c0' c1' c2'
      have E := HO.out
      rw [List.drop_eq_getElem_cons cj, show zs[j] = (dc, dm, dh) from (List.getElem?_eq_some_iff.1 hdj).2] at E
      have HE : Hid (sumL (sc, sm, sh) ((dc, dm, dh) :: zs.drop (j + 1)) = R) := E
      have j0 : (0 : Int) ≤ (j : Int) := by omega
      have j1 : (j : Int) < (zs.length : Int) := by omega
      clear E HO hdj c0 c1 c2
      go_wp2_with (fail)
      refine (vadd_any sc sm sh dc dm dh _ ((HL.out.later HB).alloc _)).mono ?_
      rintro e w1 ⟨rfl, hw1⟩
      obtain ⟨o, ho⟩ : ∃ o, o = addV (sc, sm, sh) (dc, dm, dh) := ⟨_, rfl⟩
      rw [show both (sc, sm, sh) (dc, dm, dh) (sc + dc, sm + dm, sh + dh) = o from ho.symm]
      have O : Hid (addV (sc, sm, sh) (dc, dm, dh) = o) := ho.symm
      have HB1 : Below w.heap.size w w1 := Below.trans (show Below w.heap.size w _ by go_grown) (hw1.mono (by simp; omega))
      replace q_r := (q_r.alloc (.cells #[.int .i64 dc, .int .i64 dm, .int .i64 dh] 23)).later hw1
      replace q_s := (q_s.alloc (.cells #[.int .i64 dc, .int .i64 dm, .int .i64 dh] 23)).later hw1
      clear ho hw1 HB r0 r1 r2 r3 r4 r5 r6 s0 s1 s2 s3 s4 s5 s6 c0' c1' c2' hs
      obtain ⟨r0, r1, r2, r3, r4, r5, r6⟩ := id q_r
      obtain ⟨s0, s1, s2, s3, s4, s5, s6⟩ := id q_s
      have hs := HB1.size
      cases o with
      | none =>
        rw [vo_none]
        have X : Hid (R = none) := by unfold Hid; rw [← HE.out, sumL_no O.out]
        go_wp2
        refine bodyPost_ret (v := .tuple #[.agg #[.int .i64 0, .int .i64 0, .int .i64 0], .bool false]) (by simp [results, Tryd.results62, go_sem, r0, r1, r2, r6]) rfl ?_
        exact ⟨by rw [X.out]; rfl, by go_grown⟩
      | some x =>
        obtain ⟨x, y, z⟩ := x
        rw [vo_some]
        have HO2 : Hid (sumL (x, y, z) (zs.drop (j + 1)) = R) := by unfold Hid; rw [← HE.out, sumL_on O.out]
        have k_r : Bx3 ((((w1.setCell ⟨w.heap.size + 1, 0, none⟩ (.int .i64 x)).setCell ⟨w.heap.size + 1, 1, none⟩ (.int .i64 y)).setCell ⟨w.heap.size + 1, 2, none⟩ (.int .i64 z)).alloc (.cells #[.int .i64 x, .int .i64 y, .int .i64 z] 23)) w.heap.size 0 0 0 := (((q_r.beside _ _ (by omega)).beside _ _ (by omega)).beside _ _ (by omega)).alloc _
        have k_s : Bx3 ((((w1.setCell ⟨w.heap.size + 1, 0, none⟩ (.int .i64 x)).setCell ⟨w.heap.size + 1, 1, none⟩ (.int .i64 y)).setCell ⟨w.heap.size + 1, 2, none⟩ (.int .i64 z)).alloc (.cells #[.int .i64 x, .int .i64 y, .int .i64 z] 23)) (w.heap.size + 1) x y z := (q_s.put _ _ _).alloc _
        have k_b : Below w.heap.size w ((((w1.setCell ⟨w.heap.size + 1, 0, none⟩ (.int .i64 x)).setCell ⟨w.heap.size + 1, 1, none⟩ (.int .i64 y)).setCell ⟨w.heap.size + 1, 2, none⟩ (.int .i64 z)).alloc (.cells #[.int .i64 x, .int .i64 y, .int .i64 z] 23)) := by go_grown
        clear HE O q_r q_s
        go_wp2
        go_roundw
        case rel => exact ⟨j + 1, (x, y, z), by go_num, by omega, HO2, k_r, k_s, k_b⟩
        case measure => simp [intOf]; omega
    · obtain rfl : j = zs.length := by omega
      have X : Hid (R = some (sc, sm, sh)) := by unfold Hid; rw [← HO.out, List.drop_length]; rfl
      clear HO cj jl
      go_wp2
      refine bodyPost_ret (v := .tuple #[.agg #[.int .i64 sc, .int .i64 sm, .int .i64 sh], .bool true]) (by simp [results, Tryd.results62, go_sem, r0, r1, r2]) rfl ?_
      exact ⟨by rw [X.out]; rfl, by go_grown⟩

set_option maxHeartbeats 2000000 in
set_option maxRecDepth 100000 in
theorem refSum_any {v : Value} {zs : List (Int × Int × Int)} (w : World) (h : RdV w v zs) :
    Calls Tryd.prog 50 #[v] w fun e w' => e = .returned (vo (sumL (0, 0, 0) zs)) ∧ Below w.heap.size w w' := by
  obtain ⟨R, hR⟩ : ∃ R, R = sumL (0, 0, 0) zs := ⟨_, rfl⟩
  have HR : Hid (Sofar true (0, 0, 0) (zs.drop 0) R) := by
    refine Or.inl ⟨rfl, ?_⟩
    rw [hR, List.drop_zero]
  rw [← hR]
  clear hR
  obtain ⟨a, cap, rfl, h1, h2, h3⟩ := h
  have H3 : Hid (∀ (j : Nat) (d : Int × Int × Int), zs[j]? = some d → ∃ b off : Nat, a = some ⟨b, off, none⟩ ∧ w.cell? ⟨b, off + j * 3, none⟩ = some (.int .i64 d.1) ∧ w.cell? ⟨b, off + j * 3 + 1, none⟩ = some (.int .i64 d.2.1) ∧ w.cell? ⟨b, off + j * 3 + 2, none⟩ = some (.int .i64 d.2.2)) := h3
  clear h3
  have zl : zs.length ≤ maxLen := by omega
  unfold maxLen at zl
  go_enter Tryd.func50, Tryd.ntmps50
  go_wp2
  go_loopw [5, 11] (fun g f wr => ∃ (j : Nat) (k : Bool) (s : Int × Int × Int), f = .int .i64 j ∧ j ≤ zs.length ∧ g = .bool k ∧ Hid (Sofar k s (zs.drop j) R) ∧ Bx3 wr w.heap.size 0 0 0 ∧ Bx3 wr (w.heap.size + 1) s.1 s.2.1 s.2.2 ∧ Below w.heap.size w wr) (fun _ f _ => zs.length - (intOf f).toNat)
  case atStart => exact ⟨0, true, (0, 0, 0), rfl, by omega, rfl, HR, (Bx3.new _ _ _ _ _ _ rfl).alloc _, Bx3.new _ _ _ _ _ _ (by simp), by go_grown⟩
  case round =>
    obtain ⟨j, k, ⟨sc, sm, sh⟩, rfl, jl, rfl, HO, q_r, q_s, HB⟩ := hrel
    obtain ⟨r0, r1, r2, r3, r4, r5, r6⟩ := id q_r
    obtain ⟨s0, s1, s2, s3, s4, s5, s6⟩ := id q_s
    simp only at s0 s1 s2
    have hs := HB.size
    by_cases cj : j < zs.length
    · obtain ⟨⟨dc, dm, dh⟩, hdj⟩ : ∃ d, zs[j]? = some d := ⟨zs[j], List.getElem?_eq_getElem cj⟩
      obtain ⟨b, off, rfl, c0, c1, c2⟩ := H3.out j _ hdj
      have c0' := cell_later HB c0
      have c1' := cell_later HB c1
      have c2' := cell_later HB c2
      simp only at c0' c1' c2'
      have E := HO.out
      rw [List.drop_eq_getElem_cons cj, show zs[j] = (dc, dm, dh) from (List.getElem?_eq_some_iff.1 hdj).2] at E
      have HE : Hid (Sofar k (sc, sm, sh) ((dc, dm, dh) :: zs.drop (j + 1)) R) := E
      have j0 : (0 : Int) ≤ (j : Int) := by omega
      have j1 : (j : Int) < (zs.length : Int) := by omega
      clear E HO hdj c0 c1 c2
      cases k with
      | false =>
        have NX : Hid (Sofar false (sc, sm, sh) (zs.drop (j + 1)) R) := by
          rcases HE.out with ⟨h, _⟩ | ⟨_, h1, h2⟩
          · exact Bool.noConfusion h
          · exact Or.inr ⟨rfl, h1, h2⟩
        have k_b : Below w.heap.size w (wr.alloc (.cells #[.int .i64 dc, .int .i64 dm, .int .i64 dh] 23)) := by go_grown
        have k_r := q_r.alloc (.cells #[.int .i64 dc, .int .i64 dm, .int .i64 dh] 23)
        have k_s := q_s.alloc (.cells #[.int .i64 dc, .int .i64 dm, .int .i64 dh] 23)
        clear HE q_r q_s
        go_wp2
        go_roundw
        case rel => exact ⟨j + 1, false, (sc, sm, sh), by go_num, by omega, rfl, NX, k_r, k_s, k_b⟩
        case measure => simp [intOf]; omega
      | true =>
        go_wp2_with (fail)
        refine (radd_any sc sm sh dc dm dh _).mono ?_
        rintro e w1 ⟨rfl, hw1⟩
        obtain ⟨o, ho⟩ : ∃ o, o = addV (sc, sm, sh) (dc, dm, dh) := ⟨_, rfl⟩
        rw [show both (sc, sm, sh) (dc, dm, dh) (sc + dc, sm + dm, sh + dh) = o from ho.symm]
        have O : Hid (addV (sc, sm, sh) (dc, dm, dh) = o) := ho.symm
        have HB1 : Below w.heap.size w w1 := Below.trans (show Below w.heap.size w _ by go_grown) (hw1.mono (by simp; omega))
        replace q_r := (q_r.alloc (.cells #[.int .i64 dc, .int .i64 dm, .int .i64 dh] 23)).later hw1
        replace q_s := (q_s.alloc (.cells #[.int .i64 dc, .int .i64 dm, .int .i64 dh] 23)).later hw1
        clear ho hw1 HB r0 r1 r2 r3 r4 r5 r6 s0 s1 s2 s3 s4 s5 s6 c0' c1' c2' hs
        obtain ⟨r0, r1, r2, r3, r4, r5, r6⟩ := id q_r
        obtain ⟨s0, s1, s2, s3, s4, s5, s6⟩ := id q_s
        have hs := HB1.size
        have NX : Hid (Sofar o.isSome (o.getD (0, 0, 0)) (zs.drop (j + 1)) R) := by
          rcases HE.out with ⟨_, h⟩ | ⟨h, _⟩
          · unfold Hid
            cases o with
            | none => exact Or.inr ⟨rfl, rfl, by rw [← h, sumL_no O.out]⟩
            | some x => exact Or.inl ⟨rfl, by rw [← h, sumL_on O.out]; rfl⟩
          · exact Bool.noConfusion h
        obtain ⟨⟨x, y, z⟩, hx⟩ : ∃ x, x = o.getD (0, 0, 0) := ⟨_, rfl⟩
        obtain ⟨g, hg⟩ : ∃ g, g = o.isSome := ⟨_, rfl⟩
        rw [show vo o = .tuple #[.agg #[.int .i64 x, .int .i64 y, .int .i64 z], .bool g] by rw [hg]; unfold vo; rw [← hx]; rfl]
        rw [← hx, ← hg] at NX
        have k_r : Bx3 (((w1.setCell ⟨w.heap.size + 1, 0, none⟩ (.int .i64 x)).setCell ⟨w.heap.size + 1, 1, none⟩ (.int .i64 y)).setCell ⟨w.heap.size + 1, 2, none⟩ (.int .i64 z)) w.heap.size 0 0 0 := ((q_r.beside _ _ (by omega)).beside _ _ (by omega)).beside _ _ (by omega)
        have k_s : Bx3 (((w1.setCell ⟨w.heap.size + 1, 0, none⟩ (.int .i64 x)).setCell ⟨w.heap.size + 1, 1, none⟩ (.int .i64 y)).setCell ⟨w.heap.size + 1, 2, none⟩ (.int .i64 z)) (w.heap.size + 1) x y z := q_s.put _ _ _
        have k_b : Below w.heap.size w (((w1.setCell ⟨w.heap.size + 1, 0, none⟩ (.int .i64 x)).setCell ⟨w.heap.size + 1, 1, none⟩ (.int .i64 y)).setCell ⟨w.heap.size + 1, 2, none⟩ (.int .i64 z)) := by go_grown
        clear HE O q_r q_s hx hg
        go_wp2
        go_roundw
        case rel => exact ⟨j + 1, g, (x, y, z), by go_num, by omega, rfl, NX, k_r, k_s, k_b⟩
        case measure => simp [intOf]; omega
    · obtain rfl : j = zs.length := by omega
      have X : Hid (vo R = .tuple #[.agg #[.int .i64 sc, .int .i64 sm, .int .i64 sh], .bool k]) := by
        unfold Hid
        rcases HO.out with ⟨rfl, h⟩ | ⟨rfl, h, rfl⟩
        · rw [List.drop_length] at h; rw [← h]; rfl
        · obtain ⟨rfl, rfl, rfl⟩ : sc = 0 ∧ sm = 0 ∧ sh = 0 := by injection h with a b; injection b with b c; exact ⟨a, b, c⟩
          rfl
      clear HO cj jl
      go_wp2
      refine bodyPost_ret (v := .tuple #[.agg #[.int .i64 sc, .int .i64 sm, .int .i64 sh], .bool k]) (by simp [results, Tryd.results50, go_sem, r0, r1, r2]) rfl ?_
      exact ⟨by rw [X.out], by go_grown⟩

end Go.Proofs.YtaeejemknmjglaaDoor.Sp
