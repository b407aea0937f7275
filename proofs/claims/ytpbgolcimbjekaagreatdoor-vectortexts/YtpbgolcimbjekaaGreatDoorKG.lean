/-
  The text of a right vector means that vector: plain facts on lists of letters. No program is spoken of.
-/
import Derived.Test.YtpbgolcimbjekaaGreatDoorKE
import Derived.Test.YtpbgolcimbjekaaGreatDoorVN
namespace Go.Proofs.YtpbgolcimbjekaaGreatDoor
open Go.RowKit

/-- Neither a comma nor an equals sign. -/
def okc (c : UInt8) : Bool := decide (c ≠ 44 ∧ c ≠ 61)
theorem okc_D {c : UInt8} (h : isD c = true) : okc c = true := by
  unfold isD at h
  unfold okc
  have := of_decide_eq_true h
  refine decide_eq_true ⟨?_, ?_⟩
  · rintro rfl; simp at this
  · rintro rfl; simp at this
theorem okc_dec (a : Nat) : ∀ c ∈ dec a, okc c = true := fun c h => okc_D (dec_digits a c h)
theorem okc_decs (t : Nat) (h : t < 10) : ∀ c ∈ decs.getD t [], okc c = true := by
  match t, h with
  | 0, _ => decide
  | 1, _ => decide
  | 2, _ => decide
  | 3, _ => decide
  | 4, _ => decide
  | 5, _ => decide
  | 6, _ => decide
  | 7, _ => decide
  | 8, _ => decide
  | 9, _ => decide
theorem okc_bins (t : Nat) (h : t < 6) : ∀ c ∈ bins.getD t [], okc c = true := by
  match t, h with
  | 0, _ => decide
  | 1, _ => decide
  | 2, _ => decide
  | 3, _ => decide
  | 4, _ => decide
  | 5, _ => decide
theorem okc_app {a b : List UInt8} (ha : ∀ c ∈ a, okc c = true) (hb : ∀ c ∈ b, okc c = true) : ∀ c ∈ a ++ b, okc c = true := fun c h => (List.mem_append.1 h).elim (ha c) (hb c)
theorem okc_text (a : Nat) : ∀ c ∈ textL a, okc c = true := by
  unfold textL
  split
  · split
    · decide
    · exact okc_app (okc_dec _) (okc_decs _ (by have := sh_le 1000 9 a 0; omega))
  · simp
theorem okc_bin (a : Nat) : ∀ c ∈ binL a, okc c = true := by
  unfold binL
  split
  · split
    · exact okc_text a
    · split
      · exact okc_text a
      · exact okc_app (okc_dec _) (okc_bins _ (by have := sh_le 1024 6 (a / 1000000000) 0; omega))
  · simp
theorem okc_amt (r : Nat) (n : Int) : ∀ c ∈ amtL r n, okc c = true := by
  unfold amtL
  split
  · exact okc_text _
  · exact okc_bin _

/-! ### Cutting -/
theorem cutn_none {d : UInt8} : ∀ l : List UInt8, (∀ c ∈ l, c ≠ d) → cutAt d l = (l, none)
  | [], _ => rfl
  | c :: r, h => by rw [cutAt, if_neg (h c (by simp)), cutn_none r (fun x hx => h x (by simp [hx]))]
theorem cut_at {d : UInt8} : ∀ (l q : List UInt8), (∀ c ∈ l, c ≠ d) → cutAt d (l ++ d :: q) = (l, some q)
  | [], q, _ => by rw [List.nil_append, cutAt, if_pos rfl]
  | c :: r, q, h => by rw [List.cons_append, cutAt, if_neg (h c (by simp)), cut_at r q (fun x hx => h x (by simp [hx]))]
theorem segs_plain {l : List UInt8} (h : ∀ c ∈ l, c ≠ 44) : segs l = [l] := by
  have e := cutn_none l h
  exact segs_none (by rw [e]) (by rw [e])
theorem segs_more {l q : List UInt8} (h : ∀ c ∈ l, c ≠ 44) : segs (l ++ 44 :: q) = l :: segs q := by
  have e := cut_at l q h
  exact segs_some (by rw [e]) (by rw [e])

/-! ### A resource's text -/
def nmL (r : Nat) : List UInt8 := if r = 0 then cpuL else if r = 1 then memL else hugL
def partL (r : Nat) (n : Int) : List UInt8 := nmL r ++ 61 :: amtL r n
theorem part_44 {r : Nat} (hr : r < 3) (n : Int) : ∀ c ∈ partL r n, c ≠ 44 := by
  intro c hc
  unfold partL at hc
  rcases List.mem_append.1 hc with h | h
  · have : ∀ r : Nat, r < 3 → ∀ c ∈ nmL r, c ≠ 44 := by decide
    exact this r hr c h
  · rcases List.mem_cons.1 h with rfl | h
    · decide
    · have := of_decide_eq_true (okc_amt r n c h)
      exact this.1
theorem part_cut {r : Nat} (hr : r < 3) (n : Int) : cutAt 61 (partL r n) = (nmL r, some (amtL r n)) := by
  have : ∀ r : Nat, r < 3 → ∀ c ∈ nmL r, c ≠ 61 := by decide
  exact cut_at _ _ (this r hr)
theorem res_nm {r : Nat} (hr : r < 3) : resL (nmL r) = some r := by
  have : ∀ r : Nat, r < 3 → resL (nmL r) = some r := by decide
  exact this r hr
/-- What is right of a resource. -/
def rightAt (r : Nat) (n : Int) : Prop := 0 ≤ n ∧ n ≤ bnd r ∧ (r = 2 → n % 2097152 = 0)
theorem num_amt {r : Nat} {n : Int} (h : rightAt r n) : numL r (amtL r n) = (n, 0) := by
  obtain ⟨n0, n1, n2⟩ := h
  obtain ⟨k, rfl⟩ : ∃ k : Nat, n = (k : Int) := ⟨n.toNat, by omega⟩
  have k1 : k ≤ bnd r := by omega
  have e1 : 1 < each r := by unfold each; split <;> omega
  have b1 : bnd r ≤ 1125899906842624 := by unfold bnd; split <;> omega
  have ke : k * each r ≤ most := by
    unfold bnd at k1
    unfold each most
    split
    · rename_i e
      rw [if_pos e] at k1
      omega
    · rename_i e
      rw [if_neg e] at k1
      omega
  have hp : parseL (amtL r k) = (k * each r, 0) := by
    unfold amtL
    unfold each at ke ⊢
    by_cases e : r = 0
    · rw [if_pos e] at ke ⊢
      rw [if_pos e]
      simpa using (text_back _ ke).1
    · rw [if_neg e] at ke ⊢
      rw [if_neg e]
      simpa using bin_back _ ke
  have hc : cntL r (k * each r) = ((k : Int), 0) := by
    unfold cntL
    rw [up_mul e1, if_pos (by omega)]
  unfold numL numP
  rw [hp]
  simp only [hc]
  rw [if_neg (by simp), if_neg (by simp), if_neg (by omega), if_neg]
  intro h
  exact h.2 (n2 h.1)

/-- The parts of a vector's text, from a resource on. -/
def pts (v : Int × Int × Int) : List (List UInt8) := (if v.1 = 0 then [] else [partL 0 v.1]) ++ ((if v.2.1 = 0 then [] else [partL 1 v.2.1]) ++ (if v.2.2 = 0 then [] else [partL 2 v.2.2]))
def joinL : List (List UInt8) → List UInt8
  | [] => []
  | [p] => p
  | p :: q :: r => p ++ 44 :: joinL (q :: r)
/-- A right vector's text. -/
def textV (v : Int × Int × Int) : List UInt8 := if Rt v.1 v.2.1 v.2.2 then (if pts v = [] then [45] else joinL (pts v)) else []

theorem segs_join : ∀ ps : List (List UInt8), ps ≠ [] → (∀ p ∈ ps, ∀ c ∈ p, c ≠ 44) → segs (joinL ps) = ps
  | [], h, _ => absurd rfl h
  | [p], _, h => segs_plain (h p (by simp))
  | p :: q :: r, _, h => by
    rw [joinL, segs_more (h p (by simp)), segs_join (q :: r) (by simp) (fun x hx => h x (by simp [hx]))]
theorem pts_44 (v : Int × Int × Int) : ∀ p ∈ pts v, ∀ c ∈ p, c ≠ 44 := by
  intro p hp
  unfold pts at hp
  rcases List.mem_append.1 hp with h | h
  · split at h
    · simp at h
    · rw [List.mem_singleton.1 h]; exact part_44 (by omega) _
  · rcases List.mem_append.1 h with h | h
    · split at h
      · simp at h
      · rw [List.mem_singleton.1 h]; exact part_44 (by omega) _
    · split at h
      · simp at h
      · rw [List.mem_singleton.1 h]; exact part_44 (by omega) _
theorem runs_part {v : Int × Int × Int} {t : Bool × Bool × Bool} {r : Nat} (hr : r < 3) {n : Int} (hn : rightAt r n) (ht : thr t r = false) (ps : List (List UInt8)) : runs v t (partL r n :: ps) = runs (withv v.1 v.2.1 v.2.2 r n) (sett t r) ps := by
  have e := part_cut hr n
  exact runs_on (by rw [e]) (by rw [e]; exact res_nm hr) ht (num_amt hn)
theorem right_at {c m h : Int} (k : Rt c m h) : rightAt 0 c ∧ rightAt 1 m ∧ rightAt 2 h := by
  obtain ⟨a, b, c, d, e, f, g⟩ := k
  refine ⟨⟨a, by simpa [bnd] using b, by omega⟩, ⟨c, by simpa [bnd] using d, by omega⟩, ⟨e, by simpa [bnd] using f, fun _ => g⟩⟩
theorem runs_pts {c m h : Int} (k : Rt c m h) : runs (0, 0, 0) (false, false, false) (pts (c, m, h)) = ((c, m, h), 0) := by
  obtain ⟨k0, k1, k2⟩ := right_at k
  unfold pts
  have s2 : ∀ (x y : Int) (a b : Bool), runs (x, y, 0) (a, b, false) (if h = 0 then [] else [partL 2 h]) = ((x, y, h), 0) := by
    intro x y a b
    by_cases e : h = 0
    · rw [if_pos e, e]; rfl
    · rw [if_neg e, runs_part (by omega) k2 rfl]; rfl
  have s1 : ∀ (x : Int) (a : Bool), runs (x, 0, 0) (a, false, false) ((if m = 0 then [] else [partL 1 m]) ++ (if h = 0 then [] else [partL 2 h])) = ((x, m, h), 0) := by
    intro x a
    by_cases e : m = 0
    · rw [if_pos e, e, List.nil_append]; exact s2 _ _ _ _
    · rw [if_neg e, List.cons_append, List.nil_append, runs_part (by omega) k1 rfl]; exact s2 _ _ _ _
  by_cases e : c = 0
  · simp only [e, if_pos, List.nil_append]; exact s1 _ _
  · simp only [e, if_false, List.cons_append, List.nil_append]
    rw [runs_part (by omega) k0 rfl]; exact s1 _ _
theorem part_len {r : Nat} (n : Int) : 2 ≤ (partL r n).length := by
  unfold partL nmL
  split
  · simp [cpuL]
  · split
    · simp [memL]
    · simp [hugL]
theorem pts_len (v : Int × Int × Int) : ∀ p ∈ pts v, 2 ≤ p.length := by
  intro p hp
  unfold pts at hp
  rcases List.mem_append.1 hp with h | h
  · split at h
    · simp at h
    · rw [List.mem_singleton.1 h]; exact part_len _
  · rcases List.mem_append.1 h with h | h
    · split at h
      · simp at h
      · rw [List.mem_singleton.1 h]; exact part_len _
    · split at h
      · simp at h
      · rw [List.mem_singleton.1 h]; exact part_len _
theorem join_len : ∀ ps : List (List UInt8), ps ≠ [] → (∀ p ∈ ps, 2 ≤ p.length) → 2 ≤ (joinL ps).length
  | [], h, _ => absurd rfl h
  | [p], _, h => h p (by simp)
  | p :: q :: r, _, h => by
    have := h p (by simp)
    rw [joinL]; simp; omega
theorem text_vec {c m h : Int} (k : Rt c m h) : parseV (textV (c, m, h)) = ((c, m, h), 0) := by
  unfold textV
  rw [if_pos k]
  by_cases e : pts (c, m, h) = []
  · rw [if_pos e]
    have := runs_pts k
    rw [e] at this
    have e2 : (c, m, h) = ((0, 0, 0) : Int × Int × Int) := by
      have := congrArg Prod.fst this
      exact this.symm
    rw [e2]
    rfl
  · rw [if_neg e]
    have l := join_len _ e (pts_len (c, m, h))
    unfold parseV
    rw [if_neg (by intro h; rw [h] at l; simp at l), if_neg (by intro h; rw [h] at l; simp at l), segs_join _ e (pts_44 _)]
    exact runs_pts k
theorem text_wrong {c m h : Int} (k : ¬ Rt c m h) : textV (c, m, h) = [] := if_neg k

end Go.Proofs.YtpbgolcimbjekaaGreatDoor
