/-
  The law HintTells at this program: which masks are enough, the hint, also with nodes that are held, and how it is spread, are the document's. Conditions: none on the argument.
-/
import Derived.Test.YtkjaiahdkolmdaaHT
import Derived.Test.YtkjaiahdkolmdaaHP
import Derived.Test.YtkjaiahdkolmdaaHQ
import Derived.Deep.CutRange
import Derived.Deep.DeepCutAuto
import Derived.Deep.CutBlock
namespace Go.Proofs.Ytkjaiahdkolmdaa.Mk
open Go.RowKit

theorem yld16 {ops : Array Oper} {S : World → Prop} {op : Oper} {a : Act} {p : Nat} {F : Nat → Nat → Int} (hw : Region.wanted op (yielded ops a.tmps) = true) (x : Operand) (ho : op.op = .load 24 x)
    (hx : a.eval x = .pointer (some ⟨p, 0, none⟩)) (hS : ∀ w, S w → w.rangeAt p 0 (frL F)) : YieldsIf Try.prog ops S op (frV F) a :=
  yieldsIf_load_mid hw 24 x ho p 0 hx (frL F) _ hS Try.underlying24 rfl (by kernel_rfl)
/-- One kind alone. -/
def oneF (F : Nat → Nat → Int) : Nat → Nat → Int := fun k i => if k = 0 then F 0 i else 0
def oneK (K : Nat → Int) : Nat → Int := fun i => if i = 0 then K 0 else 0
theorem one_ok (F : Nat → Nat → Int) (K : Nat → Int) : okB (oneF F) (oneK K) = (okN (K 0) && okS (F 0)) := by
  have e : (okN (oneK K 1) && okS (oneF F 1)) = true := by
    have h : okS (oneF F 1) = true := okS_of fun i _ => ⟨Int.le_refl _, by show (0 : Int) ≤ 1073741824; omega⟩
    rw [h]
    rfl
  unfold okB
  rw [e, Bool.and_true]
  rfl
theorem sumL_zero : ∀ l : List (Fin 8), sumL (fun _ => 0) l = 0
  | [] => rfl
  | x :: l => by
    have := sumL_zero l
    have e : sumL (fun _ => 0) (x :: l) = 0 + sumL (fun _ => 0) l := by simp [sumL]
    rw [e, this]
    rfl
theorem one_en (F : Nat → Nat → Int) (K : Nat → Int) (b : Nat) : enB (oneF F) (oneK K) b = decide (K 0 ≤ sumN (F 0) b) := by
  have e : decide (oneK K 1 ≤ sumN (oneF F 1) b) = true := decide_eq_true (by
    show (0 : Int) ≤ sumL (fun _ => 0) (nd b)
    rw [sumL_zero]
    exact Int.le_refl _)
  unfold enB
  rw [e, Bool.and_true]
  rfl
theorem over_cond (F : Nat → Nat → Int) (K : Nat → Int) (m : Int) : overB (F 0) m (K 0) = (okB (oneF F) (oneK K) && (okM m && enB (oneF F) (oneK K) (low m))) := by
  rw [one_ok, one_en]
  unfold overB rightO
  cases hS : okS (F 0) with
  | false => rw [Bool.and_false]; rfl
  | true =>
    cases hN : okN (K 0) with
    | false => rw [Bool.and_false]; rfl
    | true =>
      have hn := okN_yes hN
      rw [remS_end hS (low m) hn.1]
      have e : decide (max 0 (K 0 - sumN (F 0) (low m)) ≤ 0) = decide (K 0 ≤ sumN (F 0) (low m)) := decide_eq_decide.2 (by omega)
      rw [e]
      cases okM m <;> rfl
theorem over_right {F : Nat → Nat → Int} {K : Nat → Int} {m : Int} (h : overB (F 0) m (K 0) = true) : okS (F 0) = true ∧ (0 ≤ K 0 ∧ K 0 ≤ 1073741824) ∧ overF (F 0) m (K 0) = ovS (F 0) (low m) (K 0) := by
  refine ⟨?_, ?_, by unfold overF; rw [if_pos h]⟩
  · unfold overB rightO at h
    simp only [Bool.and_eq_true] at h
    exact h.1.1
  · unfold overB rightO at h
    simp only [Bool.and_eq_true] at h
    exact okN_yes h.1.2.2
theorem over_wrong {F : Nat → Nat → Int} {K : Nat → Int} {m : Int} (h : overB (F 0) m (K 0) = false) : overF (F 0) m (K 0) = nought := by unfold overF; rw [h]; rfl

/-- With these nodes held. -/
def uB (held : Int) (x : Nat) : Bool := okM held && underB (low held) x
theorem comes_zero {F : Nat → Nat → Int} {K : Nat → Int} {nodes : Int} (h : okB F K = true) (n0 : 0 ≤ nodes) (n8 : nodes ≤ 8) : comes (rightH F K nodes 0) F K nodes 0 = (0 :: fullM nodes.toNat).filter (enB F K) := by
  have hR : rightH F K nodes 0 = true := by
    unfold rightH
    rw [h, show okK nodes = true from decide_eq_true ⟨n0, n8⟩]
    rfl
  unfold comes
  rw [if_pos hR, show (0 : Int).toNat = 0 from rfl]
  unfold hintL
  rw [isH_fun]
theorem comes_held {F : Nat → Nat → Int} {K : Nat → Int} {nodes held : Int} (h : okB F K = true) (n0 : 0 ≤ nodes) (n8 : nodes ≤ 8) :
    comes (rightH F K nodes held) F K nodes held = (comes (rightH F K nodes 0) F K nodes 0).filter (uB held) := by
  rw [comes_zero h n0 n8, List.filter_filter]
  have hK : okK nodes = true := decide_eq_true ⟨n0, n8⟩
  unfold comes rightH
  rw [h, hK]
  by_cases hm : 0 ≤ held ∧ held ≤ 255
  · have hM : okM held = true := decide_eq_true hm
    have e : held.toNat = low held := by unfold low; omega
    rw [hM, if_pos (by decide), e]
    unfold hintL
    refine List.filter_congr fun x _ => ?_
    unfold isH uB
    rw [hM, Bool.true_and]
  · have hM : okM held = false := decide_eq_false hm
    rw [hM, if_neg (by decide)]
    refine (List.filter_eq_nil_iff.2 fun x _ => ?_).symm
    unfold uB
    rw [hM]
    simp
theorem comes_not {F : Nat → Nat → Int} {K : Nat → Int} {nodes held : Int} (h : okB F K = false ∨ ¬ (0 ≤ nodes ∧ nodes ≤ 8)) : comes (rightH F K nodes held) F K nodes held = [] := by
  unfold comes rightH
  rcases h with h | h
  · rw [h, if_neg (by simp)]
  · rw [show okK nodes = false from decide_eq_false h, if_neg (by simp)]
theorem comes_lt {F : Nat → Nat → Int} {K : Nat → Int} {nodes : Int} (h : okB F K = true) (n0 : 0 ≤ nodes) (n8 : nodes ≤ 8) : ∀ x ∈ comes (rightH F K nodes 0) F K nodes 0, x < 256 := by
  rw [comes_zero h n0 n8]
  intro x hx
  rcases List.mem_cons.1 (List.mem_filter.1 hx).1 with rfl | hx
  · omega
  · exact fullM_lt ⟨nodes.toNat, by omega⟩ x hx
/-- Among the first ones: is each node of a in b? -/
def undT (a b k : Nat) : Bool := (List.range k).all fun j => !tb a j || tb b j
theorem undT_succ (a b k : Nat) : undT a b (k + 1) = (undT a b k && (!tb a k || tb b k)) := by
  unfold undT
  rw [List.range_succ, List.all_append]
  simp
theorem und_is {a b : Nat} (hb : b < 256) : undT a b 8 = underB a b := by
  have e : underB a b = true ↔ undT a b 8 = true := by
    unfold underB undT
    rw [beq_iff_eq, List.all_eq_true]
    have hs : ∀ j, (255 - b).testBit j = (decide (j < 8) && !b.testBit j) := fun j => by
      rw [show 255 - b = 2 ^ 8 - (b + 1) by omega]
      exact Nat.testBit_two_pow_sub_succ (n := 8) hb j
    constructor
    · intro h j hj
      have hj : j < 8 := by simpa using hj
      have := congrArg (·.testBit j) h
      simp only [Nat.testBit_and, hs, Nat.zero_testBit] at this
      unfold tb
      revert this
      cases a.testBit j <;> cases b.testBit j <;> simp [hj]
    · intro h
      refine Nat.eq_of_testBit_eq fun j => ?_
      rw [Nat.testBit_and, hs, Nat.zero_testBit]
      by_cases hj : j < 8
      · have := h j (by simpa using hj)
        unfold tb at this
        revert this
        cases a.testBit j <;> cases b.testBit j <;> simp [hj]
      · simp [hj]
  cases h1 : underB a b <;> cases h2 : undT a b 8 <;> simp_all
theorem any_snoc (l : List Nat) (x : Nat) : anyL (l ++ [x]) = true ∧ headI (l ++ [x]) = if anyL l = true then headI l else (x : Int) := by
  cases l with
  | nil => exact ⟨rfl, rfl⟩
  | cons y l => exact ⟨rfl, rfl⟩
theorem ixS (b : Nat) {i : Nat} (h : i < 8) (w : World) : Sem.run Try.prog (Instr.index 39 (setV b) (.int .i64 (i : Int))) w = .ok (.bool (tb b i)) w := by
  rcases (show i = 0 ∨ i = 1 ∨ i = 2 ∨ i = 3 ∨ i = 4 ∨ i = 5 ∨ i = 6 ∨ i = 7 by omega) with rfl | rfl | rfl | rfl | rfl | rfl | rfl | rfl <;> kernel_rfl

set_option maxHeartbeats 8000000 in
set_option maxRecDepth 100000 in
theorem tells_is (F : Nat → Nat → Int) (nodes held mask : Int) (K : Nat → Int) (most : Int) (w : World) :
    Calls Try.prog 3 #[.agg #[.int .i64 (F 0 0), .int .i64 (F 0 1), .int .i64 (F 0 2), .int .i64 (F 0 3), .int .i64 (F 0 4), .int .i64 (F 0 5), .int .i64 (F 0 6), .int .i64 (F 0 7), .int .i64 (F 1 0), .int .i64 (F 1 1), .int .i64 (F 1 2), .int .i64 (F 1 3), .int .i64 (F 1 4), .int .i64 (F 1 5), .int .i64 (F 1 6), .int .i64 (F 1 7), .int .i64 nodes, .int .i64 held, .int .i64 mask, .int .i64 (K 0), .int .i64 (K 1), .int .i64 most]] w fun e w' => e = .returned (.bool true) ∧ Below w.heap.size w w' := by
  obtain ⟨i0, hi, hz0, hz1, hz2⟩ := info_parts intInfo
  obtain ⟨k, hk, k300⟩ : ∃ k : Nat, max 0 (min most 300) = (k : Int) ∧ k ≤ 300 := ⟨(max 0 (min most 300)).toNat, by omega, by omega⟩
  have HK : Hid (max 0 (min most 300) = (k : Int) ∧ True) := ⟨hk, trivial⟩
  have EN : Hid (∀ w, Calls Try.prog 15 #[frV F, .int .i64 mask, ndV K] w fun e w' => e = .returned (.bool (enoughB F K mask)) ∧ Below w.heap.size w w') := enough_is F K mask
  have OF : Hid (∀ w, Calls Try.prog 13 #[.int .i64 mask] w fun e w' => e = .returned (setV (low mask)) ∧ Below w.heap.size w w') := rof_v mask
  have C1 : Hid (∀ w, Calls Try.prog 7 #[frV F, .int .i64 nodes, ndV K] w fun e w' => e = .returned (.tuple #[.int .i64 (headI (comes (rightH F K nodes 0) F K nodes 0)), .bool (anyL (comes (rightH F K nodes 0) F K nodes 0))]) ∧ Below w.heap.size w w') := hint_is F K nodes
  have C2 : Hid (∀ w, Calls Try.prog 8 #[frV F, .int .i64 nodes, .int .i64 held, ndV K] w fun e w' => e = .returned (.tuple #[.int .i64 (headI (comes (rightH F K nodes held) F K nodes held)), .bool (anyL (comes (rightH F K nodes held) F K nodes held))]) ∧ Below w.heap.size w w') := with_hint F K nodes held
  have C3 : Hid (∀ w, Calls Try.prog 9 #[.agg #[.int .i64 (F 0 0), .int .i64 (F 0 1), .int .i64 (F 0 2), .int .i64 (F 0 3), .int .i64 (F 0 4), .int .i64 (F 0 5), .int .i64 (F 0 6), .int .i64 (F 0 7)], .int .i64 mask, .int .i64 (K 0)] w fun e w' => e = .returned (.tuple #[spV (overF (F 0) mask (K 0)), .bool (overB (F 0) mask (K 0))]) ∧ Below w.heap.size w w') := over_is (F 0) mask (K 0)
  have C4 : Hid (∀ w, Calls Try.prog 10 #[frV F, .int .i64 nodes, ndV K, .int .i64 (k : Int)] w fun e W' => ∃ v, e = .returned v ∧
      W'.ownsRow w.heap.size 3 1 v ((comes (rightH F K nodes 0) F K nodes 0).take k).length (((comes (rightH F K nodes 0) F K nodes 0).take k).map encM) ∧ Below w.heap.size w W') := lawhints_is F K nodes k k300
  have C5 : Hid (∀ w, Calls Try.prog 11 #[frV F, ndV K] w fun e w' => e = .returned (.bool (okB F K)) ∧ Below w.heap.size w w') := rfits_is F K
  have C6 : Hid (∀ w, Calls Try.prog 11 #[.agg #[.int .i64 (F 0 0), .int .i64 (F 0 1), .int .i64 (F 0 2), .int .i64 (F 0 3), .int .i64 (F 0 4), .int .i64 (F 0 5), .int .i64 (F 0 6), .int .i64 (F 0 7), .int .i64 0, .int .i64 0, .int .i64 0, .int .i64 0, .int .i64 0, .int .i64 0, .int .i64 0, .int .i64 0], .agg #[.int .i64 (K 0), .int .i64 0]] w fun e w' => e = .returned (.bool (okB (oneF F) (oneK K))) ∧ Below w.heap.size w w') := rfits_is (oneF F) (oneK K)
  have E1 : Hid (okB (oneF F) (oneK K) = true → ∀ w, Calls Try.prog 12 #[.agg #[.int .i64 (F 0 0), .int .i64 (F 0 1), .int .i64 (F 0 2), .int .i64 (F 0 3), .int .i64 (F 0 4), .int .i64 (F 0 5), .int .i64 (F 0 6), .int .i64 (F 0 7), .int .i64 0, .int .i64 0, .int .i64 0, .int .i64 0, .int .i64 0, .int .i64 0, .int .i64 0, .int .i64 0], setV (low mask), .agg #[.int .i64 (K 0), .int .i64 0]] w fun e w' => e = .returned (.bool (enB (oneF F) (oneK K) (low mask))) ∧ Below w.heap.size w w') := fun h w => renough_is (oneF F) (oneK K) (low mask) h w
  have E2 : Hid (okB F K = true → ∀ w, Calls Try.prog 12 #[frV F, setV (low mask), ndV K] w fun e w' => e = .returned (.bool (enB F K (low mask))) ∧ Below w.heap.size w w') := fun h w => renough_is F K (low mask) h w
  have HOC : Hid (overB (F 0) mask (K 0) = (okB (oneF F) (oneK K) && (okM mask && enB (oneF F) (oneK K) (low mask))) ∧ True) := ⟨over_cond F K mask, trivial⟩
  have E3 : Hid (overB (F 0) mask (K 0) = true → ∀ w, Calls Try.prog 14 #[.agg #[.int .i64 (F 0 0), .int .i64 (F 0 1), .int .i64 (F 0 2), .int .i64 (F 0 3), .int .i64 (F 0 4), .int .i64 (F 0 5), .int .i64 (F 0 6), .int .i64 (F 0 7)], setV (low mask), .int .i64 (K 0)] w fun e w' => e = .returned (spV (overF (F 0) mask (K 0))) ∧ Below w.heap.size w w') := fun h w => by
    obtain ⟨h1, h2, h3⟩ := over_right h
    rw [h3]
    exact rover_is (F 0) (low mask) (K 0) h1 h2 w
  have HW0 : Hid ((overB (F 0) mask (K 0) = false → overF (F 0) mask (K 0) = nought) ∧ True) := ⟨over_wrong, trivial⟩
  have HEN : Hid (enoughB F K mask = (okB F K && (okM mask && enB F K (low mask))) ∧ True) := ⟨rfl, trivial⟩
  have SM : Hid (∀ (f : Nat → Int) (w : World), Sem.run Try.prog (Op.equalIn 10000 23 (spV f) (spV f)) w = .ok true w) := fun f w => by
    have := sp_eq 9998 f f w
    rw [show eqP f f = true by simp [eqP]] at this
    exact this
  have PM : Hid ((okM mask = true ↔ 0 ≤ mask ∧ mask ≤ 255) ∧ True) := ⟨⟨fun h => of_decide_eq_true h, fun h => decide_eq_true h⟩, trivial⟩
  have HPN : Hid ((okB F K = false ∨ ¬ (0 ≤ nodes ∧ nodes ≤ 8) → comes (rightH F K nodes 0) F K nodes 0 = [] ∧ comes (rightH F K nodes held) F K nodes held = []) ∧ True) := ⟨fun h => ⟨comes_not h, comes_not h⟩, trivial⟩
  have HPY : Hid ((okB F K = true → 0 ≤ nodes → nodes ≤ 8 → comes (rightH F K nodes held) F K nodes held = (comes (rightH F K nodes 0) F K nodes 0).filter (uB held) ∧ ∀ x ∈ comes (rightH F K nodes 0) F K nodes 0, x < 256) ∧ True) := ⟨fun h n0 n8 => ⟨comes_held h n0 n8, comes_lt h n0 n8⟩, trivial⟩
  have C19 : Hid (okB F K = true → 0 ≤ nodes → nodes ≤ 8 → ∀ w, Calls Try.prog 16 #[frV F, .int .i64 nodes, ndV K] w fun e w' => ∃ v, e = .returned v ∧ RdI w' v ((comes (rightH F K nodes 0) F K nodes 0).map fun x : Nat => (x : Int)) ∧ Below w.heap.size w w') := fun h n0 n8 w => by
    have := rhints_is F K nodes.toNat (by omega) h w
    rw [show ((nodes.toNat : Nat) : Int) = nodes by omega, ← comes_zero h n0 n8] at this
    exact this.mono fun e w' ⟨v, he, own, hb⟩ => ⟨v, he, own_read (by rw [List.map_map]; exact own), hb⟩
  obtain ⟨C, hC⟩ : ∃ C, C = comes (rightH F K nodes 0) F K nodes 0 := ⟨_, rfl⟩
  rw [← hC] at C1 C4 HPN HPY C19
  obtain ⟨D, hD⟩ : ∃ C, C = comes (rightH F K nodes held) F K nodes held := ⟨_, rfl⟩
  rw [← hD] at C2 HPN HPY
  clear hC hD hk
  generalize overF (F 0) mask (K 0) = sv at *
  generalize overB (F 0) mask (K 0) = fb at *
  generalize enoughB F K mask = eb at *
  generalize low mask = b at *
  generalize enB F K b = e2 at *
  generalize enB (oneF F) (oneK K) b = e1 at *
  generalize okB (oneF F) (oneK K) = one at *
  generalize okB F K = right at *
  generalize okM mask = om at *
  have q0 : Cs (w.alloc (.cells #[.int .i64 (F 0 0), .int .i64 (F 0 1), .int .i64 (F 0 2), .int .i64 (F 0 3), .int .i64 (F 0 4), .int .i64 (F 0 5), .int .i64 (F 0 6), .int .i64 (F 0 7), .int .i64 (F 1 0), .int .i64 (F 1 1), .int .i64 (F 1 2), .int .i64 (F 1 3), .int .i64 (F 1 4), .int .i64 (F 1 5), .int .i64 (F 1 6), .int .i64 (F 1 7), .int .i64 nodes, .int .i64 held, .int .i64 mask, .int .i64 (K 0), .int .i64 (K 1), .int .i64 most] 27)) w.heap.size [.int .i64 (F 0 0), .int .i64 (F 0 1), .int .i64 (F 0 2), .int .i64 (F 0 3), .int .i64 (F 0 4), .int .i64 (F 0 5), .int .i64 (F 0 6), .int .i64 (F 0 7), .int .i64 (F 1 0), .int .i64 (F 1 1), .int .i64 (F 1 2), .int .i64 (F 1 3), .int .i64 (F 1 4), .int .i64 (F 1 5), .int .i64 (F 1 6), .int .i64 (F 1 7), .int .i64 nodes, .int .i64 held, .int .i64 mask, .int .i64 (K 0), .int .i64 (K 1), .int .i64 most] := Cs.new _ _ _ _ rfl
  have g0 : Below w.heap.size w (w.alloc (.cells #[.int .i64 (F 0 0), .int .i64 (F 0 1), .int .i64 (F 0 2), .int .i64 (F 0 3), .int .i64 (F 0 4), .int .i64 (F 0 5), .int .i64 (F 0 6), .int .i64 (F 0 7), .int .i64 (F 1 0), .int .i64 (F 1 1), .int .i64 (F 1 2), .int .i64 (F 1 3), .int .i64 (F 1 4), .int .i64 (F 1 5), .int .i64 (F 1 6), .int .i64 (F 1 7), .int .i64 nodes, .int .i64 held, .int .i64 mask, .int .i64 (K 0), .int .i64 (K 1), .int .i64 most] 27)) := by go_grown
  go_enter Try.func3, Try.ntmps3
  go_wp2_with (fail)
  obtain ⟨b1, hb1⟩ : ∃ b1, b1 = w.heap.size := ⟨_, rfl⟩
  have ep : Value.pointer (some ⟨w.heap.size, 0, none⟩) = .pointer (some ⟨b1, 0, none⟩) := by rw [hb1]
  have q0' : Cs (w.alloc (.cells #[.int .i64 (F 0 0), .int .i64 (F 0 1), .int .i64 (F 0 2), .int .i64 (F 0 3), .int .i64 (F 0 4), .int .i64 (F 0 5), .int .i64 (F 0 6), .int .i64 (F 0 7), .int .i64 (F 1 0), .int .i64 (F 1 1), .int .i64 (F 1 2), .int .i64 (F 1 3), .int .i64 (F 1 4), .int .i64 (F 1 5), .int .i64 (F 1 6), .int .i64 (F 1 7), .int .i64 nodes, .int .i64 held, .int .i64 mask, .int .i64 (K 0), .int .i64 (K 1), .int .i64 most] 27)) b1 [.int .i64 (F 0 0), .int .i64 (F 0 1), .int .i64 (F 0 2), .int .i64 (F 0 3), .int .i64 (F 0 4), .int .i64 (F 0 5), .int .i64 (F 0 6), .int .i64 (F 0 7), .int .i64 (F 1 0), .int .i64 (F 1 1), .int .i64 (F 1 2), .int .i64 (F 1 3), .int .i64 (F 1 4), .int .i64 (F 1 5), .int .i64 (F 1 6), .int .i64 (F 1 7), .int .i64 nodes, .int .i64 held, .int .i64 mask, .int .i64 (K 0), .int .i64 (K 1), .int .i64 most] := by rw [hb1]; exact q0
  rw [ep]
  clear hb1 ep q0
  refine (first_is _).mono ?_
  generalize w.alloc (.cells #[.int .i64 (F 0 0), .int .i64 (F 0 1), .int .i64 (F 0 2), .int .i64 (F 0 3), .int .i64 (F 0 4), .int .i64 (F 0 5), .int .i64 (F 0 6), .int .i64 (F 0 7), .int .i64 (F 1 0), .int .i64 (F 1 1), .int .i64 (F 1 2), .int .i64 (F 1 3), .int .i64 (F 1 4), .int .i64 (F 1 5), .int .i64 (F 1 6), .int .i64 (F 1 7), .int .i64 nodes, .int .i64 held, .int .i64 mask, .int .i64 (K 0), .int .i64 (K 1), .int .i64 most] 27) = W0 at *
  rintro e w1 ⟨rfl, hb⟩
  have q1 := Cs.later hb q0'
  have g1 := g0.trans (hb.mono g0.size)
  clear q0' g0 hb
  have c0 := q1.1 0 _ rfl
  have c1 := q1.1 1 _ rfl
  have c2 := q1.1 2 _ rfl
  have c3 := q1.1 3 _ rfl
  have c4 := q1.1 4 _ rfl
  have c5 := q1.1 5 _ rfl
  have c6 := q1.1 6 _ rfl
  have c7 := q1.1 7 _ rfl
  have c16 := q1.1 16 _ rfl
  have c17 := q1.1 17 _ rfl
  have c18 := q1.1 18 _ rfl
  have c19 := q1.1 19 _ rfl
  have c20 := q1.1 20 _ rfl
  have c21 := q1.1 21 _ rfl
  have zc := q1.2.2
  go_wp2_with (first | (refine ld16 (F := F) (case_free q1) rfl _ rfl rfl ?_) | fail)
  refine (C1.out _).mono ?_
  rintro e w2 ⟨rfl, hb⟩
  have q2 := Cs.later hb q1
  have g2 := g1.trans (hb.mono g1.size)
  clear hb q1 g1 C1 c0 c1 c2 c3 c4 c5 c6 c7 c16 c17 c18 c19 c20 c21 zc
  have c0 := q2.1 0 _ rfl
  have c1 := q2.1 1 _ rfl
  have c2 := q2.1 2 _ rfl
  have c3 := q2.1 3 _ rfl
  have c4 := q2.1 4 _ rfl
  have c5 := q2.1 5 _ rfl
  have c6 := q2.1 6 _ rfl
  have c7 := q2.1 7 _ rfl
  have c16 := q2.1 16 _ rfl
  have c17 := q2.1 17 _ rfl
  have c18 := q2.1 18 _ rfl
  have c19 := q2.1 19 _ rfl
  have c20 := q2.1 20 _ rfl
  have c21 := q2.1 21 _ rfl
  have zc := q2.2.2
  go_wp2_with (first | (refine ld16 (F := F) (case_free q2) rfl _ rfl rfl ?_) | fail)
  refine (C2.out _).mono ?_
  rintro e w3 ⟨rfl, hb⟩
  have q3 := Cs.later hb q2
  have g3 := g2.trans (hb.mono g2.size)
  clear hb q2 g2 C2 c0 c1 c2 c3 c4 c5 c6 c7 c16 c17 c18 c19 c20 c21 zc
  have c0 := q3.1 0 _ rfl
  have c1 := q3.1 1 _ rfl
  have c2 := q3.1 2 _ rfl
  have c3 := q3.1 3 _ rfl
  have c4 := q3.1 4 _ rfl
  have c5 := q3.1 5 _ rfl
  have c6 := q3.1 6 _ rfl
  have c7 := q3.1 7 _ rfl
  have c16 := q3.1 16 _ rfl
  have c17 := q3.1 17 _ rfl
  have c18 := q3.1 18 _ rfl
  have c19 := q3.1 19 _ rfl
  have c20 := q3.1 20 _ rfl
  have c21 := q3.1 21 _ rfl
  have zc := q3.2.2
  go_wp2_with (first | (refine ld16 (F := F) (case_free q3) rfl _ rfl rfl ?_) | fail)
  refine (C3.out _).mono ?_
  rintro e w4 ⟨rfl, hb⟩
  have q4 := Cs.later hb q3
  have g4 := g3.trans (hb.mono g3.size)
  clear hb q3 g3 C3 c0 c1 c2 c3 c4 c5 c6 c7 c16 c17 c18 c19 c20 c21 zc
  go_upto_region 6 with (fail)
  have p0 : Cs (w4.alloc (.cells #[.int .i64 (sv 0), .int .i64 (sv 1), .int .i64 (sv 2), .int .i64 (sv 3), .int .i64 (sv 4), .int .i64 (sv 5), .int .i64 (sv 6), .int .i64 (sv 7)] 23)) w4.heap.size (spL sv) := Cs.new _ _ _ _ rfl
  have q5 := q4.alloc (.cells #[.int .i64 (sv 0), .int .i64 (sv 1), .int .i64 (sv 2), .int .i64 (sv 3), .int .i64 (sv 4), .int .i64 (sv 5), .int .i64 (sv 6), .int .i64 (sv 7)] 23)
  have g5 := g4.alloc g4.size (.cells #[.int .i64 (sv 0), .int .i64 (sv 1), .int .i64 (sv 2), .int .i64 (sv 3), .int .i64 (sv 4), .int .i64 (sv 5), .int .i64 (sv 6), .int .i64 (sv 7)] 23)
  obtain ⟨p7, hp7⟩ : ∃ p7, p7 = w4.heap.size := ⟨_, rfl⟩
  rw [← hp7] at p0 ⊢
  clear hp7 q4 g4
  generalize w4.alloc (.cells #[.int .i64 (sv 0), .int .i64 (sv 1), .int .i64 (sv 2), .int .i64 (sv 3), .int .i64 (sv 4), .int .i64 (sv 5), .int .i64 (sv 6), .int .i64 (sv 7)] 23) = w5 at *
  have c21 := q5.1 21 _ rfl
  have zc := q5.2.2
  go_upto_region 7 with (fail)
  rw [HK.out.1]
  clear c21 zc
  have c0 := q5.1 0 _ rfl
  have c1 := q5.1 1 _ rfl
  have c2 := q5.1 2 _ rfl
  have c3 := q5.1 3 _ rfl
  have c4 := q5.1 4 _ rfl
  have c5 := q5.1 5 _ rfl
  have c6 := q5.1 6 _ rfl
  have c7 := q5.1 7 _ rfl
  have c16 := q5.1 16 _ rfl
  have c17 := q5.1 17 _ rfl
  have c18 := q5.1 18 _ rfl
  have c19 := q5.1 19 _ rfl
  have c20 := q5.1 20 _ rfl
  have c21 := q5.1 21 _ rfl
  have zc := q5.2.2
  go_wp2_with (first | (refine ld16 (F := F) (case_free q5) rfl _ rfl rfl ?_) | fail)
  refine (C4.out _).mono ?_
  rintro e w6 ⟨vl, rfl, row, hb⟩
  have q6 := Cs.later hb q5
  have g6 := g5.trans (hb.mono g5.size)
  replace p0 := Cs.later hb p0
  obtain ⟨al, cl, rfl⟩ := own_slice row
  replace row : RdI w6 (.slice al (C.take k).length cl) ((C.take k).map fun x : Nat => (x : Int)) := own_read (by rw [List.map_map]; exact row)
  obtain ⟨n1, hn1⟩ : ∃ n1, n1 = (C.take k).length := ⟨_, rfl⟩
  rw [← hn1] at row ⊢
  have HN1 : Hid (n1 = (C.take k).length ∧ True) := ⟨hn1, trivial⟩
  clear hn1
  clear hb q5 g5 C4 c0 c1 c2 c3 c4 c5 c6 c7 c16 c17 c18 c19 c20 c21 zc
  have c0 := q6.1 0 _ rfl
  have c1 := q6.1 1 _ rfl
  have c2 := q6.1 2 _ rfl
  have c3 := q6.1 3 _ rfl
  have c4 := q6.1 4 _ rfl
  have c5 := q6.1 5 _ rfl
  have c6 := q6.1 6 _ rfl
  have c7 := q6.1 7 _ rfl
  have c16 := q6.1 16 _ rfl
  have c17 := q6.1 17 _ rfl
  have c18 := q6.1 18 _ rfl
  have c19 := q6.1 19 _ rfl
  have c20 := q6.1 20 _ rfl
  have c21 := q6.1 21 _ rfl
  have zc := q6.2.2
  go_wp2_with (first | (refine ld16 (F := F) (case_free q6) rfl _ rfl rfl ?_) | fail)
  refine (C5.out _).mono ?_
  rintro e w7 ⟨rfl, hb⟩
  have q7 := Cs.later hb q6
  have g7 := g6.trans (hb.mono g6.size)
  replace p0 := Cs.later hb p0
  replace row := row.later hb
  clear hb q6 g6 C5 c0 c1 c2 c3 c4 c5 c6 c7 c16 c17 c18 c19 c20 c21 zc
  have c0 := q7.1 0 _ rfl
  have c1 := q7.1 1 _ rfl
  have c2 := q7.1 2 _ rfl
  have c3 := q7.1 3 _ rfl
  have c4 := q7.1 4 _ rfl
  have c5 := q7.1 5 _ rfl
  have c6 := q7.1 6 _ rfl
  have c7 := q7.1 7 _ rfl
  have c16 := q7.1 16 _ rfl
  have c17 := q7.1 17 _ rfl
  have c18 := q7.1 18 _ rfl
  have c19 := q7.1 19 _ rfl
  have c20 := q7.1 20 _ rfl
  have c21 := q7.1 21 _ rfl
  have zc := q7.2.2
  go_wp2_with (first | (refine ld16 (F := F) (case_free q7) rfl _ rfl rfl ?_) | fail)
  refine (C6.out _).mono ?_
  rintro e w8 ⟨rfl, hb⟩
  have q8 := Cs.later hb q7
  have g8 := g7.trans (hb.mono g7.size)
  replace p0 := Cs.later hb p0
  replace row := row.later hb
  clear hb q7 g7 C6 c0 c1 c2 c3 c4 c5 c6 c7 c16 c17 c18 c19 c20 c21 zc
  go_upto_region 10 with (fail)
  have g8' := g8
  go_cut [110] from 84 to 110 (fun s wc => s = .bool (!fb) ∧ Below w8.heap.size w8 wc)
  case first =>
    have PMm := PM.out.1
    cases one with
    | false =>
      obtain rfl : fb = false := HOC.out.1
      clear PMm
      have F_0 : Hid (Below w8.heap.size w8 _) := Below.drew (Below.refl _ _)
      refine wp_region_noPanic ?_
      refine wp_region_held_drew (S := fun w' => Cs w' b1 [.int .i64 (F 0 0), .int .i64 (F 0 1), .int .i64 (F 0 2), .int .i64 (F 0 3), .int .i64 (F 0 4), .int .i64 (F 0 5), .int .i64 (F 0 6), .int .i64 (F 0 7), .int .i64 (F 1 0), .int .i64 (F 1 1), .int .i64 (F 1 2), .int .i64 (F 1 3), .int .i64 (F 1 4), .int .i64 (F 1 5), .int .i64 (F 1 6), .int .i64 (F 1 7), .int .i64 nodes, .int .i64 held, .int .i64 mask, .int .i64 (K 0), .int .i64 (K 1), .int .i64 most]) (by kernel_rfl) ?_ (fun hHeld => ?_)
      · exact Cs.later F_0.out q8
      refine wpAnyH_take (i := 0) (v := ?_) rfl (by kernel_rfl) (by kernel_rfl) (by kernel_rfl) (fun _ _ _ h => h) (Or.inl ⟨by rfl, ?_⟩) (by assumption) ?_
      rotate_left
      · (intro wS hSw; have c16 := hSw.1 16 _ rfl; have c17 := hSw.1 17 _ rfl; have c18 := hSw.1 18 _ rfl; have c19 := hSw.1 19 _ rfl; have c20 := hSw.1 20 _ rfl; have c21 := hSw.1 21 _ rfl; have c0 := hSw.1 0 _ rfl; have c1 := hSw.1 1 _ rfl; have c2 := hSw.1 2 _ rfl; have c3 := hSw.1 3 _ rfl; have c4 := hSw.1 4 _ rfl; have c5 := hSw.1 5 _ rfl; have c6 := hSw.1 6 _ rfl; have c7 := hSw.1 7 _ rfl; have zc := hSw.2.2; go_simp; try with_reducible rfl)
      change wpAnyH _ _ _ _ _ _ _ (Act.put _ (some 84) _) _
      simp only [Act.put, List.setIfInBounds_toArray, List.set_cons_zero, List.set_cons_succ]
      refine wpAnyH_take (i := 1) (v := ?_) rfl (by kernel_rfl) (by kernel_rfl) (by kernel_rfl) (fun _ _ _ h => h) (Or.inl ⟨by rfl, ?_⟩) (by assumption) ?_
      rotate_left
      · (intro wS hSw; have c16 := hSw.1 16 _ rfl; have c17 := hSw.1 17 _ rfl; have c18 := hSw.1 18 _ rfl; have c19 := hSw.1 19 _ rfl; have c20 := hSw.1 20 _ rfl; have c21 := hSw.1 21 _ rfl; have c0 := hSw.1 0 _ rfl; have c1 := hSw.1 1 _ rfl; have c2 := hSw.1 2 _ rfl; have c3 := hSw.1 3 _ rfl; have c4 := hSw.1 4 _ rfl; have c5 := hSw.1 5 _ rfl; have c6 := hSw.1 6 _ rfl; have c7 := hSw.1 7 _ rfl; have zc := hSw.2.2; go_simp; try with_reducible rfl)
      change wpAnyH _ _ _ _ _ _ _ (Act.put _ (some 85) _) _
      simp only [Act.put, List.setIfInBounds_toArray, List.set_cons_zero, List.set_cons_succ]
      refine wpAnyH_take (i := 2) (v := ?_) rfl (by kernel_rfl) (by kernel_rfl) (by kernel_rfl) (fun _ _ _ h => h) (Or.inl ⟨by rfl, ?_⟩) (by assumption) ?_
      rotate_left
      · (intro wS hSw; have c16 := hSw.1 16 _ rfl; have c17 := hSw.1 17 _ rfl; have c18 := hSw.1 18 _ rfl; have c19 := hSw.1 19 _ rfl; have c20 := hSw.1 20 _ rfl; have c21 := hSw.1 21 _ rfl; have c0 := hSw.1 0 _ rfl; have c1 := hSw.1 1 _ rfl; have c2 := hSw.1 2 _ rfl; have c3 := hSw.1 3 _ rfl; have c4 := hSw.1 4 _ rfl; have c5 := hSw.1 5 _ rfl; have c6 := hSw.1 6 _ rfl; have c7 := hSw.1 7 _ rfl; have zc := hSw.2.2; go_simp; try with_reducible rfl)
      change wpAnyH _ _ _ _ _ _ _ (Act.put _ (some 86) _) _
      simp only [Act.put, List.setIfInBounds_toArray, List.set_cons_zero, List.set_cons_succ]
      refine wpAnyH_take (i := 3) (v := undef) rfl (by kernel_rfl) (by kernel_rfl) (by kernel_rfl) (fun _ _ _ h => h) (Or.inr ⟨by rfl, rfl⟩) (by assumption) ?_
      change wpAnyH _ _ _ _ _ _ _ (Act.put _ (some 87) _) _
      simp only [Act.put, List.setIfInBounds_toArray, List.set_cons_zero, List.set_cons_succ]
      refine wpAnyH_take (i := 4) (v := undef) rfl (by kernel_rfl) (by kernel_rfl) (by kernel_rfl) (fun _ _ _ h => h) (Or.inr ⟨by rfl, rfl⟩) (by assumption) ?_
      change wpAnyH _ _ _ _ _ _ _ (Act.put _ (some 88) _) _
      simp only [Act.put, List.setIfInBounds_toArray, List.set_cons_zero, List.set_cons_succ]
      refine wpAnyH_take (i := 5) (v := undef) rfl (by kernel_rfl) (by kernel_rfl) (by kernel_rfl) (fun _ _ _ h => h) (Or.inr ⟨by rfl, rfl⟩) (by assumption) ?_
      change wpAnyH _ _ _ _ _ _ _ (Act.put _ (some 89) _) _
      simp only [Act.put, List.setIfInBounds_toArray, List.set_cons_zero, List.set_cons_succ]
      refine wpAnyH_take (i := 6) (v := ?_) rfl (by kernel_rfl) (by kernel_rfl) (by kernel_rfl) (fun _ _ _ h => h) (Or.inl ⟨by rfl, ?_⟩) (by assumption) ?_
      rotate_left
      · (intro wS hSw; have c16 := hSw.1 16 _ rfl; have c17 := hSw.1 17 _ rfl; have c18 := hSw.1 18 _ rfl; have c19 := hSw.1 19 _ rfl; have c20 := hSw.1 20 _ rfl; have c21 := hSw.1 21 _ rfl; have c0 := hSw.1 0 _ rfl; have c1 := hSw.1 1 _ rfl; have c2 := hSw.1 2 _ rfl; have c3 := hSw.1 3 _ rfl; have c4 := hSw.1 4 _ rfl; have c5 := hSw.1 5 _ rfl; have c6 := hSw.1 6 _ rfl; have c7 := hSw.1 7 _ rfl; have zc := hSw.2.2; go_simp; try with_reducible rfl)
      change wpAnyH _ _ _ _ _ _ _ (Act.put _ (some 90) _) _
      simp only [Act.put, List.setIfInBounds_toArray, List.set_cons_zero, List.set_cons_succ]
      refine wpAnyH_take (i := 7) (v := ?_) rfl (by kernel_rfl) (by kernel_rfl) (by kernel_rfl) (fun _ _ _ h => h) (Or.inl ⟨by rfl, ?_⟩) (by assumption) ?_
      rotate_left
      · (intro wS hSw; have c16 := hSw.1 16 _ rfl; have c17 := hSw.1 17 _ rfl; have c18 := hSw.1 18 _ rfl; have c19 := hSw.1 19 _ rfl; have c20 := hSw.1 20 _ rfl; have c21 := hSw.1 21 _ rfl; have c0 := hSw.1 0 _ rfl; have c1 := hSw.1 1 _ rfl; have c2 := hSw.1 2 _ rfl; have c3 := hSw.1 3 _ rfl; have c4 := hSw.1 4 _ rfl; have c5 := hSw.1 5 _ rfl; have c6 := hSw.1 6 _ rfl; have c7 := hSw.1 7 _ rfl; have zc := hSw.2.2; go_simp; try with_reducible rfl)
      change wpAnyH _ _ _ _ _ _ _ (Act.put _ (some 91) _) _
      simp only [Act.put, List.setIfInBounds_toArray, List.set_cons_zero, List.set_cons_succ]
      refine wpAnyH_take (i := 8) (v := undef) rfl (by kernel_rfl) (by kernel_rfl) (by kernel_rfl) (fun _ _ _ h => h) (Or.inr ⟨by rfl, rfl⟩) (by assumption) ?_
      change wpAnyH _ _ _ _ _ _ _ (Act.put _ (some 92) _) _
      simp only [Act.put, List.setIfInBounds_toArray, List.set_cons_zero, List.set_cons_succ]
      refine wpAnyH_take (i := 9) (v := undef) rfl (by kernel_rfl) (by kernel_rfl) (by kernel_rfl) (fun _ _ _ h => h) (Or.inr ⟨by rfl, rfl⟩) (by assumption) ?_
      change wpAnyH _ _ _ _ _ _ _ (Act.put _ (some 93) _) _
      simp only [Act.put, List.setIfInBounds_toArray, List.set_cons_zero, List.set_cons_succ]
      refine wpAnyH_take (i := 10) (v := undef) rfl (by kernel_rfl) (by kernel_rfl) (by kernel_rfl) (fun _ _ _ h => h) (Or.inr ⟨by rfl, rfl⟩) (by assumption) ?_
      change wpAnyH _ _ _ _ _ _ _ (Act.put _ (some 94) _) _
      simp only [Act.put, List.setIfInBounds_toArray, List.set_cons_zero, List.set_cons_succ]
      refine wpAnyH_take (i := 11) (v := ?_) rfl (by kernel_rfl) (by kernel_rfl) (by kernel_rfl) (fun _ _ _ h => h) (Or.inl ⟨by rfl, ?_⟩) (by assumption) ?_
      rotate_left
      · (intro wS hSw; have c16 := hSw.1 16 _ rfl; have c17 := hSw.1 17 _ rfl; have c18 := hSw.1 18 _ rfl; have c19 := hSw.1 19 _ rfl; have c20 := hSw.1 20 _ rfl; have c21 := hSw.1 21 _ rfl; have c0 := hSw.1 0 _ rfl; have c1 := hSw.1 1 _ rfl; have c2 := hSw.1 2 _ rfl; have c3 := hSw.1 3 _ rfl; have c4 := hSw.1 4 _ rfl; have c5 := hSw.1 5 _ rfl; have c6 := hSw.1 6 _ rfl; have c7 := hSw.1 7 _ rfl; have zc := hSw.2.2; go_simp; try with_reducible rfl)
      change wpAnyH _ _ _ _ _ _ _ (Act.put _ (some 95) _) _
      simp only [Act.put, List.setIfInBounds_toArray, List.set_cons_zero, List.set_cons_succ]
      refine wpAnyH_take (i := 12) (v := ?_) rfl (by kernel_rfl) (by kernel_rfl) (by kernel_rfl) (fun _ _ _ h => h) (Or.inl ⟨by rfl, ?_⟩) (by assumption) ?_
      rotate_left
      · (intro wS hSw; have c16 := hSw.1 16 _ rfl; have c17 := hSw.1 17 _ rfl; have c18 := hSw.1 18 _ rfl; have c19 := hSw.1 19 _ rfl; have c20 := hSw.1 20 _ rfl; have c21 := hSw.1 21 _ rfl; have c0 := hSw.1 0 _ rfl; have c1 := hSw.1 1 _ rfl; have c2 := hSw.1 2 _ rfl; have c3 := hSw.1 3 _ rfl; have c4 := hSw.1 4 _ rfl; have c5 := hSw.1 5 _ rfl; have c6 := hSw.1 6 _ rfl; have c7 := hSw.1 7 _ rfl; have zc := hSw.2.2; go_simp; try with_reducible rfl)
      change wpAnyH _ _ _ _ _ _ _ (Act.put _ (some 96) _) _
      simp only [Act.put, List.setIfInBounds_toArray, List.set_cons_zero, List.set_cons_succ]
      refine wpAnyH_take (i := 13) (v := undef) rfl (by kernel_rfl) (by kernel_rfl) (by kernel_rfl) (fun _ _ _ h => h) (Or.inr ⟨by rfl, rfl⟩) (by assumption) ?_
      change wpAnyH _ _ _ _ _ _ _ (Act.put _ (some 97) _) _
      simp only [Act.put, List.setIfInBounds_toArray, List.set_cons_zero, List.set_cons_succ]
      refine wpAnyH_take (i := 14) (v := undef) rfl (by kernel_rfl) (by kernel_rfl) (by kernel_rfl) (fun _ _ _ h => h) (Or.inr ⟨by rfl, rfl⟩) (by assumption) ?_
      change wpAnyH _ _ _ _ _ _ _ (Act.put _ (some 98) _) _
      simp only [Act.put, List.setIfInBounds_toArray, List.set_cons_zero, List.set_cons_succ]
      refine wpAnyH_take (i := 15) (v := undef) rfl (by kernel_rfl) (by kernel_rfl) (by kernel_rfl) (fun _ _ _ h => h) (Or.inr ⟨by rfl, rfl⟩) (by assumption) ?_
      change wpAnyH _ _ _ _ _ _ _ (Act.put _ (some 99) _) _
      simp only [Act.put, List.setIfInBounds_toArray, List.set_cons_zero, List.set_cons_succ]
      refine wpAnyH_take (i := 16) (v := undef) rfl (by kernel_rfl) (by kernel_rfl) (by kernel_rfl) (fun _ _ _ h => h) (Or.inr ⟨by rfl, rfl⟩) (by assumption) ?_
      change wpAnyH _ _ _ _ _ _ _ (Act.put _ (some 100) _) _
      simp only [Act.put, List.setIfInBounds_toArray, List.set_cons_zero, List.set_cons_succ]
      refine wpAnyH_take (i := 17) (v := undef) rfl (by kernel_rfl) (by kernel_rfl) (by kernel_rfl) (fun _ _ _ h => h) (Or.inr ⟨by rfl, rfl⟩) (by assumption) ?_
      change wpAnyH _ _ _ _ _ _ _ (Act.put _ (some 101) _) _
      simp only [Act.put, List.setIfInBounds_toArray, List.set_cons_zero, List.set_cons_succ]
      refine wpAnyH_take (i := 18) (v := undef) rfl (by kernel_rfl) (by kernel_rfl) (by kernel_rfl) (fun _ _ _ h => h) (Or.inr ⟨by rfl, rfl⟩) (by assumption) ?_
      change wpAnyH _ _ _ _ _ _ _ (Act.put _ (some 102) _) _
      simp only [Act.put, List.setIfInBounds_toArray, List.set_cons_zero, List.set_cons_succ]
      refine wpAnyH_take (i := 19) (v := undef) rfl (by kernel_rfl) (by kernel_rfl) (by kernel_rfl) (fun _ _ _ h => h) (Or.inr ⟨by rfl, rfl⟩) (by assumption) ?_
      change wpAnyH _ _ _ _ _ _ _ (Act.put _ (some 103) _) _
      simp only [Act.put, List.setIfInBounds_toArray, List.set_cons_zero, List.set_cons_succ]
      refine wpAnyH_take (i := 20) (v := undef) rfl (by kernel_rfl) (by kernel_rfl) (by kernel_rfl) (fun _ _ _ h => h) (Or.inr ⟨by rfl, rfl⟩) (by assumption) ?_
      change wpAnyH _ _ _ _ _ _ _ (Act.put _ (some 104) _) _
      simp only [Act.put, List.setIfInBounds_toArray, List.set_cons_zero, List.set_cons_succ]
      refine wpAnyH_take (i := 21) (v := undef) rfl (by kernel_rfl) (by kernel_rfl) (by kernel_rfl) (fun _ _ _ h => h) (Or.inr ⟨by rfl, rfl⟩) (by assumption) ?_
      change wpAnyH _ _ _ _ _ _ _ (Act.put _ (some 105) _) _
      simp only [Act.put, List.setIfInBounds_toArray, List.set_cons_zero, List.set_cons_succ]
      refine wpAnyH_take (i := 22) (v := undef) rfl (by kernel_rfl) (by kernel_rfl) (by kernel_rfl) (fun _ _ _ h => h) (Or.inr ⟨by rfl, rfl⟩) (by assumption) ?_
      change wpAnyH _ _ _ _ _ _ _ (Act.put _ (some 106) _) _
      simp only [Act.put, List.setIfInBounds_toArray, List.set_cons_zero, List.set_cons_succ]
      refine wpAnyH_take (i := 23) (v := undef) rfl (by kernel_rfl) (by kernel_rfl) (by kernel_rfl) (fun _ _ _ h => h) (Or.inr ⟨by rfl, rfl⟩) (by assumption) ?_
      change wpAnyH _ _ _ _ _ _ _ (Act.put _ (some 107) _) _
      simp only [Act.put, List.setIfInBounds_toArray, List.set_cons_zero, List.set_cons_succ]
      refine wpAnyH_take (i := 24) (v := undef) rfl (by kernel_rfl) (by kernel_rfl) (by kernel_rfl) (fun _ _ _ h => h) (Or.inr ⟨by rfl, rfl⟩) (by assumption) ?_
      change wpAnyH _ _ _ _ _ _ _ (Act.put _ (some 108) _) _
      simp only [Act.put, List.setIfInBounds_toArray, List.set_cons_zero, List.set_cons_succ]
      refine wpAnyH_take (i := 25) (v := undef) rfl (by kernel_rfl) (by kernel_rfl) (by kernel_rfl) (fun _ _ _ h => h) (Or.inr ⟨by rfl, rfl⟩) (by assumption) ?_
      change wpAnyH _ _ _ _ _ _ _ (Act.put _ (some 109) _) _
      simp only [Act.put, List.setIfInBounds_toArray, List.set_cons_zero, List.set_cons_succ]
      refine wpAnyH_take (i := 26) (v := ?_) rfl (by kernel_rfl) (by kernel_rfl) (by kernel_rfl) (fun _ _ _ h => h) (Or.inl ⟨by rfl, ?_⟩) (by assumption) ?_
      rotate_left
      · (intro wS hSw; have c16 := hSw.1 16 _ rfl; have c17 := hSw.1 17 _ rfl; have c18 := hSw.1 18 _ rfl; have c19 := hSw.1 19 _ rfl; have c20 := hSw.1 20 _ rfl; have c21 := hSw.1 21 _ rfl; have c0 := hSw.1 0 _ rfl; have c1 := hSw.1 1 _ rfl; have c2 := hSw.1 2 _ rfl; have c3 := hSw.1 3 _ rfl; have c4 := hSw.1 4 _ rfl; have c5 := hSw.1 5 _ rfl; have c6 := hSw.1 6 _ rfl; have c7 := hSw.1 7 _ rfl; have zc := hSw.2.2; go_simp; try with_reducible rfl)
      change wpAnyH _ _ _ _ _ _ _ (Act.put _ (some 110) _) _
      simp only [Act.put, List.setIfInBounds_toArray, List.set_cons_zero, List.set_cons_succ]
      refine wpAnyH_done (by kernel_rfl) ?_ _
      refine NoPanic.normal ?_
      (try go_wp2)
      go_meet
      case rel => exact ⟨by first | rfl | (cases fb <;> rfl), F_0.out⟩
    | true =>
      by_cases m0 : mask < 0
      · obtain rfl : om = false := by cases om with | false => rfl | true => have := PMm.1 rfl; omega
        obtain rfl : fb = false := HOC.out.1
        clear PMm
        have F_0 : Hid (Below w8.heap.size w8 _) := Below.drew (Below.refl _ _)
        refine wp_region_noPanic ?_
        refine wp_region_held_drew (S := fun w' => Cs w' b1 [.int .i64 (F 0 0), .int .i64 (F 0 1), .int .i64 (F 0 2), .int .i64 (F 0 3), .int .i64 (F 0 4), .int .i64 (F 0 5), .int .i64 (F 0 6), .int .i64 (F 0 7), .int .i64 (F 1 0), .int .i64 (F 1 1), .int .i64 (F 1 2), .int .i64 (F 1 3), .int .i64 (F 1 4), .int .i64 (F 1 5), .int .i64 (F 1 6), .int .i64 (F 1 7), .int .i64 nodes, .int .i64 held, .int .i64 mask, .int .i64 (K 0), .int .i64 (K 1), .int .i64 most]) (by kernel_rfl) ?_ (fun hHeld => ?_)
        · exact Cs.later F_0.out q8
        refine wpAnyH_take (i := 0) (v := ?_) rfl (by kernel_rfl) (by kernel_rfl) (by kernel_rfl) (fun _ _ _ h => h) (Or.inl ⟨by rfl, ?_⟩) (by assumption) ?_
        rotate_left
        · (intro wS hSw; have c16 := hSw.1 16 _ rfl; have c17 := hSw.1 17 _ rfl; have c18 := hSw.1 18 _ rfl; have c19 := hSw.1 19 _ rfl; have c20 := hSw.1 20 _ rfl; have c21 := hSw.1 21 _ rfl; have c0 := hSw.1 0 _ rfl; have c1 := hSw.1 1 _ rfl; have c2 := hSw.1 2 _ rfl; have c3 := hSw.1 3 _ rfl; have c4 := hSw.1 4 _ rfl; have c5 := hSw.1 5 _ rfl; have c6 := hSw.1 6 _ rfl; have c7 := hSw.1 7 _ rfl; have zc := hSw.2.2; go_simp; try with_reducible rfl)
        change wpAnyH _ _ _ _ _ _ _ (Act.put _ (some 84) _) _
        simp only [Act.put, List.setIfInBounds_toArray, List.set_cons_zero, List.set_cons_succ]
        refine wpAnyH_take (i := 1) (v := ?_) rfl (by kernel_rfl) (by kernel_rfl) (by kernel_rfl) (fun _ _ _ h => h) (Or.inl ⟨by rfl, ?_⟩) (by assumption) ?_
        rotate_left
        · (intro wS hSw; have c16 := hSw.1 16 _ rfl; have c17 := hSw.1 17 _ rfl; have c18 := hSw.1 18 _ rfl; have c19 := hSw.1 19 _ rfl; have c20 := hSw.1 20 _ rfl; have c21 := hSw.1 21 _ rfl; have c0 := hSw.1 0 _ rfl; have c1 := hSw.1 1 _ rfl; have c2 := hSw.1 2 _ rfl; have c3 := hSw.1 3 _ rfl; have c4 := hSw.1 4 _ rfl; have c5 := hSw.1 5 _ rfl; have c6 := hSw.1 6 _ rfl; have c7 := hSw.1 7 _ rfl; have zc := hSw.2.2; go_simp; try with_reducible rfl)
        change wpAnyH _ _ _ _ _ _ _ (Act.put _ (some 85) _) _
        simp only [Act.put, List.setIfInBounds_toArray, List.set_cons_zero, List.set_cons_succ]
        refine wpAnyH_take (i := 2) (v := ?_) rfl (by kernel_rfl) (by kernel_rfl) (by kernel_rfl) (fun _ _ _ h => h) (Or.inl ⟨by rfl, ?_⟩) (by assumption) ?_
        rotate_left
        · (intro wS hSw; have c16 := hSw.1 16 _ rfl; have c17 := hSw.1 17 _ rfl; have c18 := hSw.1 18 _ rfl; have c19 := hSw.1 19 _ rfl; have c20 := hSw.1 20 _ rfl; have c21 := hSw.1 21 _ rfl; have c0 := hSw.1 0 _ rfl; have c1 := hSw.1 1 _ rfl; have c2 := hSw.1 2 _ rfl; have c3 := hSw.1 3 _ rfl; have c4 := hSw.1 4 _ rfl; have c5 := hSw.1 5 _ rfl; have c6 := hSw.1 6 _ rfl; have c7 := hSw.1 7 _ rfl; have zc := hSw.2.2; go_simp; try with_reducible rfl)
        change wpAnyH _ _ _ _ _ _ _ (Act.put _ (some 86) _) _
        simp only [Act.put, List.setIfInBounds_toArray, List.set_cons_zero, List.set_cons_succ]
        refine wpAnyH_take (i := 3) (v := ?_) rfl (by kernel_rfl) (by kernel_rfl) (by kernel_rfl) (fun _ _ _ h => h) (Or.inl ⟨by rfl, ?_⟩) (by assumption) ?_
        rotate_left
        · (intro wS hSw; have c16 := hSw.1 16 _ rfl; have c17 := hSw.1 17 _ rfl; have c18 := hSw.1 18 _ rfl; have c19 := hSw.1 19 _ rfl; have c20 := hSw.1 20 _ rfl; have c21 := hSw.1 21 _ rfl; have c0 := hSw.1 0 _ rfl; have c1 := hSw.1 1 _ rfl; have c2 := hSw.1 2 _ rfl; have c3 := hSw.1 3 _ rfl; have c4 := hSw.1 4 _ rfl; have c5 := hSw.1 5 _ rfl; have c6 := hSw.1 6 _ rfl; have c7 := hSw.1 7 _ rfl; have zc := hSw.2.2; go_simp; try with_reducible rfl)
        change wpAnyH _ _ _ _ _ _ _ (Act.put _ (some 87) _) _
        simp only [Act.put, List.setIfInBounds_toArray, List.set_cons_zero, List.set_cons_succ]
        refine wpAnyH_take (i := 4) (v := ?_) rfl (by kernel_rfl) (by kernel_rfl) (by kernel_rfl) (fun _ _ _ h => h) (Or.inl ⟨by rfl, ?_⟩) (by assumption) ?_
        rotate_left
        · (intro wS hSw; have c16 := hSw.1 16 _ rfl; have c17 := hSw.1 17 _ rfl; have c18 := hSw.1 18 _ rfl; have c19 := hSw.1 19 _ rfl; have c20 := hSw.1 20 _ rfl; have c21 := hSw.1 21 _ rfl; have c0 := hSw.1 0 _ rfl; have c1 := hSw.1 1 _ rfl; have c2 := hSw.1 2 _ rfl; have c3 := hSw.1 3 _ rfl; have c4 := hSw.1 4 _ rfl; have c5 := hSw.1 5 _ rfl; have c6 := hSw.1 6 _ rfl; have c7 := hSw.1 7 _ rfl; have zc := hSw.2.2; go_simp; try with_reducible rfl)
        change wpAnyH _ _ _ _ _ _ _ (Act.put _ (some 88) _) _
        simp only [Act.put, List.setIfInBounds_toArray, List.set_cons_zero, List.set_cons_succ]
        refine wpAnyH_take (i := 5) (v := ?_) rfl (by kernel_rfl) (by kernel_rfl) (by kernel_rfl) (fun _ _ _ h => h) (Or.inl ⟨by rfl, ?_⟩) (by assumption) ?_
        rotate_left
        · (intro wS hSw; have c16 := hSw.1 16 _ rfl; have c17 := hSw.1 17 _ rfl; have c18 := hSw.1 18 _ rfl; have c19 := hSw.1 19 _ rfl; have c20 := hSw.1 20 _ rfl; have c21 := hSw.1 21 _ rfl; have c0 := hSw.1 0 _ rfl; have c1 := hSw.1 1 _ rfl; have c2 := hSw.1 2 _ rfl; have c3 := hSw.1 3 _ rfl; have c4 := hSw.1 4 _ rfl; have c5 := hSw.1 5 _ rfl; have c6 := hSw.1 6 _ rfl; have c7 := hSw.1 7 _ rfl; have zc := hSw.2.2; go_simp; try with_reducible rfl)
        change wpAnyH _ _ _ _ _ _ _ (Act.put _ (some 89) _) _
        simp only [Act.put, List.setIfInBounds_toArray, List.set_cons_zero, List.set_cons_succ]
        refine wpAnyH_take (i := 6) (v := ?_) rfl (by kernel_rfl) (by kernel_rfl) (by kernel_rfl) (fun _ _ _ h => h) (Or.inl ⟨by rfl, ?_⟩) (by assumption) ?_
        rotate_left
        · (intro wS hSw; have c16 := hSw.1 16 _ rfl; have c17 := hSw.1 17 _ rfl; have c18 := hSw.1 18 _ rfl; have c19 := hSw.1 19 _ rfl; have c20 := hSw.1 20 _ rfl; have c21 := hSw.1 21 _ rfl; have c0 := hSw.1 0 _ rfl; have c1 := hSw.1 1 _ rfl; have c2 := hSw.1 2 _ rfl; have c3 := hSw.1 3 _ rfl; have c4 := hSw.1 4 _ rfl; have c5 := hSw.1 5 _ rfl; have c6 := hSw.1 6 _ rfl; have c7 := hSw.1 7 _ rfl; have zc := hSw.2.2; go_simp; try with_reducible rfl)
        change wpAnyH _ _ _ _ _ _ _ (Act.put _ (some 90) _) _
        simp only [Act.put, List.setIfInBounds_toArray, List.set_cons_zero, List.set_cons_succ]
        refine wpAnyH_take (i := 7) (v := ?_) rfl (by kernel_rfl) (by kernel_rfl) (by kernel_rfl) (fun _ _ _ h => h) (Or.inl ⟨by rfl, ?_⟩) (by assumption) ?_
        rotate_left
        · (intro wS hSw; have c16 := hSw.1 16 _ rfl; have c17 := hSw.1 17 _ rfl; have c18 := hSw.1 18 _ rfl; have c19 := hSw.1 19 _ rfl; have c20 := hSw.1 20 _ rfl; have c21 := hSw.1 21 _ rfl; have c0 := hSw.1 0 _ rfl; have c1 := hSw.1 1 _ rfl; have c2 := hSw.1 2 _ rfl; have c3 := hSw.1 3 _ rfl; have c4 := hSw.1 4 _ rfl; have c5 := hSw.1 5 _ rfl; have c6 := hSw.1 6 _ rfl; have c7 := hSw.1 7 _ rfl; have zc := hSw.2.2; go_simp; try with_reducible rfl)
        change wpAnyH _ _ _ _ _ _ _ (Act.put _ (some 91) _) _
        simp only [Act.put, List.setIfInBounds_toArray, List.set_cons_zero, List.set_cons_succ]
        refine wpAnyH_take (i := 8) (v := undef) rfl (by kernel_rfl) (by kernel_rfl) (by kernel_rfl) (fun _ _ _ h => h) (Or.inr ⟨by rfl, rfl⟩) (by assumption) ?_
        change wpAnyH _ _ _ _ _ _ _ (Act.put _ (some 92) _) _
        simp only [Act.put, List.setIfInBounds_toArray, List.set_cons_zero, List.set_cons_succ]
        refine wpAnyH_take (i := 9) (v := undef) rfl (by kernel_rfl) (by kernel_rfl) (by kernel_rfl) (fun _ _ _ h => h) (Or.inr ⟨by rfl, rfl⟩) (by assumption) ?_
        change wpAnyH _ _ _ _ _ _ _ (Act.put _ (some 93) _) _
        simp only [Act.put, List.setIfInBounds_toArray, List.set_cons_zero, List.set_cons_succ]
        refine wpAnyH_take (i := 10) (v := undef) rfl (by kernel_rfl) (by kernel_rfl) (by kernel_rfl) (fun _ _ _ h => h) (Or.inr ⟨by rfl, rfl⟩) (by assumption) ?_
        change wpAnyH _ _ _ _ _ _ _ (Act.put _ (some 94) _) _
        simp only [Act.put, List.setIfInBounds_toArray, List.set_cons_zero, List.set_cons_succ]
        refine wpAnyH_take (i := 11) (v := ?_) rfl (by kernel_rfl) (by kernel_rfl) (by kernel_rfl) (fun _ _ _ h => h) (Or.inl ⟨by rfl, ?_⟩) (by assumption) ?_
        rotate_left
        · (intro wS hSw; have c16 := hSw.1 16 _ rfl; have c17 := hSw.1 17 _ rfl; have c18 := hSw.1 18 _ rfl; have c19 := hSw.1 19 _ rfl; have c20 := hSw.1 20 _ rfl; have c21 := hSw.1 21 _ rfl; have c0 := hSw.1 0 _ rfl; have c1 := hSw.1 1 _ rfl; have c2 := hSw.1 2 _ rfl; have c3 := hSw.1 3 _ rfl; have c4 := hSw.1 4 _ rfl; have c5 := hSw.1 5 _ rfl; have c6 := hSw.1 6 _ rfl; have c7 := hSw.1 7 _ rfl; have zc := hSw.2.2; go_simp; try with_reducible rfl)
        change wpAnyH _ _ _ _ _ _ _ (Act.put _ (some 95) _) _
        simp only [Act.put, List.setIfInBounds_toArray, List.set_cons_zero, List.set_cons_succ]
        refine wpAnyH_take (i := 12) (v := ?_) rfl (by kernel_rfl) (by kernel_rfl) (by kernel_rfl) (fun _ _ _ h => h) (Or.inl ⟨by rfl, ?_⟩) (by assumption) ?_
        rotate_left
        · (intro wS hSw; have c16 := hSw.1 16 _ rfl; have c17 := hSw.1 17 _ rfl; have c18 := hSw.1 18 _ rfl; have c19 := hSw.1 19 _ rfl; have c20 := hSw.1 20 _ rfl; have c21 := hSw.1 21 _ rfl; have c0 := hSw.1 0 _ rfl; have c1 := hSw.1 1 _ rfl; have c2 := hSw.1 2 _ rfl; have c3 := hSw.1 3 _ rfl; have c4 := hSw.1 4 _ rfl; have c5 := hSw.1 5 _ rfl; have c6 := hSw.1 6 _ rfl; have c7 := hSw.1 7 _ rfl; have zc := hSw.2.2; go_simp; try with_reducible rfl)
        change wpAnyH _ _ _ _ _ _ _ (Act.put _ (some 96) _) _
        simp only [Act.put, List.setIfInBounds_toArray, List.set_cons_zero, List.set_cons_succ]
        refine wpAnyH_take (i := 13) (v := undef) rfl (by kernel_rfl) (by kernel_rfl) (by kernel_rfl) (fun _ _ _ h => h) (Or.inr ⟨by rfl, rfl⟩) (by assumption) ?_
        change wpAnyH _ _ _ _ _ _ _ (Act.put _ (some 97) _) _
        simp only [Act.put, List.setIfInBounds_toArray, List.set_cons_zero, List.set_cons_succ]
        refine wpAnyH_take (i := 14) (v := undef) rfl (by kernel_rfl) (by kernel_rfl) (by kernel_rfl) (fun _ _ _ h => h) (Or.inr ⟨by rfl, rfl⟩) (by assumption) ?_
        change wpAnyH _ _ _ _ _ _ _ (Act.put _ (some 98) _) _
        simp only [Act.put, List.setIfInBounds_toArray, List.set_cons_zero, List.set_cons_succ]
        refine wpAnyH_take (i := 15) (v := undef) rfl (by kernel_rfl) (by kernel_rfl) (by kernel_rfl) (fun _ _ _ h => h) (Or.inr ⟨by rfl, rfl⟩) (by assumption) ?_
        change wpAnyH _ _ _ _ _ _ _ (Act.put _ (some 99) _) _
        simp only [Act.put, List.setIfInBounds_toArray, List.set_cons_zero, List.set_cons_succ]
        refine wpAnyH_take (i := 16) (v := undef) rfl (by kernel_rfl) (by kernel_rfl) (by kernel_rfl) (fun _ _ _ h => h) (Or.inr ⟨by rfl, rfl⟩) (by assumption) ?_
        change wpAnyH _ _ _ _ _ _ _ (Act.put _ (some 100) _) _
        simp only [Act.put, List.setIfInBounds_toArray, List.set_cons_zero, List.set_cons_succ]
        refine wpAnyH_take (i := 17) (v := undef) rfl (by kernel_rfl) (by kernel_rfl) (by kernel_rfl) (fun _ _ _ h => h) (Or.inr ⟨by rfl, rfl⟩) (by assumption) ?_
        change wpAnyH _ _ _ _ _ _ _ (Act.put _ (some 101) _) _
        simp only [Act.put, List.setIfInBounds_toArray, List.set_cons_zero, List.set_cons_succ]
        refine wpAnyH_take (i := 18) (v := undef) rfl (by kernel_rfl) (by kernel_rfl) (by kernel_rfl) (fun _ _ _ h => h) (Or.inr ⟨by rfl, rfl⟩) (by assumption) ?_
        change wpAnyH _ _ _ _ _ _ _ (Act.put _ (some 102) _) _
        simp only [Act.put, List.setIfInBounds_toArray, List.set_cons_zero, List.set_cons_succ]
        refine wpAnyH_take (i := 19) (v := undef) rfl (by kernel_rfl) (by kernel_rfl) (by kernel_rfl) (fun _ _ _ h => h) (Or.inr ⟨by rfl, rfl⟩) (by assumption) ?_
        change wpAnyH _ _ _ _ _ _ _ (Act.put _ (some 103) _) _
        simp only [Act.put, List.setIfInBounds_toArray, List.set_cons_zero, List.set_cons_succ]
        refine wpAnyH_take (i := 20) (v := undef) rfl (by kernel_rfl) (by kernel_rfl) (by kernel_rfl) (fun _ _ _ h => h) (Or.inr ⟨by rfl, rfl⟩) (by assumption) ?_
        change wpAnyH _ _ _ _ _ _ _ (Act.put _ (some 104) _) _
        simp only [Act.put, List.setIfInBounds_toArray, List.set_cons_zero, List.set_cons_succ]
        refine wpAnyH_take (i := 21) (v := undef) rfl (by kernel_rfl) (by kernel_rfl) (by kernel_rfl) (fun _ _ _ h => h) (Or.inr ⟨by rfl, rfl⟩) (by assumption) ?_
        change wpAnyH _ _ _ _ _ _ _ (Act.put _ (some 105) _) _
        simp only [Act.put, List.setIfInBounds_toArray, List.set_cons_zero, List.set_cons_succ]
        refine wpAnyH_take (i := 22) (v := undef) rfl (by kernel_rfl) (by kernel_rfl) (by kernel_rfl) (fun _ _ _ h => h) (Or.inr ⟨by rfl, rfl⟩) (by assumption) ?_
        change wpAnyH _ _ _ _ _ _ _ (Act.put _ (some 106) _) _
        simp only [Act.put, List.setIfInBounds_toArray, List.set_cons_zero, List.set_cons_succ]
        refine wpAnyH_take (i := 23) (v := undef) rfl (by kernel_rfl) (by kernel_rfl) (by kernel_rfl) (fun _ _ _ h => h) (Or.inr ⟨by rfl, rfl⟩) (by assumption) ?_
        change wpAnyH _ _ _ _ _ _ _ (Act.put _ (some 107) _) _
        simp only [Act.put, List.setIfInBounds_toArray, List.set_cons_zero, List.set_cons_succ]
        refine wpAnyH_take (i := 24) (v := undef) rfl (by kernel_rfl) (by kernel_rfl) (by kernel_rfl) (fun _ _ _ h => h) (Or.inr ⟨by rfl, rfl⟩) (by assumption) ?_
        change wpAnyH _ _ _ _ _ _ _ (Act.put _ (some 108) _) _
        simp only [Act.put, List.setIfInBounds_toArray, List.set_cons_zero, List.set_cons_succ]
        refine wpAnyH_take (i := 25) (v := undef) rfl (by kernel_rfl) (by kernel_rfl) (by kernel_rfl) (fun _ _ _ h => h) (Or.inr ⟨by rfl, rfl⟩) (by assumption) ?_
        change wpAnyH _ _ _ _ _ _ _ (Act.put _ (some 109) _) _
        simp only [Act.put, List.setIfInBounds_toArray, List.set_cons_zero, List.set_cons_succ]
        refine wpAnyH_take (i := 26) (v := ?_) rfl (by kernel_rfl) (by kernel_rfl) (by kernel_rfl) (fun _ _ _ h => h) (Or.inl ⟨by rfl, ?_⟩) (by assumption) ?_
        rotate_left
        · (intro wS hSw; have c16 := hSw.1 16 _ rfl; have c17 := hSw.1 17 _ rfl; have c18 := hSw.1 18 _ rfl; have c19 := hSw.1 19 _ rfl; have c20 := hSw.1 20 _ rfl; have c21 := hSw.1 21 _ rfl; have c0 := hSw.1 0 _ rfl; have c1 := hSw.1 1 _ rfl; have c2 := hSw.1 2 _ rfl; have c3 := hSw.1 3 _ rfl; have c4 := hSw.1 4 _ rfl; have c5 := hSw.1 5 _ rfl; have c6 := hSw.1 6 _ rfl; have c7 := hSw.1 7 _ rfl; have zc := hSw.2.2; go_simp; try with_reducible rfl)
        change wpAnyH _ _ _ _ _ _ _ (Act.put _ (some 110) _) _
        simp only [Act.put, List.setIfInBounds_toArray, List.set_cons_zero, List.set_cons_succ]
        refine wpAnyH_done (by kernel_rfl) ?_ _
        refine NoPanic.normal ?_
        (try go_wp2)
        go_meet
        case rel => exact ⟨by first | rfl | (cases fb <;> rfl), F_0.out⟩
      · by_cases m1 : 255 < mask
        · obtain rfl : om = false := by cases om with | false => rfl | true => have := PMm.1 rfl; omega
          obtain rfl : fb = false := HOC.out.1
          have m0' : decide (mask < 0) = false := decide_eq_false m0
          clear PMm m0
          have F_0 : Hid (Below w8.heap.size w8 _) := Below.drew (Below.refl _ _)
          refine wp_region_noPanic ?_
          refine wp_region_held_drew (S := fun w' => Cs w' b1 [.int .i64 (F 0 0), .int .i64 (F 0 1), .int .i64 (F 0 2), .int .i64 (F 0 3), .int .i64 (F 0 4), .int .i64 (F 0 5), .int .i64 (F 0 6), .int .i64 (F 0 7), .int .i64 (F 1 0), .int .i64 (F 1 1), .int .i64 (F 1 2), .int .i64 (F 1 3), .int .i64 (F 1 4), .int .i64 (F 1 5), .int .i64 (F 1 6), .int .i64 (F 1 7), .int .i64 nodes, .int .i64 held, .int .i64 mask, .int .i64 (K 0), .int .i64 (K 1), .int .i64 most]) (by kernel_rfl) ?_ (fun hHeld => ?_)
          · exact Cs.later F_0.out q8
          refine wpAnyH_take (i := 0) (v := ?_) rfl (by kernel_rfl) (by kernel_rfl) (by kernel_rfl) (fun _ _ _ h => h) (Or.inl ⟨by rfl, ?_⟩) (by assumption) ?_
          rotate_left
          · (intro wS hSw; have c16 := hSw.1 16 _ rfl; have c17 := hSw.1 17 _ rfl; have c18 := hSw.1 18 _ rfl; have c19 := hSw.1 19 _ rfl; have c20 := hSw.1 20 _ rfl; have c21 := hSw.1 21 _ rfl; have c0 := hSw.1 0 _ rfl; have c1 := hSw.1 1 _ rfl; have c2 := hSw.1 2 _ rfl; have c3 := hSw.1 3 _ rfl; have c4 := hSw.1 4 _ rfl; have c5 := hSw.1 5 _ rfl; have c6 := hSw.1 6 _ rfl; have c7 := hSw.1 7 _ rfl; have zc := hSw.2.2; go_simp; try with_reducible rfl)
          change wpAnyH _ _ _ _ _ _ _ (Act.put _ (some 84) _) _
          simp only [Act.put, List.setIfInBounds_toArray, List.set_cons_zero, List.set_cons_succ]
          refine wpAnyH_take (i := 1) (v := ?_) rfl (by kernel_rfl) (by kernel_rfl) (by kernel_rfl) (fun _ _ _ h => h) (Or.inl ⟨by rfl, ?_⟩) (by assumption) ?_
          rotate_left
          · (intro wS hSw; have c16 := hSw.1 16 _ rfl; have c17 := hSw.1 17 _ rfl; have c18 := hSw.1 18 _ rfl; have c19 := hSw.1 19 _ rfl; have c20 := hSw.1 20 _ rfl; have c21 := hSw.1 21 _ rfl; have c0 := hSw.1 0 _ rfl; have c1 := hSw.1 1 _ rfl; have c2 := hSw.1 2 _ rfl; have c3 := hSw.1 3 _ rfl; have c4 := hSw.1 4 _ rfl; have c5 := hSw.1 5 _ rfl; have c6 := hSw.1 6 _ rfl; have c7 := hSw.1 7 _ rfl; have zc := hSw.2.2; go_simp; try with_reducible rfl)
          change wpAnyH _ _ _ _ _ _ _ (Act.put _ (some 85) _) _
          simp only [Act.put, List.setIfInBounds_toArray, List.set_cons_zero, List.set_cons_succ]
          refine wpAnyH_take (i := 2) (v := ?_) rfl (by kernel_rfl) (by kernel_rfl) (by kernel_rfl) (fun _ _ _ h => h) (Or.inl ⟨by rfl, ?_⟩) (by assumption) ?_
          rotate_left
          · (intro wS hSw; have c16 := hSw.1 16 _ rfl; have c17 := hSw.1 17 _ rfl; have c18 := hSw.1 18 _ rfl; have c19 := hSw.1 19 _ rfl; have c20 := hSw.1 20 _ rfl; have c21 := hSw.1 21 _ rfl; have c0 := hSw.1 0 _ rfl; have c1 := hSw.1 1 _ rfl; have c2 := hSw.1 2 _ rfl; have c3 := hSw.1 3 _ rfl; have c4 := hSw.1 4 _ rfl; have c5 := hSw.1 5 _ rfl; have c6 := hSw.1 6 _ rfl; have c7 := hSw.1 7 _ rfl; have zc := hSw.2.2; go_simp; try with_reducible rfl)
          change wpAnyH _ _ _ _ _ _ _ (Act.put _ (some 86) _) _
          simp only [Act.put, List.setIfInBounds_toArray, List.set_cons_zero, List.set_cons_succ]
          refine wpAnyH_take (i := 3) (v := ?_) rfl (by kernel_rfl) (by kernel_rfl) (by kernel_rfl) (fun _ _ _ h => h) (Or.inl ⟨by rfl, ?_⟩) (by assumption) ?_
          rotate_left
          · (intro wS hSw; have c16 := hSw.1 16 _ rfl; have c17 := hSw.1 17 _ rfl; have c18 := hSw.1 18 _ rfl; have c19 := hSw.1 19 _ rfl; have c20 := hSw.1 20 _ rfl; have c21 := hSw.1 21 _ rfl; have c0 := hSw.1 0 _ rfl; have c1 := hSw.1 1 _ rfl; have c2 := hSw.1 2 _ rfl; have c3 := hSw.1 3 _ rfl; have c4 := hSw.1 4 _ rfl; have c5 := hSw.1 5 _ rfl; have c6 := hSw.1 6 _ rfl; have c7 := hSw.1 7 _ rfl; have zc := hSw.2.2; go_simp; try with_reducible rfl)
          change wpAnyH _ _ _ _ _ _ _ (Act.put _ (some 87) _) _
          simp only [Act.put, List.setIfInBounds_toArray, List.set_cons_zero, List.set_cons_succ]
          refine wpAnyH_take (i := 4) (v := ?_) rfl (by kernel_rfl) (by kernel_rfl) (by kernel_rfl) (fun _ _ _ h => h) (Or.inl ⟨by rfl, ?_⟩) (by assumption) ?_
          rotate_left
          · (intro wS hSw; have c16 := hSw.1 16 _ rfl; have c17 := hSw.1 17 _ rfl; have c18 := hSw.1 18 _ rfl; have c19 := hSw.1 19 _ rfl; have c20 := hSw.1 20 _ rfl; have c21 := hSw.1 21 _ rfl; have c0 := hSw.1 0 _ rfl; have c1 := hSw.1 1 _ rfl; have c2 := hSw.1 2 _ rfl; have c3 := hSw.1 3 _ rfl; have c4 := hSw.1 4 _ rfl; have c5 := hSw.1 5 _ rfl; have c6 := hSw.1 6 _ rfl; have c7 := hSw.1 7 _ rfl; have zc := hSw.2.2; go_simp; try with_reducible rfl)
          change wpAnyH _ _ _ _ _ _ _ (Act.put _ (some 88) _) _
          simp only [Act.put, List.setIfInBounds_toArray, List.set_cons_zero, List.set_cons_succ]
          refine wpAnyH_take (i := 5) (v := ?_) rfl (by kernel_rfl) (by kernel_rfl) (by kernel_rfl) (fun _ _ _ h => h) (Or.inl ⟨by rfl, ?_⟩) (by assumption) ?_
          rotate_left
          · (intro wS hSw; have c16 := hSw.1 16 _ rfl; have c17 := hSw.1 17 _ rfl; have c18 := hSw.1 18 _ rfl; have c19 := hSw.1 19 _ rfl; have c20 := hSw.1 20 _ rfl; have c21 := hSw.1 21 _ rfl; have c0 := hSw.1 0 _ rfl; have c1 := hSw.1 1 _ rfl; have c2 := hSw.1 2 _ rfl; have c3 := hSw.1 3 _ rfl; have c4 := hSw.1 4 _ rfl; have c5 := hSw.1 5 _ rfl; have c6 := hSw.1 6 _ rfl; have c7 := hSw.1 7 _ rfl; have zc := hSw.2.2; go_simp; try with_reducible rfl)
          change wpAnyH _ _ _ _ _ _ _ (Act.put _ (some 89) _) _
          simp only [Act.put, List.setIfInBounds_toArray, List.set_cons_zero, List.set_cons_succ]
          refine wpAnyH_take (i := 6) (v := ?_) rfl (by kernel_rfl) (by kernel_rfl) (by kernel_rfl) (fun _ _ _ h => h) (Or.inl ⟨by rfl, ?_⟩) (by assumption) ?_
          rotate_left
          · (intro wS hSw; have c16 := hSw.1 16 _ rfl; have c17 := hSw.1 17 _ rfl; have c18 := hSw.1 18 _ rfl; have c19 := hSw.1 19 _ rfl; have c20 := hSw.1 20 _ rfl; have c21 := hSw.1 21 _ rfl; have c0 := hSw.1 0 _ rfl; have c1 := hSw.1 1 _ rfl; have c2 := hSw.1 2 _ rfl; have c3 := hSw.1 3 _ rfl; have c4 := hSw.1 4 _ rfl; have c5 := hSw.1 5 _ rfl; have c6 := hSw.1 6 _ rfl; have c7 := hSw.1 7 _ rfl; have zc := hSw.2.2; go_simp; try with_reducible rfl)
          change wpAnyH _ _ _ _ _ _ _ (Act.put _ (some 90) _) _
          simp only [Act.put, List.setIfInBounds_toArray, List.set_cons_zero, List.set_cons_succ]
          refine wpAnyH_take (i := 7) (v := ?_) rfl (by kernel_rfl) (by kernel_rfl) (by kernel_rfl) (fun _ _ _ h => h) (Or.inl ⟨by rfl, ?_⟩) (by assumption) ?_
          rotate_left
          · (intro wS hSw; have c16 := hSw.1 16 _ rfl; have c17 := hSw.1 17 _ rfl; have c18 := hSw.1 18 _ rfl; have c19 := hSw.1 19 _ rfl; have c20 := hSw.1 20 _ rfl; have c21 := hSw.1 21 _ rfl; have c0 := hSw.1 0 _ rfl; have c1 := hSw.1 1 _ rfl; have c2 := hSw.1 2 _ rfl; have c3 := hSw.1 3 _ rfl; have c4 := hSw.1 4 _ rfl; have c5 := hSw.1 5 _ rfl; have c6 := hSw.1 6 _ rfl; have c7 := hSw.1 7 _ rfl; have zc := hSw.2.2; go_simp; try with_reducible rfl)
          change wpAnyH _ _ _ _ _ _ _ (Act.put _ (some 91) _) _
          simp only [Act.put, List.setIfInBounds_toArray, List.set_cons_zero, List.set_cons_succ]
          refine wpAnyH_take (i := 8) (v := ?_) rfl (by kernel_rfl) (by kernel_rfl) (by kernel_rfl) (fun _ _ _ h => h) (Or.inl ⟨by rfl, ?_⟩) (by assumption) ?_
          rotate_left
          · (intro wS hSw; have c16 := hSw.1 16 _ rfl; have c17 := hSw.1 17 _ rfl; have c18 := hSw.1 18 _ rfl; have c19 := hSw.1 19 _ rfl; have c20 := hSw.1 20 _ rfl; have c21 := hSw.1 21 _ rfl; have c0 := hSw.1 0 _ rfl; have c1 := hSw.1 1 _ rfl; have c2 := hSw.1 2 _ rfl; have c3 := hSw.1 3 _ rfl; have c4 := hSw.1 4 _ rfl; have c5 := hSw.1 5 _ rfl; have c6 := hSw.1 6 _ rfl; have c7 := hSw.1 7 _ rfl; have zc := hSw.2.2; go_simp; try with_reducible rfl)
          change wpAnyH _ _ _ _ _ _ _ (Act.put _ (some 92) _) _
          simp only [Act.put, List.setIfInBounds_toArray, List.set_cons_zero, List.set_cons_succ]
          refine wpAnyH_take (i := 9) (v := ?_) rfl (by kernel_rfl) (by kernel_rfl) (by kernel_rfl) (fun _ _ _ h => h) (Or.inl ⟨by rfl, ?_⟩) (by assumption) ?_
          rotate_left
          · (intro wS hSw; have c16 := hSw.1 16 _ rfl; have c17 := hSw.1 17 _ rfl; have c18 := hSw.1 18 _ rfl; have c19 := hSw.1 19 _ rfl; have c20 := hSw.1 20 _ rfl; have c21 := hSw.1 21 _ rfl; have c0 := hSw.1 0 _ rfl; have c1 := hSw.1 1 _ rfl; have c2 := hSw.1 2 _ rfl; have c3 := hSw.1 3 _ rfl; have c4 := hSw.1 4 _ rfl; have c5 := hSw.1 5 _ rfl; have c6 := hSw.1 6 _ rfl; have c7 := hSw.1 7 _ rfl; have zc := hSw.2.2; go_simp; try with_reducible rfl)
          change wpAnyH _ _ _ _ _ _ _ (Act.put _ (some 93) _) _
          simp only [Act.put, List.setIfInBounds_toArray, List.set_cons_zero, List.set_cons_succ]
          refine wpAnyH_take (i := 10) (v := ?_) rfl (by kernel_rfl) (by kernel_rfl) (by kernel_rfl) (fun _ _ _ h => h) (Or.inl ⟨by rfl, ?_⟩) (by assumption) ?_
          rotate_left
          · (intro wS hSw; have c16 := hSw.1 16 _ rfl; have c17 := hSw.1 17 _ rfl; have c18 := hSw.1 18 _ rfl; have c19 := hSw.1 19 _ rfl; have c20 := hSw.1 20 _ rfl; have c21 := hSw.1 21 _ rfl; have c0 := hSw.1 0 _ rfl; have c1 := hSw.1 1 _ rfl; have c2 := hSw.1 2 _ rfl; have c3 := hSw.1 3 _ rfl; have c4 := hSw.1 4 _ rfl; have c5 := hSw.1 5 _ rfl; have c6 := hSw.1 6 _ rfl; have c7 := hSw.1 7 _ rfl; have zc := hSw.2.2; go_simp; try with_reducible rfl)
          change wpAnyH _ _ _ _ _ _ _ (Act.put _ (some 94) _) _
          simp only [Act.put, List.setIfInBounds_toArray, List.set_cons_zero, List.set_cons_succ]
          refine wpAnyH_take (i := 11) (v := ?_) rfl (by kernel_rfl) (by kernel_rfl) (by kernel_rfl) (fun _ _ _ h => h) (Or.inl ⟨by rfl, ?_⟩) (by assumption) ?_
          rotate_left
          · (intro wS hSw; have c16 := hSw.1 16 _ rfl; have c17 := hSw.1 17 _ rfl; have c18 := hSw.1 18 _ rfl; have c19 := hSw.1 19 _ rfl; have c20 := hSw.1 20 _ rfl; have c21 := hSw.1 21 _ rfl; have c0 := hSw.1 0 _ rfl; have c1 := hSw.1 1 _ rfl; have c2 := hSw.1 2 _ rfl; have c3 := hSw.1 3 _ rfl; have c4 := hSw.1 4 _ rfl; have c5 := hSw.1 5 _ rfl; have c6 := hSw.1 6 _ rfl; have c7 := hSw.1 7 _ rfl; have zc := hSw.2.2; go_simp; try with_reducible rfl)
          change wpAnyH _ _ _ _ _ _ _ (Act.put _ (some 95) _) _
          simp only [Act.put, List.setIfInBounds_toArray, List.set_cons_zero, List.set_cons_succ]
          refine wpAnyH_take (i := 12) (v := ?_) rfl (by kernel_rfl) (by kernel_rfl) (by kernel_rfl) (fun _ _ _ h => h) (Or.inl ⟨by rfl, ?_⟩) (by assumption) ?_
          rotate_left
          · (intro wS hSw; have c16 := hSw.1 16 _ rfl; have c17 := hSw.1 17 _ rfl; have c18 := hSw.1 18 _ rfl; have c19 := hSw.1 19 _ rfl; have c20 := hSw.1 20 _ rfl; have c21 := hSw.1 21 _ rfl; have c0 := hSw.1 0 _ rfl; have c1 := hSw.1 1 _ rfl; have c2 := hSw.1 2 _ rfl; have c3 := hSw.1 3 _ rfl; have c4 := hSw.1 4 _ rfl; have c5 := hSw.1 5 _ rfl; have c6 := hSw.1 6 _ rfl; have c7 := hSw.1 7 _ rfl; have zc := hSw.2.2; go_simp; try with_reducible rfl)
          change wpAnyH _ _ _ _ _ _ _ (Act.put _ (some 96) _) _
          simp only [Act.put, List.setIfInBounds_toArray, List.set_cons_zero, List.set_cons_succ]
          refine wpAnyH_take (i := 13) (v := undef) rfl (by kernel_rfl) (by kernel_rfl) (by kernel_rfl) (fun _ _ _ h => h) (Or.inr ⟨by rfl, rfl⟩) (by assumption) ?_
          change wpAnyH _ _ _ _ _ _ _ (Act.put _ (some 97) _) _
          simp only [Act.put, List.setIfInBounds_toArray, List.set_cons_zero, List.set_cons_succ]
          refine wpAnyH_take (i := 14) (v := undef) rfl (by kernel_rfl) (by kernel_rfl) (by kernel_rfl) (fun _ _ _ h => h) (Or.inr ⟨by rfl, rfl⟩) (by assumption) ?_
          change wpAnyH _ _ _ _ _ _ _ (Act.put _ (some 98) _) _
          simp only [Act.put, List.setIfInBounds_toArray, List.set_cons_zero, List.set_cons_succ]
          refine wpAnyH_take (i := 15) (v := undef) rfl (by kernel_rfl) (by kernel_rfl) (by kernel_rfl) (fun _ _ _ h => h) (Or.inr ⟨by rfl, rfl⟩) (by assumption) ?_
          change wpAnyH _ _ _ _ _ _ _ (Act.put _ (some 99) _) _
          simp only [Act.put, List.setIfInBounds_toArray, List.set_cons_zero, List.set_cons_succ]
          refine wpAnyH_take (i := 16) (v := undef) rfl (by kernel_rfl) (by kernel_rfl) (by kernel_rfl) (fun _ _ _ h => h) (Or.inr ⟨by rfl, rfl⟩) (by assumption) ?_
          change wpAnyH _ _ _ _ _ _ _ (Act.put _ (some 100) _) _
          simp only [Act.put, List.setIfInBounds_toArray, List.set_cons_zero, List.set_cons_succ]
          refine wpAnyH_take (i := 17) (v := undef) rfl (by kernel_rfl) (by kernel_rfl) (by kernel_rfl) (fun _ _ _ h => h) (Or.inr ⟨by rfl, rfl⟩) (by assumption) ?_
          change wpAnyH _ _ _ _ _ _ _ (Act.put _ (some 101) _) _
          simp only [Act.put, List.setIfInBounds_toArray, List.set_cons_zero, List.set_cons_succ]
          refine wpAnyH_take (i := 18) (v := undef) rfl (by kernel_rfl) (by kernel_rfl) (by kernel_rfl) (fun _ _ _ h => h) (Or.inr ⟨by rfl, rfl⟩) (by assumption) ?_
          change wpAnyH _ _ _ _ _ _ _ (Act.put _ (some 102) _) _
          simp only [Act.put, List.setIfInBounds_toArray, List.set_cons_zero, List.set_cons_succ]
          refine wpAnyH_take (i := 19) (v := undef) rfl (by kernel_rfl) (by kernel_rfl) (by kernel_rfl) (fun _ _ _ h => h) (Or.inr ⟨by rfl, rfl⟩) (by assumption) ?_
          change wpAnyH _ _ _ _ _ _ _ (Act.put _ (some 103) _) _
          simp only [Act.put, List.setIfInBounds_toArray, List.set_cons_zero, List.set_cons_succ]
          refine wpAnyH_take (i := 20) (v := undef) rfl (by kernel_rfl) (by kernel_rfl) (by kernel_rfl) (fun _ _ _ h => h) (Or.inr ⟨by rfl, rfl⟩) (by assumption) ?_
          change wpAnyH _ _ _ _ _ _ _ (Act.put _ (some 104) _) _
          simp only [Act.put, List.setIfInBounds_toArray, List.set_cons_zero, List.set_cons_succ]
          refine wpAnyH_take (i := 21) (v := undef) rfl (by kernel_rfl) (by kernel_rfl) (by kernel_rfl) (fun _ _ _ h => h) (Or.inr ⟨by rfl, rfl⟩) (by assumption) ?_
          change wpAnyH _ _ _ _ _ _ _ (Act.put _ (some 105) _) _
          simp only [Act.put, List.setIfInBounds_toArray, List.set_cons_zero, List.set_cons_succ]
          refine wpAnyH_take (i := 22) (v := undef) rfl (by kernel_rfl) (by kernel_rfl) (by kernel_rfl) (fun _ _ _ h => h) (Or.inr ⟨by rfl, rfl⟩) (by assumption) ?_
          change wpAnyH _ _ _ _ _ _ _ (Act.put _ (some 106) _) _
          simp only [Act.put, List.setIfInBounds_toArray, List.set_cons_zero, List.set_cons_succ]
          refine wpAnyH_take (i := 23) (v := undef) rfl (by kernel_rfl) (by kernel_rfl) (by kernel_rfl) (fun _ _ _ h => h) (Or.inr ⟨by rfl, rfl⟩) (by assumption) ?_
          change wpAnyH _ _ _ _ _ _ _ (Act.put _ (some 107) _) _
          simp only [Act.put, List.setIfInBounds_toArray, List.set_cons_zero, List.set_cons_succ]
          refine wpAnyH_take (i := 24) (v := undef) rfl (by kernel_rfl) (by kernel_rfl) (by kernel_rfl) (fun _ _ _ h => h) (Or.inr ⟨by rfl, rfl⟩) (by assumption) ?_
          change wpAnyH _ _ _ _ _ _ _ (Act.put _ (some 108) _) _
          simp only [Act.put, List.setIfInBounds_toArray, List.set_cons_zero, List.set_cons_succ]
          refine wpAnyH_take (i := 25) (v := undef) rfl (by kernel_rfl) (by kernel_rfl) (by kernel_rfl) (fun _ _ _ h => h) (Or.inr ⟨by rfl, rfl⟩) (by assumption) ?_
          change wpAnyH _ _ _ _ _ _ _ (Act.put _ (some 109) _) _
          simp only [Act.put, List.setIfInBounds_toArray, List.set_cons_zero, List.set_cons_succ]
          refine wpAnyH_take (i := 26) (v := ?_) rfl (by kernel_rfl) (by kernel_rfl) (by kernel_rfl) (fun _ _ _ h => h) (Or.inl ⟨by rfl, ?_⟩) (by assumption) ?_
          rotate_left
          · (intro wS hSw; have c16 := hSw.1 16 _ rfl; have c17 := hSw.1 17 _ rfl; have c18 := hSw.1 18 _ rfl; have c19 := hSw.1 19 _ rfl; have c20 := hSw.1 20 _ rfl; have c21 := hSw.1 21 _ rfl; have c0 := hSw.1 0 _ rfl; have c1 := hSw.1 1 _ rfl; have c2 := hSw.1 2 _ rfl; have c3 := hSw.1 3 _ rfl; have c4 := hSw.1 4 _ rfl; have c5 := hSw.1 5 _ rfl; have c6 := hSw.1 6 _ rfl; have c7 := hSw.1 7 _ rfl; have zc := hSw.2.2; go_simp; try with_reducible rfl)
          change wpAnyH _ _ _ _ _ _ _ (Act.put _ (some 110) _) _
          simp only [Act.put, List.setIfInBounds_toArray, List.set_cons_zero, List.set_cons_succ]
          refine wpAnyH_done (by kernel_rfl) ?_ _
          refine NoPanic.normal ?_
          (try go_wp2)
          go_meet
          case rel => exact ⟨by first | rfl | (cases fb <;> rfl), F_0.out⟩
        · obtain rfl : om = true := PMm.2 (by omega)
          obtain rfl : fb = e1 := HOC.out.1
          have E1' : Hid (∀ w, Calls Try.prog 12 #[.agg #[.int .i64 (F 0 0), .int .i64 (F 0 1), .int .i64 (F 0 2), .int .i64 (F 0 3), .int .i64 (F 0 4), .int .i64 (F 0 5), .int .i64 (F 0 6), .int .i64 (F 0 7), .int .i64 0, .int .i64 0, .int .i64 0, .int .i64 0, .int .i64 0, .int .i64 0, .int .i64 0, .int .i64 0], setV b, .agg #[.int .i64 (K 0), .int .i64 0]] w fun e w' => e = .returned (.bool fb) ∧ Below w.heap.size w w') := E1.out rfl
          have m0' : decide (mask < 0) = false := decide_eq_false m0
          have m1' : decide (255 < mask) = false := decide_eq_false m1
          clear PMm m0 m1
          have F_0 : Hid (Below w8.heap.size w8 _) := Below.drew (Below.refl _ _)
          refine wp_region_noPanic ?_
          refine wp_region_held_drew (S := fun w' => Cs w' b1 [.int .i64 (F 0 0), .int .i64 (F 0 1), .int .i64 (F 0 2), .int .i64 (F 0 3), .int .i64 (F 0 4), .int .i64 (F 0 5), .int .i64 (F 0 6), .int .i64 (F 0 7), .int .i64 (F 1 0), .int .i64 (F 1 1), .int .i64 (F 1 2), .int .i64 (F 1 3), .int .i64 (F 1 4), .int .i64 (F 1 5), .int .i64 (F 1 6), .int .i64 (F 1 7), .int .i64 nodes, .int .i64 held, .int .i64 mask, .int .i64 (K 0), .int .i64 (K 1), .int .i64 most]) (by kernel_rfl) ?_ (fun hHeld => ?_)
          · exact Cs.later F_0.out q8
          refine wpAnyH_take (i := 0) (v := ?_) rfl (by kernel_rfl) (by kernel_rfl) (by kernel_rfl) (fun _ _ _ h => h) (Or.inl ⟨by rfl, ?_⟩) (by assumption) ?_
          rotate_left
          · (intro wS hSw; have c16 := hSw.1 16 _ rfl; have c17 := hSw.1 17 _ rfl; have c18 := hSw.1 18 _ rfl; have c19 := hSw.1 19 _ rfl; have c20 := hSw.1 20 _ rfl; have c21 := hSw.1 21 _ rfl; have c0 := hSw.1 0 _ rfl; have c1 := hSw.1 1 _ rfl; have c2 := hSw.1 2 _ rfl; have c3 := hSw.1 3 _ rfl; have c4 := hSw.1 4 _ rfl; have c5 := hSw.1 5 _ rfl; have c6 := hSw.1 6 _ rfl; have c7 := hSw.1 7 _ rfl; have zc := hSw.2.2; go_simp; try with_reducible rfl)
          change wpAnyH _ _ _ _ _ _ _ (Act.put _ (some 84) _) _
          simp only [Act.put, List.setIfInBounds_toArray, List.set_cons_zero, List.set_cons_succ]
          refine wpAnyH_take (i := 1) (v := ?_) rfl (by kernel_rfl) (by kernel_rfl) (by kernel_rfl) (fun _ _ _ h => h) (Or.inl ⟨by rfl, ?_⟩) (by assumption) ?_
          rotate_left
          · (intro wS hSw; have c16 := hSw.1 16 _ rfl; have c17 := hSw.1 17 _ rfl; have c18 := hSw.1 18 _ rfl; have c19 := hSw.1 19 _ rfl; have c20 := hSw.1 20 _ rfl; have c21 := hSw.1 21 _ rfl; have c0 := hSw.1 0 _ rfl; have c1 := hSw.1 1 _ rfl; have c2 := hSw.1 2 _ rfl; have c3 := hSw.1 3 _ rfl; have c4 := hSw.1 4 _ rfl; have c5 := hSw.1 5 _ rfl; have c6 := hSw.1 6 _ rfl; have c7 := hSw.1 7 _ rfl; have zc := hSw.2.2; go_simp; try with_reducible rfl)
          change wpAnyH _ _ _ _ _ _ _ (Act.put _ (some 85) _) _
          simp only [Act.put, List.setIfInBounds_toArray, List.set_cons_zero, List.set_cons_succ]
          refine wpAnyH_take (i := 2) (v := ?_) rfl (by kernel_rfl) (by kernel_rfl) (by kernel_rfl) (fun _ _ _ h => h) (Or.inl ⟨by rfl, ?_⟩) (by assumption) ?_
          rotate_left
          · (intro wS hSw; have c16 := hSw.1 16 _ rfl; have c17 := hSw.1 17 _ rfl; have c18 := hSw.1 18 _ rfl; have c19 := hSw.1 19 _ rfl; have c20 := hSw.1 20 _ rfl; have c21 := hSw.1 21 _ rfl; have c0 := hSw.1 0 _ rfl; have c1 := hSw.1 1 _ rfl; have c2 := hSw.1 2 _ rfl; have c3 := hSw.1 3 _ rfl; have c4 := hSw.1 4 _ rfl; have c5 := hSw.1 5 _ rfl; have c6 := hSw.1 6 _ rfl; have c7 := hSw.1 7 _ rfl; have zc := hSw.2.2; go_simp; try with_reducible rfl)
          change wpAnyH _ _ _ _ _ _ _ (Act.put _ (some 86) _) _
          simp only [Act.put, List.setIfInBounds_toArray, List.set_cons_zero, List.set_cons_succ]
          refine wpAnyH_take (i := 3) (v := ?_) rfl (by kernel_rfl) (by kernel_rfl) (by kernel_rfl) (fun _ _ _ h => h) (Or.inl ⟨by rfl, ?_⟩) (by assumption) ?_
          rotate_left
          · (intro wS hSw; have c16 := hSw.1 16 _ rfl; have c17 := hSw.1 17 _ rfl; have c18 := hSw.1 18 _ rfl; have c19 := hSw.1 19 _ rfl; have c20 := hSw.1 20 _ rfl; have c21 := hSw.1 21 _ rfl; have c0 := hSw.1 0 _ rfl; have c1 := hSw.1 1 _ rfl; have c2 := hSw.1 2 _ rfl; have c3 := hSw.1 3 _ rfl; have c4 := hSw.1 4 _ rfl; have c5 := hSw.1 5 _ rfl; have c6 := hSw.1 6 _ rfl; have c7 := hSw.1 7 _ rfl; have zc := hSw.2.2; go_simp; try with_reducible rfl)
          change wpAnyH _ _ _ _ _ _ _ (Act.put _ (some 87) _) _
          simp only [Act.put, List.setIfInBounds_toArray, List.set_cons_zero, List.set_cons_succ]
          refine wpAnyH_take (i := 4) (v := ?_) rfl (by kernel_rfl) (by kernel_rfl) (by kernel_rfl) (fun _ _ _ h => h) (Or.inl ⟨by rfl, ?_⟩) (by assumption) ?_
          rotate_left
          · (intro wS hSw; have c16 := hSw.1 16 _ rfl; have c17 := hSw.1 17 _ rfl; have c18 := hSw.1 18 _ rfl; have c19 := hSw.1 19 _ rfl; have c20 := hSw.1 20 _ rfl; have c21 := hSw.1 21 _ rfl; have c0 := hSw.1 0 _ rfl; have c1 := hSw.1 1 _ rfl; have c2 := hSw.1 2 _ rfl; have c3 := hSw.1 3 _ rfl; have c4 := hSw.1 4 _ rfl; have c5 := hSw.1 5 _ rfl; have c6 := hSw.1 6 _ rfl; have c7 := hSw.1 7 _ rfl; have zc := hSw.2.2; go_simp; try with_reducible rfl)
          change wpAnyH _ _ _ _ _ _ _ (Act.put _ (some 88) _) _
          simp only [Act.put, List.setIfInBounds_toArray, List.set_cons_zero, List.set_cons_succ]
          refine wpAnyH_take (i := 5) (v := ?_) rfl (by kernel_rfl) (by kernel_rfl) (by kernel_rfl) (fun _ _ _ h => h) (Or.inl ⟨by rfl, ?_⟩) (by assumption) ?_
          rotate_left
          · (intro wS hSw; have c16 := hSw.1 16 _ rfl; have c17 := hSw.1 17 _ rfl; have c18 := hSw.1 18 _ rfl; have c19 := hSw.1 19 _ rfl; have c20 := hSw.1 20 _ rfl; have c21 := hSw.1 21 _ rfl; have c0 := hSw.1 0 _ rfl; have c1 := hSw.1 1 _ rfl; have c2 := hSw.1 2 _ rfl; have c3 := hSw.1 3 _ rfl; have c4 := hSw.1 4 _ rfl; have c5 := hSw.1 5 _ rfl; have c6 := hSw.1 6 _ rfl; have c7 := hSw.1 7 _ rfl; have zc := hSw.2.2; go_simp; try with_reducible rfl)
          change wpAnyH _ _ _ _ _ _ _ (Act.put _ (some 89) _) _
          simp only [Act.put, List.setIfInBounds_toArray, List.set_cons_zero, List.set_cons_succ]
          refine wpAnyH_take (i := 6) (v := ?_) rfl (by kernel_rfl) (by kernel_rfl) (by kernel_rfl) (fun _ _ _ h => h) (Or.inl ⟨by rfl, ?_⟩) (by assumption) ?_
          rotate_left
          · (intro wS hSw; have c16 := hSw.1 16 _ rfl; have c17 := hSw.1 17 _ rfl; have c18 := hSw.1 18 _ rfl; have c19 := hSw.1 19 _ rfl; have c20 := hSw.1 20 _ rfl; have c21 := hSw.1 21 _ rfl; have c0 := hSw.1 0 _ rfl; have c1 := hSw.1 1 _ rfl; have c2 := hSw.1 2 _ rfl; have c3 := hSw.1 3 _ rfl; have c4 := hSw.1 4 _ rfl; have c5 := hSw.1 5 _ rfl; have c6 := hSw.1 6 _ rfl; have c7 := hSw.1 7 _ rfl; have zc := hSw.2.2; go_simp; try with_reducible rfl)
          change wpAnyH _ _ _ _ _ _ _ (Act.put _ (some 90) _) _
          simp only [Act.put, List.setIfInBounds_toArray, List.set_cons_zero, List.set_cons_succ]
          refine wpAnyH_take (i := 7) (v := ?_) rfl (by kernel_rfl) (by kernel_rfl) (by kernel_rfl) (fun _ _ _ h => h) (Or.inl ⟨by rfl, ?_⟩) (by assumption) ?_
          rotate_left
          · (intro wS hSw; have c16 := hSw.1 16 _ rfl; have c17 := hSw.1 17 _ rfl; have c18 := hSw.1 18 _ rfl; have c19 := hSw.1 19 _ rfl; have c20 := hSw.1 20 _ rfl; have c21 := hSw.1 21 _ rfl; have c0 := hSw.1 0 _ rfl; have c1 := hSw.1 1 _ rfl; have c2 := hSw.1 2 _ rfl; have c3 := hSw.1 3 _ rfl; have c4 := hSw.1 4 _ rfl; have c5 := hSw.1 5 _ rfl; have c6 := hSw.1 6 _ rfl; have c7 := hSw.1 7 _ rfl; have zc := hSw.2.2; go_simp; try with_reducible rfl)
          change wpAnyH _ _ _ _ _ _ _ (Act.put _ (some 91) _) _
          simp only [Act.put, List.setIfInBounds_toArray, List.set_cons_zero, List.set_cons_succ]
          refine wpAnyH_take (i := 8) (v := ?_) rfl (by kernel_rfl) (by kernel_rfl) (by kernel_rfl) (fun _ _ _ h => h) (Or.inl ⟨by rfl, ?_⟩) (by assumption) ?_
          rotate_left
          · (intro wS hSw; have c16 := hSw.1 16 _ rfl; have c17 := hSw.1 17 _ rfl; have c18 := hSw.1 18 _ rfl; have c19 := hSw.1 19 _ rfl; have c20 := hSw.1 20 _ rfl; have c21 := hSw.1 21 _ rfl; have c0 := hSw.1 0 _ rfl; have c1 := hSw.1 1 _ rfl; have c2 := hSw.1 2 _ rfl; have c3 := hSw.1 3 _ rfl; have c4 := hSw.1 4 _ rfl; have c5 := hSw.1 5 _ rfl; have c6 := hSw.1 6 _ rfl; have c7 := hSw.1 7 _ rfl; have zc := hSw.2.2; go_simp; try with_reducible rfl)
          change wpAnyH _ _ _ _ _ _ _ (Act.put _ (some 92) _) _
          simp only [Act.put, List.setIfInBounds_toArray, List.set_cons_zero, List.set_cons_succ]
          refine wpAnyH_take (i := 9) (v := ?_) rfl (by kernel_rfl) (by kernel_rfl) (by kernel_rfl) (fun _ _ _ h => h) (Or.inl ⟨by rfl, ?_⟩) (by assumption) ?_
          rotate_left
          · (intro wS hSw; have c16 := hSw.1 16 _ rfl; have c17 := hSw.1 17 _ rfl; have c18 := hSw.1 18 _ rfl; have c19 := hSw.1 19 _ rfl; have c20 := hSw.1 20 _ rfl; have c21 := hSw.1 21 _ rfl; have c0 := hSw.1 0 _ rfl; have c1 := hSw.1 1 _ rfl; have c2 := hSw.1 2 _ rfl; have c3 := hSw.1 3 _ rfl; have c4 := hSw.1 4 _ rfl; have c5 := hSw.1 5 _ rfl; have c6 := hSw.1 6 _ rfl; have c7 := hSw.1 7 _ rfl; have zc := hSw.2.2; go_simp; try with_reducible rfl)
          change wpAnyH _ _ _ _ _ _ _ (Act.put _ (some 93) _) _
          simp only [Act.put, List.setIfInBounds_toArray, List.set_cons_zero, List.set_cons_succ]
          refine wpAnyH_take (i := 10) (v := ?_) rfl (by kernel_rfl) (by kernel_rfl) (by kernel_rfl) (fun _ _ _ h => h) (Or.inl ⟨by rfl, ?_⟩) (by assumption) ?_
          rotate_left
          · (intro wS hSw; have c16 := hSw.1 16 _ rfl; have c17 := hSw.1 17 _ rfl; have c18 := hSw.1 18 _ rfl; have c19 := hSw.1 19 _ rfl; have c20 := hSw.1 20 _ rfl; have c21 := hSw.1 21 _ rfl; have c0 := hSw.1 0 _ rfl; have c1 := hSw.1 1 _ rfl; have c2 := hSw.1 2 _ rfl; have c3 := hSw.1 3 _ rfl; have c4 := hSw.1 4 _ rfl; have c5 := hSw.1 5 _ rfl; have c6 := hSw.1 6 _ rfl; have c7 := hSw.1 7 _ rfl; have zc := hSw.2.2; go_simp; try with_reducible rfl)
          change wpAnyH _ _ _ _ _ _ _ (Act.put _ (some 94) _) _
          simp only [Act.put, List.setIfInBounds_toArray, List.set_cons_zero, List.set_cons_succ]
          refine wpAnyH_take (i := 11) (v := ?_) rfl (by kernel_rfl) (by kernel_rfl) (by kernel_rfl) (fun _ _ _ h => h) (Or.inl ⟨by rfl, ?_⟩) (by assumption) ?_
          rotate_left
          · (intro wS hSw; have c16 := hSw.1 16 _ rfl; have c17 := hSw.1 17 _ rfl; have c18 := hSw.1 18 _ rfl; have c19 := hSw.1 19 _ rfl; have c20 := hSw.1 20 _ rfl; have c21 := hSw.1 21 _ rfl; have c0 := hSw.1 0 _ rfl; have c1 := hSw.1 1 _ rfl; have c2 := hSw.1 2 _ rfl; have c3 := hSw.1 3 _ rfl; have c4 := hSw.1 4 _ rfl; have c5 := hSw.1 5 _ rfl; have c6 := hSw.1 6 _ rfl; have c7 := hSw.1 7 _ rfl; have zc := hSw.2.2; go_simp; try with_reducible rfl)
          change wpAnyH _ _ _ _ _ _ _ (Act.put _ (some 95) _) _
          simp only [Act.put, List.setIfInBounds_toArray, List.set_cons_zero, List.set_cons_succ]
          refine wpAnyH_take (i := 12) (v := ?_) rfl (by kernel_rfl) (by kernel_rfl) (by kernel_rfl) (fun _ _ _ h => h) (Or.inl ⟨by rfl, ?_⟩) (by assumption) ?_
          rotate_left
          · (intro wS hSw; have c16 := hSw.1 16 _ rfl; have c17 := hSw.1 17 _ rfl; have c18 := hSw.1 18 _ rfl; have c19 := hSw.1 19 _ rfl; have c20 := hSw.1 20 _ rfl; have c21 := hSw.1 21 _ rfl; have c0 := hSw.1 0 _ rfl; have c1 := hSw.1 1 _ rfl; have c2 := hSw.1 2 _ rfl; have c3 := hSw.1 3 _ rfl; have c4 := hSw.1 4 _ rfl; have c5 := hSw.1 5 _ rfl; have c6 := hSw.1 6 _ rfl; have c7 := hSw.1 7 _ rfl; have zc := hSw.2.2; go_simp; try with_reducible rfl)
          change wpAnyH _ _ _ _ _ _ _ (Act.put _ (some 96) _) _
          simp only [Act.put, List.setIfInBounds_toArray, List.set_cons_zero, List.set_cons_succ]
          refine wpAnyH_take (i := 13) (v := ?_) rfl (by kernel_rfl) (by kernel_rfl) (by kernel_rfl) (fun _ _ _ h => h) (Or.inl ⟨by rfl, ?_⟩) (by assumption) ?_
          rotate_left
          · (intro wS hSw; have c16 := hSw.1 16 _ rfl; have c17 := hSw.1 17 _ rfl; have c18 := hSw.1 18 _ rfl; have c19 := hSw.1 19 _ rfl; have c20 := hSw.1 20 _ rfl; have c21 := hSw.1 21 _ rfl; have c0 := hSw.1 0 _ rfl; have c1 := hSw.1 1 _ rfl; have c2 := hSw.1 2 _ rfl; have c3 := hSw.1 3 _ rfl; have c4 := hSw.1 4 _ rfl; have c5 := hSw.1 5 _ rfl; have c6 := hSw.1 6 _ rfl; have c7 := hSw.1 7 _ rfl; have zc := hSw.2.2; go_simp; try with_reducible rfl)
          change wpAnyH _ _ _ _ _ _ _ (Act.put _ (some 97) _) _
          simp only [Act.put, List.setIfInBounds_toArray, List.set_cons_zero, List.set_cons_succ]
          refine wpAnyH_take (i := 14) (v := ?_) rfl (by kernel_rfl) (by kernel_rfl) (by kernel_rfl) (fun _ _ _ h => h) (Or.inl ⟨by rfl, ?_⟩) (by assumption) ?_
          rotate_left
          · (intro wS hSw; have c16 := hSw.1 16 _ rfl; have c17 := hSw.1 17 _ rfl; have c18 := hSw.1 18 _ rfl; have c19 := hSw.1 19 _ rfl; have c20 := hSw.1 20 _ rfl; have c21 := hSw.1 21 _ rfl; have c0 := hSw.1 0 _ rfl; have c1 := hSw.1 1 _ rfl; have c2 := hSw.1 2 _ rfl; have c3 := hSw.1 3 _ rfl; have c4 := hSw.1 4 _ rfl; have c5 := hSw.1 5 _ rfl; have c6 := hSw.1 6 _ rfl; have c7 := hSw.1 7 _ rfl; have zc := hSw.2.2; go_simp; try with_reducible rfl)
          change wpAnyH _ _ _ _ _ _ _ (Act.put _ (some 98) _) _
          simp only [Act.put, List.setIfInBounds_toArray, List.set_cons_zero, List.set_cons_succ]
          refine wpAnyH_take (i := 15) (v := ?_) rfl (by kernel_rfl) (by kernel_rfl) (by kernel_rfl) (fun _ _ _ h => h) (Or.inl ⟨by rfl, ?_⟩) (by assumption) ?_
          rotate_left
          · (intro wS hSw; have c16 := hSw.1 16 _ rfl; have c17 := hSw.1 17 _ rfl; have c18 := hSw.1 18 _ rfl; have c19 := hSw.1 19 _ rfl; have c20 := hSw.1 20 _ rfl; have c21 := hSw.1 21 _ rfl; have c0 := hSw.1 0 _ rfl; have c1 := hSw.1 1 _ rfl; have c2 := hSw.1 2 _ rfl; have c3 := hSw.1 3 _ rfl; have c4 := hSw.1 4 _ rfl; have c5 := hSw.1 5 _ rfl; have c6 := hSw.1 6 _ rfl; have c7 := hSw.1 7 _ rfl; have zc := hSw.2.2; go_simp; try with_reducible rfl)
          change wpAnyH _ _ _ _ _ _ _ (Act.put _ (some 99) _) _
          simp only [Act.put, List.setIfInBounds_toArray, List.set_cons_zero, List.set_cons_succ]
          refine wpAnyH_take (i := 16) (v := ?_) rfl (by kernel_rfl) (by kernel_rfl) (by kernel_rfl) (fun _ _ _ h => h) (Or.inl ⟨by rfl, ?_⟩) (by assumption) ?_
          rotate_left
          · (intro wS hSw; have c16 := hSw.1 16 _ rfl; have c17 := hSw.1 17 _ rfl; have c18 := hSw.1 18 _ rfl; have c19 := hSw.1 19 _ rfl; have c20 := hSw.1 20 _ rfl; have c21 := hSw.1 21 _ rfl; have c0 := hSw.1 0 _ rfl; have c1 := hSw.1 1 _ rfl; have c2 := hSw.1 2 _ rfl; have c3 := hSw.1 3 _ rfl; have c4 := hSw.1 4 _ rfl; have c5 := hSw.1 5 _ rfl; have c6 := hSw.1 6 _ rfl; have c7 := hSw.1 7 _ rfl; have zc := hSw.2.2; go_simp; try with_reducible rfl)
          change wpAnyH _ _ _ _ _ _ _ (Act.put _ (some 100) _) _
          simp only [Act.put, List.setIfInBounds_toArray, List.set_cons_zero, List.set_cons_succ]
          refine wpAnyH_take (i := 17) (v := ?_) rfl (by kernel_rfl) (by kernel_rfl) (by kernel_rfl) (fun _ _ _ h => h) (Or.inl ⟨by rfl, ?_⟩) (by assumption) ?_
          rotate_left
          · (intro wS hSw; have c16 := hSw.1 16 _ rfl; have c17 := hSw.1 17 _ rfl; have c18 := hSw.1 18 _ rfl; have c19 := hSw.1 19 _ rfl; have c20 := hSw.1 20 _ rfl; have c21 := hSw.1 21 _ rfl; have c0 := hSw.1 0 _ rfl; have c1 := hSw.1 1 _ rfl; have c2 := hSw.1 2 _ rfl; have c3 := hSw.1 3 _ rfl; have c4 := hSw.1 4 _ rfl; have c5 := hSw.1 5 _ rfl; have c6 := hSw.1 6 _ rfl; have c7 := hSw.1 7 _ rfl; have zc := hSw.2.2; go_simp; try with_reducible rfl)
          change wpAnyH _ _ _ _ _ _ _ (Act.put _ (some 101) _) _
          simp only [Act.put, List.setIfInBounds_toArray, List.set_cons_zero, List.set_cons_succ]
          refine wpAnyH_take (i := 18) (v := ?_) rfl (by kernel_rfl) (by kernel_rfl) (by kernel_rfl) (fun _ _ _ h => h) (Or.inl ⟨by rfl, ?_⟩) (by assumption) ?_
          rotate_left
          · (intro wS hSw; have c16 := hSw.1 16 _ rfl; have c17 := hSw.1 17 _ rfl; have c18 := hSw.1 18 _ rfl; have c19 := hSw.1 19 _ rfl; have c20 := hSw.1 20 _ rfl; have c21 := hSw.1 21 _ rfl; have c0 := hSw.1 0 _ rfl; have c1 := hSw.1 1 _ rfl; have c2 := hSw.1 2 _ rfl; have c3 := hSw.1 3 _ rfl; have c4 := hSw.1 4 _ rfl; have c5 := hSw.1 5 _ rfl; have c6 := hSw.1 6 _ rfl; have c7 := hSw.1 7 _ rfl; have zc := hSw.2.2; go_simp; try with_reducible rfl)
          change wpAnyH _ _ _ _ _ _ _ (Act.put _ (some 102) _) _
          simp only [Act.put, List.setIfInBounds_toArray, List.set_cons_zero, List.set_cons_succ]
          refine wpAnyH_take (i := 20) (v := ?_) rfl (by kernel_rfl) (by kernel_rfl) (by kernel_rfl) (fun _ _ _ h => h) (Or.inl ⟨by rfl, ?_⟩) (by assumption) ?_
          rotate_left
          · (intro wS hSw; have c16 := hSw.1 16 _ rfl; have c17 := hSw.1 17 _ rfl; have c18 := hSw.1 18 _ rfl; have c19 := hSw.1 19 _ rfl; have c20 := hSw.1 20 _ rfl; have c21 := hSw.1 21 _ rfl; have c0 := hSw.1 0 _ rfl; have c1 := hSw.1 1 _ rfl; have c2 := hSw.1 2 _ rfl; have c3 := hSw.1 3 _ rfl; have c4 := hSw.1 4 _ rfl; have c5 := hSw.1 5 _ rfl; have c6 := hSw.1 6 _ rfl; have c7 := hSw.1 7 _ rfl; have zc := hSw.2.2; go_simp; try with_reducible rfl)
          change wpAnyH _ _ _ _ _ _ _ (Act.put _ (some 104) _) _
          simp only [Act.put, List.setIfInBounds_toArray, List.set_cons_zero, List.set_cons_succ]
          refine wpAnyH_take (i := 21) (v := ?_) rfl (by kernel_rfl) (by kernel_rfl) (by kernel_rfl) (fun _ _ _ h => h) (Or.inl ⟨by rfl, ?_⟩) (by assumption) ?_
          rotate_left
          · (intro wS hSw; have c16 := hSw.1 16 _ rfl; have c17 := hSw.1 17 _ rfl; have c18 := hSw.1 18 _ rfl; have c19 := hSw.1 19 _ rfl; have c20 := hSw.1 20 _ rfl; have c21 := hSw.1 21 _ rfl; have c0 := hSw.1 0 _ rfl; have c1 := hSw.1 1 _ rfl; have c2 := hSw.1 2 _ rfl; have c3 := hSw.1 3 _ rfl; have c4 := hSw.1 4 _ rfl; have c5 := hSw.1 5 _ rfl; have c6 := hSw.1 6 _ rfl; have c7 := hSw.1 7 _ rfl; have zc := hSw.2.2; go_simp; try with_reducible rfl)
          change wpAnyH _ _ _ _ _ _ _ (Act.put _ (some 105) _) _
          simp only [Act.put, List.setIfInBounds_toArray, List.set_cons_zero, List.set_cons_succ]
          refine wpAnyH_take (i := 22) (v := ?_) rfl (by kernel_rfl) (by kernel_rfl) (by kernel_rfl) (fun _ _ _ h => h) (Or.inl ⟨by rfl, ?_⟩) (by assumption) ?_
          rotate_left
          · (intro wS hSw; have c16 := hSw.1 16 _ rfl; have c17 := hSw.1 17 _ rfl; have c18 := hSw.1 18 _ rfl; have c19 := hSw.1 19 _ rfl; have c20 := hSw.1 20 _ rfl; have c21 := hSw.1 21 _ rfl; have c0 := hSw.1 0 _ rfl; have c1 := hSw.1 1 _ rfl; have c2 := hSw.1 2 _ rfl; have c3 := hSw.1 3 _ rfl; have c4 := hSw.1 4 _ rfl; have c5 := hSw.1 5 _ rfl; have c6 := hSw.1 6 _ rfl; have c7 := hSw.1 7 _ rfl; have zc := hSw.2.2; go_simp; try with_reducible rfl)
          change wpAnyH _ _ _ _ _ _ _ (Act.put _ (some 106) _) _
          simp only [Act.put, List.setIfInBounds_toArray, List.set_cons_zero, List.set_cons_succ]
          refine wpAnyH_take (i := 23) (v := ?_) rfl (by kernel_rfl) (by kernel_rfl) (by kernel_rfl) (fun _ _ _ h => h) (Or.inl ⟨by rfl, ?_⟩) (by assumption) ?_
          rotate_left
          · (intro wS hSw; have c16 := hSw.1 16 _ rfl; have c17 := hSw.1 17 _ rfl; have c18 := hSw.1 18 _ rfl; have c19 := hSw.1 19 _ rfl; have c20 := hSw.1 20 _ rfl; have c21 := hSw.1 21 _ rfl; have c0 := hSw.1 0 _ rfl; have c1 := hSw.1 1 _ rfl; have c2 := hSw.1 2 _ rfl; have c3 := hSw.1 3 _ rfl; have c4 := hSw.1 4 _ rfl; have c5 := hSw.1 5 _ rfl; have c6 := hSw.1 6 _ rfl; have c7 := hSw.1 7 _ rfl; have zc := hSw.2.2; go_simp; try with_reducible rfl)
          change wpAnyH _ _ _ _ _ _ _ (Act.put _ (some 107) _) _
          simp only [Act.put, List.setIfInBounds_toArray, List.set_cons_zero, List.set_cons_succ]
          refine wpAnyH_ready (rs := [19]) (by kernel_rfl) (by simp) ?_
          refine AllReadyH.cons rfl (fun K hK => ?_) AllReadyH.nil
          go_simp
          refine (OF.out _).mono ?_
          rintro e v1 ⟨rfl, hv1⟩
          have F_1 : Hid (Below w8.heap.size w8 v1) := F_0.out.trans (hv1.mono F_0.out.size)
          clear hv1 F_0
          (try go_wp2_with (fail))
          refine hK.out _ _ ?_ (fun hHeld => ?_)
          · exact Cs.later F_1.out q8
          clear hK K
          refine wpAnyH_ready (rs := [24]) (by kernel_rfl) (by simp) ?_
          refine AllReadyH.cons rfl (fun K hK => ?_) AllReadyH.nil
          go_simp
          refine (E1'.out _).mono ?_
          rintro e v2 ⟨rfl, hv2⟩
          have F_2 : Hid (Below w8.heap.size w8 v2) := F_1.out.trans (hv2.mono F_1.out.size)
          clear hv2 F_1
          (try go_wp2_with (fail))
          refine hK.out _ _ ?_ (fun hHeld => ?_)
          · exact Cs.later F_2.out q8
          clear hK K
          refine wpAnyH_take (i := 25) (v := ?_) rfl (by kernel_rfl) (by kernel_rfl) (by kernel_rfl) (fun _ _ _ h => h) (Or.inl ⟨by rfl, ?_⟩) (by assumption) ?_
          rotate_left
          · (intro wS hSw; have c16 := hSw.1 16 _ rfl; have c17 := hSw.1 17 _ rfl; have c18 := hSw.1 18 _ rfl; have c19 := hSw.1 19 _ rfl; have c20 := hSw.1 20 _ rfl; have c21 := hSw.1 21 _ rfl; have c0 := hSw.1 0 _ rfl; have c1 := hSw.1 1 _ rfl; have c2 := hSw.1 2 _ rfl; have c3 := hSw.1 3 _ rfl; have c4 := hSw.1 4 _ rfl; have c5 := hSw.1 5 _ rfl; have c6 := hSw.1 6 _ rfl; have c7 := hSw.1 7 _ rfl; have zc := hSw.2.2; go_simp; try with_reducible rfl)
          change wpAnyH _ _ _ _ _ _ _ (Act.put _ (some 109) _) _
          simp only [Act.put, List.setIfInBounds_toArray, List.set_cons_zero, List.set_cons_succ]
          refine wpAnyH_take (i := 26) (v := ?_) rfl (by kernel_rfl) (by kernel_rfl) (by kernel_rfl) (fun _ _ _ h => h) (Or.inl ⟨by rfl, ?_⟩) (by assumption) ?_
          rotate_left
          · (intro wS hSw; have c16 := hSw.1 16 _ rfl; have c17 := hSw.1 17 _ rfl; have c18 := hSw.1 18 _ rfl; have c19 := hSw.1 19 _ rfl; have c20 := hSw.1 20 _ rfl; have c21 := hSw.1 21 _ rfl; have c0 := hSw.1 0 _ rfl; have c1 := hSw.1 1 _ rfl; have c2 := hSw.1 2 _ rfl; have c3 := hSw.1 3 _ rfl; have c4 := hSw.1 4 _ rfl; have c5 := hSw.1 5 _ rfl; have c6 := hSw.1 6 _ rfl; have c7 := hSw.1 7 _ rfl; have zc := hSw.2.2; go_simp; try with_reducible rfl)
          change wpAnyH _ _ _ _ _ _ _ (Act.put _ (some 110) _) _
          simp only [Act.put, List.setIfInBounds_toArray, List.set_cons_zero, List.set_cons_succ]
          refine wpAnyH_done (by kernel_rfl) ?_ _
          refine NoPanic.normal ?_
          (try go_wp2)
          go_meet
          case rel => exact ⟨by first | rfl | (cases fb <;> rfl), F_2.out⟩
  case rest =>
    obtain ⟨rfl, hb⟩ := hcut
    have q9 := Cs.later hb q8
    have p9 := Cs.later hb p0
    have r9 := row.later hb
    have g9 := g8.trans (hb.mono g8.size)
    clear hb q8 p0 row g8 g8' E1 HOC
    obtain ⟨w9, hw9⟩ : ∃ w9, w9 = wc := ⟨_, rfl⟩
    rw [← hw9] at q9 p9 r9 g9 ⊢
    clear hw9
    go_upto_if 110 with (fail)
    go_cut [] from 111 to 132 (fun wc => Below w9.heap.size w9 wc)
    case first =>
      cases fb with
      | false =>
        obtain rfl : sv = nought := HW0.out.1 rfl
        have sm : ∀ w : World, Sem.run Try.prog (Op.equalIn 10000 23 (.agg #[.int .i64 0, .int .i64 0, .int .i64 0, .int .i64 0, .int .i64 0, .int .i64 0, .int .i64 0, .int .i64 0]) (.agg #[.int .i64 0, .int .i64 0, .int .i64 0, .int .i64 0, .int .i64 0, .int .i64 0, .int .i64 0, .int .i64 0])) w = .ok true w := fun w => SM.out nought w
        have d0 := p9.1 0 (.int .i64 0) rfl
        have d1 := p9.1 1 (.int .i64 0) rfl
        have d2 := p9.1 2 (.int .i64 0) rfl
        have d3 := p9.1 3 (.int .i64 0) rfl
        have d4 := p9.1 4 (.int .i64 0) rfl
        have d5 := p9.1 5 (.int .i64 0) rfl
        have d6 := p9.1 6 (.int .i64 0) rfl
        have d7 := p9.1 7 (.int .i64 0) rfl
        have zd := p9.2.2
        clear SM
        go_wp2_with (fail)
        go_meet
        case rel => exact Below.refl _ _
      | true =>
        have E3' : Hid (∀ w, Calls Try.prog 14 #[.agg #[.int .i64 (F 0 0), .int .i64 (F 0 1), .int .i64 (F 0 2), .int .i64 (F 0 3), .int .i64 (F 0 4), .int .i64 (F 0 5), .int .i64 (F 0 6), .int .i64 (F 0 7)], setV b, .int .i64 (K 0)] w fun e w' => e = .returned (spV sv) ∧ Below w.heap.size w w') := E3.out rfl
        have sm : ∀ w : World, Sem.run Try.prog (Op.equalIn 10000 23 (.agg #[.int .i64 (sv 0), .int .i64 (sv 1), .int .i64 (sv 2), .int .i64 (sv 3), .int .i64 (sv 4), .int .i64 (sv 5), .int .i64 (sv 6), .int .i64 (sv 7)]) (.agg #[.int .i64 (sv 0), .int .i64 (sv 1), .int .i64 (sv 2), .int .i64 (sv 3), .int .i64 (sv 4), .int .i64 (sv 5), .int .i64 (sv 6), .int .i64 (sv 7)])) w = .ok true w := fun w => SM.out sv w
        clear SM
        go_upto_region 13 with (fail)
        have F_0 : Hid (Below w9.heap.size w9 _) := Below.drew (Below.refl _ _)
        refine wp_region_noPanic ?_
        refine wp_region_held_drew (S := fun w' => Cs w' b1 [.int .i64 (F 0 0), .int .i64 (F 0 1), .int .i64 (F 0 2), .int .i64 (F 0 3), .int .i64 (F 0 4), .int .i64 (F 0 5), .int .i64 (F 0 6), .int .i64 (F 0 7), .int .i64 (F 1 0), .int .i64 (F 1 1), .int .i64 (F 1 2), .int .i64 (F 1 3), .int .i64 (F 1 4), .int .i64 (F 1 5), .int .i64 (F 1 6), .int .i64 (F 1 7), .int .i64 nodes, .int .i64 held, .int .i64 mask, .int .i64 (K 0), .int .i64 (K 1), .int .i64 most] ∧ Cs w' p7 (spL sv)) (by kernel_rfl) ?_ (fun hHeld => ?_)
        · exact ⟨Cs.later F_0.out q9, Cs.later F_0.out p9⟩
        refine wpAnyH_take (i := 0) (v := ?_) rfl (by kernel_rfl) (by kernel_rfl) (by kernel_rfl) (fun _ _ _ h => h) (Or.inl ⟨by rfl, ?_⟩) (by assumption) ?_
        rotate_left
        · (intro wS hSw; have c16 := hSw.1.1 16 _ rfl; have c17 := hSw.1.1 17 _ rfl; have c18 := hSw.1.1 18 _ rfl; have c19 := hSw.1.1 19 _ rfl; have c20 := hSw.1.1 20 _ rfl; have c21 := hSw.1.1 21 _ rfl; have c0 := hSw.1.1 0 _ rfl; have c1 := hSw.1.1 1 _ rfl; have c2 := hSw.1.1 2 _ rfl; have c3 := hSw.1.1 3 _ rfl; have c4 := hSw.1.1 4 _ rfl; have c5 := hSw.1.1 5 _ rfl; have c6 := hSw.1.1 6 _ rfl; have c7 := hSw.1.1 7 _ rfl; have zc := hSw.1.2.2; have d0 := hSw.2.1 0 _ rfl; have d1 := hSw.2.1 1 _ rfl; have d2 := hSw.2.1 2 _ rfl; have d3 := hSw.2.1 3 _ rfl; have d4 := hSw.2.1 4 _ rfl; have d5 := hSw.2.1 5 _ rfl; have d6 := hSw.2.1 6 _ rfl; have d7 := hSw.2.1 7 _ rfl; have zd := hSw.2.2.2; go_simp; try with_reducible rfl)
        change wpAnyH _ _ _ _ _ _ _ (Act.put _ (some 117) _) _
        simp only [Act.put, List.setIfInBounds_toArray, List.set_cons_zero, List.set_cons_succ]
        refine wpAnyH_take (i := 1) (v := ?_) rfl (by kernel_rfl) (by kernel_rfl) (by kernel_rfl) (fun _ _ _ h => h) (Or.inl ⟨by rfl, ?_⟩) (by assumption) ?_
        rotate_left
        · (intro wS hSw; have c16 := hSw.1.1 16 _ rfl; have c17 := hSw.1.1 17 _ rfl; have c18 := hSw.1.1 18 _ rfl; have c19 := hSw.1.1 19 _ rfl; have c20 := hSw.1.1 20 _ rfl; have c21 := hSw.1.1 21 _ rfl; have c0 := hSw.1.1 0 _ rfl; have c1 := hSw.1.1 1 _ rfl; have c2 := hSw.1.1 2 _ rfl; have c3 := hSw.1.1 3 _ rfl; have c4 := hSw.1.1 4 _ rfl; have c5 := hSw.1.1 5 _ rfl; have c6 := hSw.1.1 6 _ rfl; have c7 := hSw.1.1 7 _ rfl; have zc := hSw.1.2.2; have d0 := hSw.2.1 0 _ rfl; have d1 := hSw.2.1 1 _ rfl; have d2 := hSw.2.1 2 _ rfl; have d3 := hSw.2.1 3 _ rfl; have d4 := hSw.2.1 4 _ rfl; have d5 := hSw.2.1 5 _ rfl; have d6 := hSw.2.1 6 _ rfl; have d7 := hSw.2.1 7 _ rfl; have zd := hSw.2.2.2; go_simp; try with_reducible rfl)
        change wpAnyH _ _ _ _ _ _ _ (Act.put _ (some 118) _) _
        simp only [Act.put, List.setIfInBounds_toArray, List.set_cons_zero, List.set_cons_succ]
        refine wpAnyH_take (i := 2) (v := ?_) rfl (by kernel_rfl) (by kernel_rfl) (by kernel_rfl) (fun _ _ _ h => h) (Or.inl ⟨by rfl, ?_⟩) (by assumption) ?_
        rotate_left
        · (intro wS hSw; have c16 := hSw.1.1 16 _ rfl; have c17 := hSw.1.1 17 _ rfl; have c18 := hSw.1.1 18 _ rfl; have c19 := hSw.1.1 19 _ rfl; have c20 := hSw.1.1 20 _ rfl; have c21 := hSw.1.1 21 _ rfl; have c0 := hSw.1.1 0 _ rfl; have c1 := hSw.1.1 1 _ rfl; have c2 := hSw.1.1 2 _ rfl; have c3 := hSw.1.1 3 _ rfl; have c4 := hSw.1.1 4 _ rfl; have c5 := hSw.1.1 5 _ rfl; have c6 := hSw.1.1 6 _ rfl; have c7 := hSw.1.1 7 _ rfl; have zc := hSw.1.2.2; have d0 := hSw.2.1 0 _ rfl; have d1 := hSw.2.1 1 _ rfl; have d2 := hSw.2.1 2 _ rfl; have d3 := hSw.2.1 3 _ rfl; have d4 := hSw.2.1 4 _ rfl; have d5 := hSw.2.1 5 _ rfl; have d6 := hSw.2.1 6 _ rfl; have d7 := hSw.2.1 7 _ rfl; have zd := hSw.2.2.2; go_simp; try with_reducible rfl)
        change wpAnyH _ _ _ _ _ _ _ (Act.put _ (some 119) _) _
        simp only [Act.put, List.setIfInBounds_toArray, List.set_cons_zero, List.set_cons_succ]
        refine wpAnyH_take (i := 3) (v := ?_) rfl (by kernel_rfl) (by kernel_rfl) (by kernel_rfl) (fun _ _ _ h => h) (Or.inl ⟨by rfl, ?_⟩) (by assumption) ?_
        rotate_left
        · (intro wS hSw; have c16 := hSw.1.1 16 _ rfl; have c17 := hSw.1.1 17 _ rfl; have c18 := hSw.1.1 18 _ rfl; have c19 := hSw.1.1 19 _ rfl; have c20 := hSw.1.1 20 _ rfl; have c21 := hSw.1.1 21 _ rfl; have c0 := hSw.1.1 0 _ rfl; have c1 := hSw.1.1 1 _ rfl; have c2 := hSw.1.1 2 _ rfl; have c3 := hSw.1.1 3 _ rfl; have c4 := hSw.1.1 4 _ rfl; have c5 := hSw.1.1 5 _ rfl; have c6 := hSw.1.1 6 _ rfl; have c7 := hSw.1.1 7 _ rfl; have zc := hSw.1.2.2; have d0 := hSw.2.1 0 _ rfl; have d1 := hSw.2.1 1 _ rfl; have d2 := hSw.2.1 2 _ rfl; have d3 := hSw.2.1 3 _ rfl; have d4 := hSw.2.1 4 _ rfl; have d5 := hSw.2.1 5 _ rfl; have d6 := hSw.2.1 6 _ rfl; have d7 := hSw.2.1 7 _ rfl; have zd := hSw.2.2.2; go_simp; try with_reducible rfl)
        change wpAnyH _ _ _ _ _ _ _ (Act.put _ (some 120) _) _
        simp only [Act.put, List.setIfInBounds_toArray, List.set_cons_zero, List.set_cons_succ]
        refine wpAnyH_take (i := 4) (v := ?_) rfl (by kernel_rfl) (by kernel_rfl) (by kernel_rfl) (fun _ _ _ h => h) (Or.inl ⟨by rfl, ?_⟩) (by assumption) ?_
        rotate_left
        · (intro wS hSw; have c16 := hSw.1.1 16 _ rfl; have c17 := hSw.1.1 17 _ rfl; have c18 := hSw.1.1 18 _ rfl; have c19 := hSw.1.1 19 _ rfl; have c20 := hSw.1.1 20 _ rfl; have c21 := hSw.1.1 21 _ rfl; have c0 := hSw.1.1 0 _ rfl; have c1 := hSw.1.1 1 _ rfl; have c2 := hSw.1.1 2 _ rfl; have c3 := hSw.1.1 3 _ rfl; have c4 := hSw.1.1 4 _ rfl; have c5 := hSw.1.1 5 _ rfl; have c6 := hSw.1.1 6 _ rfl; have c7 := hSw.1.1 7 _ rfl; have zc := hSw.1.2.2; have d0 := hSw.2.1 0 _ rfl; have d1 := hSw.2.1 1 _ rfl; have d2 := hSw.2.1 2 _ rfl; have d3 := hSw.2.1 3 _ rfl; have d4 := hSw.2.1 4 _ rfl; have d5 := hSw.2.1 5 _ rfl; have d6 := hSw.2.1 6 _ rfl; have d7 := hSw.2.1 7 _ rfl; have zd := hSw.2.2.2; go_simp; try with_reducible rfl)
        change wpAnyH _ _ _ _ _ _ _ (Act.put _ (some 121) _) _
        simp only [Act.put, List.setIfInBounds_toArray, List.set_cons_zero, List.set_cons_succ]
        refine wpAnyH_take (i := 5) (v := ?_) rfl (by kernel_rfl) (by kernel_rfl) (by kernel_rfl) (fun _ _ _ h => h) (Or.inl ⟨by rfl, ?_⟩) (by assumption) ?_
        rotate_left
        · (intro wS hSw; have c16 := hSw.1.1 16 _ rfl; have c17 := hSw.1.1 17 _ rfl; have c18 := hSw.1.1 18 _ rfl; have c19 := hSw.1.1 19 _ rfl; have c20 := hSw.1.1 20 _ rfl; have c21 := hSw.1.1 21 _ rfl; have c0 := hSw.1.1 0 _ rfl; have c1 := hSw.1.1 1 _ rfl; have c2 := hSw.1.1 2 _ rfl; have c3 := hSw.1.1 3 _ rfl; have c4 := hSw.1.1 4 _ rfl; have c5 := hSw.1.1 5 _ rfl; have c6 := hSw.1.1 6 _ rfl; have c7 := hSw.1.1 7 _ rfl; have zc := hSw.1.2.2; have d0 := hSw.2.1 0 _ rfl; have d1 := hSw.2.1 1 _ rfl; have d2 := hSw.2.1 2 _ rfl; have d3 := hSw.2.1 3 _ rfl; have d4 := hSw.2.1 4 _ rfl; have d5 := hSw.2.1 5 _ rfl; have d6 := hSw.2.1 6 _ rfl; have d7 := hSw.2.1 7 _ rfl; have zd := hSw.2.2.2; go_simp; try with_reducible rfl)
        change wpAnyH _ _ _ _ _ _ _ (Act.put _ (some 122) _) _
        simp only [Act.put, List.setIfInBounds_toArray, List.set_cons_zero, List.set_cons_succ]
        refine wpAnyH_take (i := 6) (v := ?_) rfl (by kernel_rfl) (by kernel_rfl) (by kernel_rfl) (fun _ _ _ h => h) (Or.inl ⟨by rfl, ?_⟩) (by assumption) ?_
        rotate_left
        · (intro wS hSw; have c16 := hSw.1.1 16 _ rfl; have c17 := hSw.1.1 17 _ rfl; have c18 := hSw.1.1 18 _ rfl; have c19 := hSw.1.1 19 _ rfl; have c20 := hSw.1.1 20 _ rfl; have c21 := hSw.1.1 21 _ rfl; have c0 := hSw.1.1 0 _ rfl; have c1 := hSw.1.1 1 _ rfl; have c2 := hSw.1.1 2 _ rfl; have c3 := hSw.1.1 3 _ rfl; have c4 := hSw.1.1 4 _ rfl; have c5 := hSw.1.1 5 _ rfl; have c6 := hSw.1.1 6 _ rfl; have c7 := hSw.1.1 7 _ rfl; have zc := hSw.1.2.2; have d0 := hSw.2.1 0 _ rfl; have d1 := hSw.2.1 1 _ rfl; have d2 := hSw.2.1 2 _ rfl; have d3 := hSw.2.1 3 _ rfl; have d4 := hSw.2.1 4 _ rfl; have d5 := hSw.2.1 5 _ rfl; have d6 := hSw.2.1 6 _ rfl; have d7 := hSw.2.1 7 _ rfl; have zd := hSw.2.2.2; go_simp; try with_reducible rfl)
        change wpAnyH _ _ _ _ _ _ _ (Act.put _ (some 123) _) _
        simp only [Act.put, List.setIfInBounds_toArray, List.set_cons_zero, List.set_cons_succ]
        refine wpAnyH_take (i := 7) (v := ?_) rfl (by kernel_rfl) (by kernel_rfl) (by kernel_rfl) (fun _ _ _ h => h) (Or.inl ⟨by rfl, ?_⟩) (by assumption) ?_
        rotate_left
        · (intro wS hSw; have c16 := hSw.1.1 16 _ rfl; have c17 := hSw.1.1 17 _ rfl; have c18 := hSw.1.1 18 _ rfl; have c19 := hSw.1.1 19 _ rfl; have c20 := hSw.1.1 20 _ rfl; have c21 := hSw.1.1 21 _ rfl; have c0 := hSw.1.1 0 _ rfl; have c1 := hSw.1.1 1 _ rfl; have c2 := hSw.1.1 2 _ rfl; have c3 := hSw.1.1 3 _ rfl; have c4 := hSw.1.1 4 _ rfl; have c5 := hSw.1.1 5 _ rfl; have c6 := hSw.1.1 6 _ rfl; have c7 := hSw.1.1 7 _ rfl; have zc := hSw.1.2.2; have d0 := hSw.2.1 0 _ rfl; have d1 := hSw.2.1 1 _ rfl; have d2 := hSw.2.1 2 _ rfl; have d3 := hSw.2.1 3 _ rfl; have d4 := hSw.2.1 4 _ rfl; have d5 := hSw.2.1 5 _ rfl; have d6 := hSw.2.1 6 _ rfl; have d7 := hSw.2.1 7 _ rfl; have zd := hSw.2.2.2; go_simp; try with_reducible rfl)
        change wpAnyH _ _ _ _ _ _ _ (Act.put _ (some 124) _) _
        simp only [Act.put, List.setIfInBounds_toArray, List.set_cons_zero, List.set_cons_succ]
        refine wpAnyH_take (i := 8) (v := ?_) rfl (by kernel_rfl) (by kernel_rfl) (by kernel_rfl) (fun _ _ _ h => h) (Or.inl ⟨by rfl, ?_⟩) (by assumption) ?_
        rotate_left
        · (intro wS hSw; have c16 := hSw.1.1 16 _ rfl; have c17 := hSw.1.1 17 _ rfl; have c18 := hSw.1.1 18 _ rfl; have c19 := hSw.1.1 19 _ rfl; have c20 := hSw.1.1 20 _ rfl; have c21 := hSw.1.1 21 _ rfl; have c0 := hSw.1.1 0 _ rfl; have c1 := hSw.1.1 1 _ rfl; have c2 := hSw.1.1 2 _ rfl; have c3 := hSw.1.1 3 _ rfl; have c4 := hSw.1.1 4 _ rfl; have c5 := hSw.1.1 5 _ rfl; have c6 := hSw.1.1 6 _ rfl; have c7 := hSw.1.1 7 _ rfl; have zc := hSw.1.2.2; have d0 := hSw.2.1 0 _ rfl; have d1 := hSw.2.1 1 _ rfl; have d2 := hSw.2.1 2 _ rfl; have d3 := hSw.2.1 3 _ rfl; have d4 := hSw.2.1 4 _ rfl; have d5 := hSw.2.1 5 _ rfl; have d6 := hSw.2.1 6 _ rfl; have d7 := hSw.2.1 7 _ rfl; have zd := hSw.2.2.2; go_simp; try with_reducible rfl)
        change wpAnyH _ _ _ _ _ _ _ (Act.put _ (some 125) _) _
        simp only [Act.put, List.setIfInBounds_toArray, List.set_cons_zero, List.set_cons_succ]
        refine wpAnyH_take (i := 10) (v := ?_) rfl (by kernel_rfl) (by kernel_rfl) (by kernel_rfl) (fun _ _ _ h => h) (Or.inl ⟨by rfl, ?_⟩) (by assumption) ?_
        rotate_left
        · (intro wS hSw; have c16 := hSw.1.1 16 _ rfl; have c17 := hSw.1.1 17 _ rfl; have c18 := hSw.1.1 18 _ rfl; have c19 := hSw.1.1 19 _ rfl; have c20 := hSw.1.1 20 _ rfl; have c21 := hSw.1.1 21 _ rfl; have c0 := hSw.1.1 0 _ rfl; have c1 := hSw.1.1 1 _ rfl; have c2 := hSw.1.1 2 _ rfl; have c3 := hSw.1.1 3 _ rfl; have c4 := hSw.1.1 4 _ rfl; have c5 := hSw.1.1 5 _ rfl; have c6 := hSw.1.1 6 _ rfl; have c7 := hSw.1.1 7 _ rfl; have zc := hSw.1.2.2; have d0 := hSw.2.1 0 _ rfl; have d1 := hSw.2.1 1 _ rfl; have d2 := hSw.2.1 2 _ rfl; have d3 := hSw.2.1 3 _ rfl; have d4 := hSw.2.1 4 _ rfl; have d5 := hSw.2.1 5 _ rfl; have d6 := hSw.2.1 6 _ rfl; have d7 := hSw.2.1 7 _ rfl; have zd := hSw.2.2.2; go_simp; try with_reducible rfl)
        change wpAnyH _ _ _ _ _ _ _ (Act.put _ (some 127) _) _
        simp only [Act.put, List.setIfInBounds_toArray, List.set_cons_zero, List.set_cons_succ]
        refine wpAnyH_take (i := 11) (v := ?_) rfl (by kernel_rfl) (by kernel_rfl) (by kernel_rfl) (fun _ _ _ h => h) (Or.inl ⟨by rfl, ?_⟩) (by assumption) ?_
        rotate_left
        · (intro wS hSw; have c16 := hSw.1.1 16 _ rfl; have c17 := hSw.1.1 17 _ rfl; have c18 := hSw.1.1 18 _ rfl; have c19 := hSw.1.1 19 _ rfl; have c20 := hSw.1.1 20 _ rfl; have c21 := hSw.1.1 21 _ rfl; have c0 := hSw.1.1 0 _ rfl; have c1 := hSw.1.1 1 _ rfl; have c2 := hSw.1.1 2 _ rfl; have c3 := hSw.1.1 3 _ rfl; have c4 := hSw.1.1 4 _ rfl; have c5 := hSw.1.1 5 _ rfl; have c6 := hSw.1.1 6 _ rfl; have c7 := hSw.1.1 7 _ rfl; have zc := hSw.1.2.2; have d0 := hSw.2.1 0 _ rfl; have d1 := hSw.2.1 1 _ rfl; have d2 := hSw.2.1 2 _ rfl; have d3 := hSw.2.1 3 _ rfl; have d4 := hSw.2.1 4 _ rfl; have d5 := hSw.2.1 5 _ rfl; have d6 := hSw.2.1 6 _ rfl; have d7 := hSw.2.1 7 _ rfl; have zd := hSw.2.2.2; go_simp; try with_reducible rfl)
        change wpAnyH _ _ _ _ _ _ _ (Act.put _ (some 128) _) _
        simp only [Act.put, List.setIfInBounds_toArray, List.set_cons_zero, List.set_cons_succ]
        refine wpAnyH_take (i := 12) (v := ?_) rfl (by kernel_rfl) (by kernel_rfl) (by kernel_rfl) (fun _ _ _ h => h) (Or.inl ⟨by rfl, ?_⟩) (by assumption) ?_
        rotate_left
        · (intro wS hSw; have c16 := hSw.1.1 16 _ rfl; have c17 := hSw.1.1 17 _ rfl; have c18 := hSw.1.1 18 _ rfl; have c19 := hSw.1.1 19 _ rfl; have c20 := hSw.1.1 20 _ rfl; have c21 := hSw.1.1 21 _ rfl; have c0 := hSw.1.1 0 _ rfl; have c1 := hSw.1.1 1 _ rfl; have c2 := hSw.1.1 2 _ rfl; have c3 := hSw.1.1 3 _ rfl; have c4 := hSw.1.1 4 _ rfl; have c5 := hSw.1.1 5 _ rfl; have c6 := hSw.1.1 6 _ rfl; have c7 := hSw.1.1 7 _ rfl; have zc := hSw.1.2.2; have d0 := hSw.2.1 0 _ rfl; have d1 := hSw.2.1 1 _ rfl; have d2 := hSw.2.1 2 _ rfl; have d3 := hSw.2.1 3 _ rfl; have d4 := hSw.2.1 4 _ rfl; have d5 := hSw.2.1 5 _ rfl; have d6 := hSw.2.1 6 _ rfl; have d7 := hSw.2.1 7 _ rfl; have zd := hSw.2.2.2; go_simp; try with_reducible rfl)
        change wpAnyH _ _ _ _ _ _ _ (Act.put _ (some 129) _) _
        simp only [Act.put, List.setIfInBounds_toArray, List.set_cons_zero, List.set_cons_succ]
        refine wpAnyH_ready (rs := [9]) (by kernel_rfl) (by simp) ?_
        refine AllReadyH.cons rfl (fun K hK => ?_) AllReadyH.nil
        go_simp
        refine (OF.out _).mono ?_
        rintro e v1 ⟨rfl, hv1⟩
        have F_1 : Hid (Below w9.heap.size w9 v1) := F_0.out.trans (hv1.mono F_0.out.size)
        clear hv1 F_0
        (try go_wp2_with (fail))
        refine hK.out _ _ ?_ (fun hHeld => ?_)
        · exact ⟨Cs.later F_1.out q9, Cs.later F_1.out p9⟩
        clear hK K
        refine wpAnyH_ready (rs := [13]) (by kernel_rfl) (by simp) ?_
        refine AllReadyH.cons rfl (fun K hK => ?_) AllReadyH.nil
        go_simp
        refine (E3'.out _).mono ?_
        rintro e v2 ⟨rfl, hv2⟩
        have F_2 : Hid (Below w9.heap.size w9 v2) := F_1.out.trans (hv2.mono F_1.out.size)
        clear hv2 F_1
        (try go_wp2_with (fail))
        refine hK.out _ _ ?_ (fun hHeld => ?_)
        · exact ⟨Cs.later F_2.out q9, Cs.later F_2.out p9⟩
        clear hK K
        refine wpAnyH_take (i := 14) (v := ?_) rfl (by kernel_rfl) (by kernel_rfl) (by kernel_rfl) (fun _ _ _ h => h) (Or.inl ⟨by rfl, ?_⟩) (by assumption) ?_
        rotate_left
        · (intro wS hSw; have c16 := hSw.1.1 16 _ rfl; have c17 := hSw.1.1 17 _ rfl; have c18 := hSw.1.1 18 _ rfl; have c19 := hSw.1.1 19 _ rfl; have c20 := hSw.1.1 20 _ rfl; have c21 := hSw.1.1 21 _ rfl; have c0 := hSw.1.1 0 _ rfl; have c1 := hSw.1.1 1 _ rfl; have c2 := hSw.1.1 2 _ rfl; have c3 := hSw.1.1 3 _ rfl; have c4 := hSw.1.1 4 _ rfl; have c5 := hSw.1.1 5 _ rfl; have c6 := hSw.1.1 6 _ rfl; have c7 := hSw.1.1 7 _ rfl; have zc := hSw.1.2.2; have d0 := hSw.2.1 0 _ rfl; have d1 := hSw.2.1 1 _ rfl; have d2 := hSw.2.1 2 _ rfl; have d3 := hSw.2.1 3 _ rfl; have d4 := hSw.2.1 4 _ rfl; have d5 := hSw.2.1 5 _ rfl; have d6 := hSw.2.1 6 _ rfl; have d7 := hSw.2.1 7 _ rfl; have zd := hSw.2.2.2; go_simp; try with_reducible rfl)
        change wpAnyH _ _ _ _ _ _ _ (Act.put _ (some 131) _) _
        simp only [Act.put, List.setIfInBounds_toArray, List.set_cons_zero, List.set_cons_succ]
        refine wpAnyH_take (i := 15) (v := ?_) rfl (by kernel_rfl) (by kernel_rfl) (by kernel_rfl) (fun _ _ _ h => h) (Or.inl ⟨by rfl, ?_⟩) (by assumption) ?_
        rotate_left
        · (intro wS hSw; have c16 := hSw.1.1 16 _ rfl; have c17 := hSw.1.1 17 _ rfl; have c18 := hSw.1.1 18 _ rfl; have c19 := hSw.1.1 19 _ rfl; have c20 := hSw.1.1 20 _ rfl; have c21 := hSw.1.1 21 _ rfl; have c0 := hSw.1.1 0 _ rfl; have c1 := hSw.1.1 1 _ rfl; have c2 := hSw.1.1 2 _ rfl; have c3 := hSw.1.1 3 _ rfl; have c4 := hSw.1.1 4 _ rfl; have c5 := hSw.1.1 5 _ rfl; have c6 := hSw.1.1 6 _ rfl; have c7 := hSw.1.1 7 _ rfl; have zc := hSw.1.2.2; have d0 := hSw.2.1 0 _ rfl; have d1 := hSw.2.1 1 _ rfl; have d2 := hSw.2.1 2 _ rfl; have d3 := hSw.2.1 3 _ rfl; have d4 := hSw.2.1 4 _ rfl; have d5 := hSw.2.1 5 _ rfl; have d6 := hSw.2.1 6 _ rfl; have d7 := hSw.2.1 7 _ rfl; have zd := hSw.2.2.2; go_simp; try with_reducible rfl)
        change wpAnyH _ _ _ _ _ _ _ (Act.put _ (some 132) _) _
        simp only [Act.put, List.setIfInBounds_toArray, List.set_cons_zero, List.set_cons_succ]
        refine wpAnyH_done (by kernel_rfl) ?_ _
        refine NoPanic.normal ?_
        (try go_wp2)
        go_meet
        case rel => exact F_2.out
    case rest =>
      have q10 := Cs.later hcut q9
      have r10 := r9.later hcut
      have g10 := g9.trans (hcut.mono g9.size)
      clear hcut q9 p9 r9 g9 E3 HW0 SM
      obtain ⟨w10, hw10⟩ : ∃ w10, w10 = wc := ⟨_, rfl⟩
      rw [← hw10] at q10 r10 g10 ⊢
      clear hw10
      go_upto_region 15 with (fail)
      go_cut [161] from 133 to 161 (fun s wc => s = .bool false ∧ Below w10.heap.size w10 wc)
      case first =>
        have PMm := PM.out.1
        have HE := HEN.out.1
        cases right with
        | false =>
          obtain rfl : eb = false := HE
          clear PMm
          have F_0 : Hid (Below w10.heap.size w10 _) := Below.drew (Below.refl _ _)
          refine wp_region_noPanic ?_
          refine wp_region_held_drew (S := fun w' => Cs w' b1 [.int .i64 (F 0 0), .int .i64 (F 0 1), .int .i64 (F 0 2), .int .i64 (F 0 3), .int .i64 (F 0 4), .int .i64 (F 0 5), .int .i64 (F 0 6), .int .i64 (F 0 7), .int .i64 (F 1 0), .int .i64 (F 1 1), .int .i64 (F 1 2), .int .i64 (F 1 3), .int .i64 (F 1 4), .int .i64 (F 1 5), .int .i64 (F 1 6), .int .i64 (F 1 7), .int .i64 nodes, .int .i64 held, .int .i64 mask, .int .i64 (K 0), .int .i64 (K 1), .int .i64 most]) (by kernel_rfl) ?_ (fun hHeld => ?_)
          · exact Cs.later F_0.out q10
          refine wpAnyH_take (i := 0) (v := ?_) rfl (by kernel_rfl) (by kernel_rfl) (by kernel_rfl) (fun _ _ _ h => h) (Or.inl ⟨by rfl, ?_⟩) (by assumption) ?_
          rotate_left
          · (intro wS hSw; have c16 := hSw.1 16 _ rfl; have c17 := hSw.1 17 _ rfl; have c18 := hSw.1 18 _ rfl; have c19 := hSw.1 19 _ rfl; have c20 := hSw.1 20 _ rfl; have c21 := hSw.1 21 _ rfl; have c0 := hSw.1 0 _ rfl; have c1 := hSw.1 1 _ rfl; have c2 := hSw.1 2 _ rfl; have c3 := hSw.1 3 _ rfl; have c4 := hSw.1 4 _ rfl; have c5 := hSw.1 5 _ rfl; have c6 := hSw.1 6 _ rfl; have c7 := hSw.1 7 _ rfl; have zc := hSw.2.2; go_simp; try with_reducible rfl)
          change wpAnyH _ _ _ _ _ _ _ (Act.put _ (some 133) _) _
          simp only [Act.put, List.setIfInBounds_toArray, List.set_cons_zero, List.set_cons_succ]
          refine wpAnyH_take (i := 1) rfl (by kernel_rfl) (by kernel_rfl) (by kernel_rfl) (fun _ _ _ h => h) (yld16 (F := F) (by rfl) (.tmp 133) rfl rfl (fun _ hSx => case_free hSx)) (by assumption) ?_
          change wpAnyH _ _ _ _ _ _ _ (Act.put _ (some 134) _) _
          simp only [Act.put, List.setIfInBounds_toArray, List.set_cons_zero, List.set_cons_succ]
          refine wpAnyH_take (i := 2) (v := ?_) rfl (by kernel_rfl) (by kernel_rfl) (by kernel_rfl) (fun _ _ _ h => h) (Or.inl ⟨by rfl, ?_⟩) (by assumption) ?_
          rotate_left
          · (intro wS hSw; have c16 := hSw.1 16 _ rfl; have c17 := hSw.1 17 _ rfl; have c18 := hSw.1 18 _ rfl; have c19 := hSw.1 19 _ rfl; have c20 := hSw.1 20 _ rfl; have c21 := hSw.1 21 _ rfl; have c0 := hSw.1 0 _ rfl; have c1 := hSw.1 1 _ rfl; have c2 := hSw.1 2 _ rfl; have c3 := hSw.1 3 _ rfl; have c4 := hSw.1 4 _ rfl; have c5 := hSw.1 5 _ rfl; have c6 := hSw.1 6 _ rfl; have c7 := hSw.1 7 _ rfl; have zc := hSw.2.2; go_simp; try with_reducible rfl)
          change wpAnyH _ _ _ _ _ _ _ (Act.put _ (some 135) _) _
          simp only [Act.put, List.setIfInBounds_toArray, List.set_cons_zero, List.set_cons_succ]
          refine wpAnyH_take (i := 3) (v := ?_) rfl (by kernel_rfl) (by kernel_rfl) (by kernel_rfl) (fun _ _ _ h => h) (Or.inl ⟨by rfl, ?_⟩) (by assumption) ?_
          rotate_left
          · (intro wS hSw; have c16 := hSw.1 16 _ rfl; have c17 := hSw.1 17 _ rfl; have c18 := hSw.1 18 _ rfl; have c19 := hSw.1 19 _ rfl; have c20 := hSw.1 20 _ rfl; have c21 := hSw.1 21 _ rfl; have c0 := hSw.1 0 _ rfl; have c1 := hSw.1 1 _ rfl; have c2 := hSw.1 2 _ rfl; have c3 := hSw.1 3 _ rfl; have c4 := hSw.1 4 _ rfl; have c5 := hSw.1 5 _ rfl; have c6 := hSw.1 6 _ rfl; have c7 := hSw.1 7 _ rfl; have zc := hSw.2.2; go_simp; try with_reducible rfl)
          change wpAnyH _ _ _ _ _ _ _ (Act.put _ (some 136) _) _
          simp only [Act.put, List.setIfInBounds_toArray, List.set_cons_zero, List.set_cons_succ]
          refine wpAnyH_take (i := 4) (v := ?_) rfl (by kernel_rfl) (by kernel_rfl) (by kernel_rfl) (fun _ _ _ h => h) (Or.inl ⟨by rfl, ?_⟩) (by assumption) ?_
          rotate_left
          · (intro wS hSw; have c16 := hSw.1 16 _ rfl; have c17 := hSw.1 17 _ rfl; have c18 := hSw.1 18 _ rfl; have c19 := hSw.1 19 _ rfl; have c20 := hSw.1 20 _ rfl; have c21 := hSw.1 21 _ rfl; have c0 := hSw.1 0 _ rfl; have c1 := hSw.1 1 _ rfl; have c2 := hSw.1 2 _ rfl; have c3 := hSw.1 3 _ rfl; have c4 := hSw.1 4 _ rfl; have c5 := hSw.1 5 _ rfl; have c6 := hSw.1 6 _ rfl; have c7 := hSw.1 7 _ rfl; have zc := hSw.2.2; go_simp; try with_reducible rfl)
          change wpAnyH _ _ _ _ _ _ _ (Act.put _ (some 137) _) _
          simp only [Act.put, List.setIfInBounds_toArray, List.set_cons_zero, List.set_cons_succ]
          refine wpAnyH_take (i := 5) (v := ?_) rfl (by kernel_rfl) (by kernel_rfl) (by kernel_rfl) (fun _ _ _ h => h) (Or.inl ⟨by rfl, ?_⟩) (by assumption) ?_
          rotate_left
          · (intro wS hSw; have c16 := hSw.1 16 _ rfl; have c17 := hSw.1 17 _ rfl; have c18 := hSw.1 18 _ rfl; have c19 := hSw.1 19 _ rfl; have c20 := hSw.1 20 _ rfl; have c21 := hSw.1 21 _ rfl; have c0 := hSw.1 0 _ rfl; have c1 := hSw.1 1 _ rfl; have c2 := hSw.1 2 _ rfl; have c3 := hSw.1 3 _ rfl; have c4 := hSw.1 4 _ rfl; have c5 := hSw.1 5 _ rfl; have c6 := hSw.1 6 _ rfl; have c7 := hSw.1 7 _ rfl; have zc := hSw.2.2; go_simp; try with_reducible rfl)
          change wpAnyH _ _ _ _ _ _ _ (Act.put _ (some 138) _) _
          simp only [Act.put, List.setIfInBounds_toArray, List.set_cons_zero, List.set_cons_succ]
          refine wpAnyH_take (i := 7) (v := ?_) rfl (by kernel_rfl) (by kernel_rfl) (by kernel_rfl) (fun _ _ _ h => h) (Or.inl ⟨by rfl, ?_⟩) (by assumption) ?_
          rotate_left
          · (intro wS hSw; have c16 := hSw.1 16 _ rfl; have c17 := hSw.1 17 _ rfl; have c18 := hSw.1 18 _ rfl; have c19 := hSw.1 19 _ rfl; have c20 := hSw.1 20 _ rfl; have c21 := hSw.1 21 _ rfl; have c0 := hSw.1 0 _ rfl; have c1 := hSw.1 1 _ rfl; have c2 := hSw.1 2 _ rfl; have c3 := hSw.1 3 _ rfl; have c4 := hSw.1 4 _ rfl; have c5 := hSw.1 5 _ rfl; have c6 := hSw.1 6 _ rfl; have c7 := hSw.1 7 _ rfl; have zc := hSw.2.2; go_simp; try with_reducible rfl)
          change wpAnyH _ _ _ _ _ _ _ (Act.put _ (some 140) _) _
          simp only [Act.put, List.setIfInBounds_toArray, List.set_cons_zero, List.set_cons_succ]
          refine wpAnyH_ready (rs := [6]) (by kernel_rfl) (by simp) ?_
          refine AllReadyH.cons rfl (fun K hK => ?_) AllReadyH.nil
          go_simp
          refine (EN.out _).mono ?_
          rintro e v1 ⟨rfl, hv1⟩
          have F_1 : Hid (Below w10.heap.size w10 v1) := F_0.out.trans (hv1.mono F_0.out.size)
          clear hv1 F_0
          (try go_wp2_with (fail))
          refine hK.out _ _ ?_ (fun hHeld => ?_)
          · exact Cs.later F_1.out q10
          clear hK K
          refine wpAnyH_take (i := 8) (v := ?_) rfl (by kernel_rfl) (by kernel_rfl) (by kernel_rfl) (fun _ _ _ h => h) (Or.inl ⟨by rfl, ?_⟩) (by assumption) ?_
          rotate_left
          · (intro wS hSw; have c16 := hSw.1 16 _ rfl; have c17 := hSw.1 17 _ rfl; have c18 := hSw.1 18 _ rfl; have c19 := hSw.1 19 _ rfl; have c20 := hSw.1 20 _ rfl; have c21 := hSw.1 21 _ rfl; have c0 := hSw.1 0 _ rfl; have c1 := hSw.1 1 _ rfl; have c2 := hSw.1 2 _ rfl; have c3 := hSw.1 3 _ rfl; have c4 := hSw.1 4 _ rfl; have c5 := hSw.1 5 _ rfl; have c6 := hSw.1 6 _ rfl; have c7 := hSw.1 7 _ rfl; have zc := hSw.2.2; go_simp; try with_reducible rfl)
          change wpAnyH _ _ _ _ _ _ _ (Act.put _ (some 141) _) _
          simp only [Act.put, List.setIfInBounds_toArray, List.set_cons_zero, List.set_cons_succ]
          refine wpAnyH_take (i := 9) (v := undef) rfl (by kernel_rfl) (by kernel_rfl) (by kernel_rfl) (fun _ _ _ h => h) (Or.inr ⟨by rfl, rfl⟩) (by assumption) ?_
          change wpAnyH _ _ _ _ _ _ _ (Act.put _ (some 142) _) _
          simp only [Act.put, List.setIfInBounds_toArray, List.set_cons_zero, List.set_cons_succ]
          refine wpAnyH_take (i := 10) (v := undef) rfl (by kernel_rfl) (by kernel_rfl) (by kernel_rfl) (fun _ _ _ h => h) (Or.inr ⟨by rfl, rfl⟩) (by assumption) ?_
          change wpAnyH _ _ _ _ _ _ _ (Act.put _ (some 143) _) _
          simp only [Act.put, List.setIfInBounds_toArray, List.set_cons_zero, List.set_cons_succ]
          refine wpAnyH_take (i := 11) (v := undef) rfl (by kernel_rfl) (by kernel_rfl) (by kernel_rfl) (fun _ _ _ h => h) (Or.inr ⟨by rfl, rfl⟩) (by assumption) ?_
          change wpAnyH _ _ _ _ _ _ _ (Act.put _ (some 144) _) _
          simp only [Act.put, List.setIfInBounds_toArray, List.set_cons_zero, List.set_cons_succ]
          refine wpAnyH_take (i := 12) (v := ?_) rfl (by kernel_rfl) (by kernel_rfl) (by kernel_rfl) (fun _ _ _ h => h) (Or.inl ⟨by rfl, ?_⟩) (by assumption) ?_
          rotate_left
          · (intro wS hSw; have c16 := hSw.1 16 _ rfl; have c17 := hSw.1 17 _ rfl; have c18 := hSw.1 18 _ rfl; have c19 := hSw.1 19 _ rfl; have c20 := hSw.1 20 _ rfl; have c21 := hSw.1 21 _ rfl; have c0 := hSw.1 0 _ rfl; have c1 := hSw.1 1 _ rfl; have c2 := hSw.1 2 _ rfl; have c3 := hSw.1 3 _ rfl; have c4 := hSw.1 4 _ rfl; have c5 := hSw.1 5 _ rfl; have c6 := hSw.1 6 _ rfl; have c7 := hSw.1 7 _ rfl; have zc := hSw.2.2; go_simp; try with_reducible rfl)
          change wpAnyH _ _ _ _ _ _ _ (Act.put _ (some 145) _) _
          simp only [Act.put, List.setIfInBounds_toArray, List.set_cons_zero, List.set_cons_succ]
          refine wpAnyH_take (i := 13) (v := ?_) rfl (by kernel_rfl) (by kernel_rfl) (by kernel_rfl) (fun _ _ _ h => h) (Or.inl ⟨by rfl, ?_⟩) (by assumption) ?_
          rotate_left
          · (intro wS hSw; have c16 := hSw.1 16 _ rfl; have c17 := hSw.1 17 _ rfl; have c18 := hSw.1 18 _ rfl; have c19 := hSw.1 19 _ rfl; have c20 := hSw.1 20 _ rfl; have c21 := hSw.1 21 _ rfl; have c0 := hSw.1 0 _ rfl; have c1 := hSw.1 1 _ rfl; have c2 := hSw.1 2 _ rfl; have c3 := hSw.1 3 _ rfl; have c4 := hSw.1 4 _ rfl; have c5 := hSw.1 5 _ rfl; have c6 := hSw.1 6 _ rfl; have c7 := hSw.1 7 _ rfl; have zc := hSw.2.2; go_simp; try with_reducible rfl)
          change wpAnyH _ _ _ _ _ _ _ (Act.put _ (some 146) _) _
          simp only [Act.put, List.setIfInBounds_toArray, List.set_cons_zero, List.set_cons_succ]
          refine wpAnyH_take (i := 14) (v := undef) rfl (by kernel_rfl) (by kernel_rfl) (by kernel_rfl) (fun _ _ _ h => h) (Or.inr ⟨by rfl, rfl⟩) (by assumption) ?_
          change wpAnyH _ _ _ _ _ _ _ (Act.put _ (some 147) _) _
          simp only [Act.put, List.setIfInBounds_toArray, List.set_cons_zero, List.set_cons_succ]
          refine wpAnyH_take (i := 15) (v := undef) rfl (by kernel_rfl) (by kernel_rfl) (by kernel_rfl) (fun _ _ _ h => h) (Or.inr ⟨by rfl, rfl⟩) (by assumption) ?_
          change wpAnyH _ _ _ _ _ _ _ (Act.put _ (some 148) _) _
          simp only [Act.put, List.setIfInBounds_toArray, List.set_cons_zero, List.set_cons_succ]
          refine wpAnyH_take (i := 16) (v := undef) rfl (by kernel_rfl) (by kernel_rfl) (by kernel_rfl) (fun _ _ _ h => h) (Or.inr ⟨by rfl, rfl⟩) (by assumption) ?_
          change wpAnyH _ _ _ _ _ _ _ (Act.put _ (some 149) _) _
          simp only [Act.put, List.setIfInBounds_toArray, List.set_cons_zero, List.set_cons_succ]
          refine wpAnyH_take (i := 17) (v := ?_) rfl (by kernel_rfl) (by kernel_rfl) (by kernel_rfl) (fun _ _ _ h => h) (Or.inl ⟨by rfl, ?_⟩) (by assumption) ?_
          rotate_left
          · (intro wS hSw; have c16 := hSw.1 16 _ rfl; have c17 := hSw.1 17 _ rfl; have c18 := hSw.1 18 _ rfl; have c19 := hSw.1 19 _ rfl; have c20 := hSw.1 20 _ rfl; have c21 := hSw.1 21 _ rfl; have c0 := hSw.1 0 _ rfl; have c1 := hSw.1 1 _ rfl; have c2 := hSw.1 2 _ rfl; have c3 := hSw.1 3 _ rfl; have c4 := hSw.1 4 _ rfl; have c5 := hSw.1 5 _ rfl; have c6 := hSw.1 6 _ rfl; have c7 := hSw.1 7 _ rfl; have zc := hSw.2.2; go_simp; try with_reducible rfl)
          change wpAnyH _ _ _ _ _ _ _ (Act.put _ (some 150) _) _
          simp only [Act.put, List.setIfInBounds_toArray, List.set_cons_zero, List.set_cons_succ]
          refine wpAnyH_take (i := 18) (v := ?_) rfl (by kernel_rfl) (by kernel_rfl) (by kernel_rfl) (fun _ _ _ h => h) (Or.inl ⟨by rfl, ?_⟩) (by assumption) ?_
          rotate_left
          · (intro wS hSw; have c16 := hSw.1 16 _ rfl; have c17 := hSw.1 17 _ rfl; have c18 := hSw.1 18 _ rfl; have c19 := hSw.1 19 _ rfl; have c20 := hSw.1 20 _ rfl; have c21 := hSw.1 21 _ rfl; have c0 := hSw.1 0 _ rfl; have c1 := hSw.1 1 _ rfl; have c2 := hSw.1 2 _ rfl; have c3 := hSw.1 3 _ rfl; have c4 := hSw.1 4 _ rfl; have c5 := hSw.1 5 _ rfl; have c6 := hSw.1 6 _ rfl; have c7 := hSw.1 7 _ rfl; have zc := hSw.2.2; go_simp; try with_reducible rfl)
          change wpAnyH _ _ _ _ _ _ _ (Act.put _ (some 151) _) _
          simp only [Act.put, List.setIfInBounds_toArray, List.set_cons_zero, List.set_cons_succ]
          refine wpAnyH_take (i := 19) (v := undef) rfl (by kernel_rfl) (by kernel_rfl) (by kernel_rfl) (fun _ _ _ h => h) (Or.inr ⟨by rfl, rfl⟩) (by assumption) ?_
          change wpAnyH _ _ _ _ _ _ _ (Act.put _ (some 152) _) _
          simp only [Act.put, List.setIfInBounds_toArray, List.set_cons_zero, List.set_cons_succ]
          refine wpAnyH_take (i := 20) (v := undef) rfl (by kernel_rfl) (by kernel_rfl) (by kernel_rfl) (fun _ _ _ h => h) (Or.inr ⟨by rfl, rfl⟩) (by assumption) ?_
          change wpAnyH _ _ _ _ _ _ _ (Act.put _ (some 153) _) _
          simp only [Act.put, List.setIfInBounds_toArray, List.set_cons_zero, List.set_cons_succ]
          refine wpAnyH_take (i := 21) (v := undef) rfl (by kernel_rfl) (by kernel_rfl) (by kernel_rfl) (fun _ _ _ h => h) (Or.inr ⟨by rfl, rfl⟩) (by assumption) ?_
          change wpAnyH _ _ _ _ _ _ _ (Act.put _ (some 154) _) _
          simp only [Act.put, List.setIfInBounds_toArray, List.set_cons_zero, List.set_cons_succ]
          refine wpAnyH_take (i := 22) (v := undef) rfl (by kernel_rfl) (by kernel_rfl) (by kernel_rfl) (fun _ _ _ h => h) (Or.inr ⟨by rfl, rfl⟩) (by assumption) ?_
          change wpAnyH _ _ _ _ _ _ _ (Act.put _ (some 155) _) _
          simp only [Act.put, List.setIfInBounds_toArray, List.set_cons_zero, List.set_cons_succ]
          refine wpAnyH_take (i := 23) (v := undef) rfl (by kernel_rfl) (by kernel_rfl) (by kernel_rfl) (fun _ _ _ h => h) (Or.inr ⟨by rfl, rfl⟩) (by assumption) ?_
          change wpAnyH _ _ _ _ _ _ _ (Act.put _ (some 156) _) _
          simp only [Act.put, List.setIfInBounds_toArray, List.set_cons_zero, List.set_cons_succ]
          refine wpAnyH_take (i := 24) (v := undef) rfl (by kernel_rfl) (by kernel_rfl) (by kernel_rfl) (fun _ _ _ h => h) (Or.inr ⟨by rfl, rfl⟩) (by assumption) ?_
          change wpAnyH _ _ _ _ _ _ _ (Act.put _ (some 157) _) _
          simp only [Act.put, List.setIfInBounds_toArray, List.set_cons_zero, List.set_cons_succ]
          refine wpAnyH_take (i := 25) (v := undef) rfl (by kernel_rfl) (by kernel_rfl) (by kernel_rfl) (fun _ _ _ h => h) (Or.inr ⟨by rfl, rfl⟩) (by assumption) ?_
          change wpAnyH _ _ _ _ _ _ _ (Act.put _ (some 158) _) _
          simp only [Act.put, List.setIfInBounds_toArray, List.set_cons_zero, List.set_cons_succ]
          refine wpAnyH_take (i := 26) (v := undef) rfl (by kernel_rfl) (by kernel_rfl) (by kernel_rfl) (fun _ _ _ h => h) (Or.inr ⟨by rfl, rfl⟩) (by assumption) ?_
          change wpAnyH _ _ _ _ _ _ _ (Act.put _ (some 159) _) _
          simp only [Act.put, List.setIfInBounds_toArray, List.set_cons_zero, List.set_cons_succ]
          refine wpAnyH_take (i := 27) (v := ?_) rfl (by kernel_rfl) (by kernel_rfl) (by kernel_rfl) (fun _ _ _ h => h) (Or.inl ⟨by rfl, ?_⟩) (by assumption) ?_
          rotate_left
          · (intro wS hSw; have c16 := hSw.1 16 _ rfl; have c17 := hSw.1 17 _ rfl; have c18 := hSw.1 18 _ rfl; have c19 := hSw.1 19 _ rfl; have c20 := hSw.1 20 _ rfl; have c21 := hSw.1 21 _ rfl; have c0 := hSw.1 0 _ rfl; have c1 := hSw.1 1 _ rfl; have c2 := hSw.1 2 _ rfl; have c3 := hSw.1 3 _ rfl; have c4 := hSw.1 4 _ rfl; have c5 := hSw.1 5 _ rfl; have c6 := hSw.1 6 _ rfl; have c7 := hSw.1 7 _ rfl; have zc := hSw.2.2; go_simp; try with_reducible rfl)
          change wpAnyH _ _ _ _ _ _ _ (Act.put _ (some 160) _) _
          simp only [Act.put, List.setIfInBounds_toArray, List.set_cons_zero, List.set_cons_succ]
          refine wpAnyH_take (i := 28) (v := ?_) rfl (by kernel_rfl) (by kernel_rfl) (by kernel_rfl) (fun _ _ _ h => h) (Or.inl ⟨by rfl, ?_⟩) (by assumption) ?_
          rotate_left
          · (intro wS hSw; have c16 := hSw.1 16 _ rfl; have c17 := hSw.1 17 _ rfl; have c18 := hSw.1 18 _ rfl; have c19 := hSw.1 19 _ rfl; have c20 := hSw.1 20 _ rfl; have c21 := hSw.1 21 _ rfl; have c0 := hSw.1 0 _ rfl; have c1 := hSw.1 1 _ rfl; have c2 := hSw.1 2 _ rfl; have c3 := hSw.1 3 _ rfl; have c4 := hSw.1 4 _ rfl; have c5 := hSw.1 5 _ rfl; have c6 := hSw.1 6 _ rfl; have c7 := hSw.1 7 _ rfl; have zc := hSw.2.2; go_simp; try with_reducible rfl)
          change wpAnyH _ _ _ _ _ _ _ (Act.put _ (some 161) _) _
          simp only [Act.put, List.setIfInBounds_toArray, List.set_cons_zero, List.set_cons_succ]
          refine wpAnyH_done (by kernel_rfl) ?_ _
          refine NoPanic.normal ?_
          (try go_wp2)
          go_meet
          case rel => exact ⟨by first | rfl | (cases eb <;> rfl), F_1.out⟩
        | true =>
          by_cases m0 : 0 ≤ mask
          · by_cases m1 : mask ≤ 255
            · obtain rfl : om = true := PMm.2 ⟨m0, m1⟩
              obtain rfl : eb = e2 := HE
              have E2' : Hid (∀ w, Calls Try.prog 12 #[frV F, setV b, ndV K] w fun e w' => e = .returned (.bool eb) ∧ Below w.heap.size w w') := E2.out rfl
              have m0' : decide (0 ≤ mask) = true := decide_eq_true m0
              have m1' : decide (mask ≤ 255) = true := decide_eq_true m1
              clear PMm m0 m1
              have F_0 : Hid (Below w10.heap.size w10 _) := Below.drew (Below.refl _ _)
              refine wp_region_noPanic ?_
              refine wp_region_held_drew (S := fun w' => Cs w' b1 [.int .i64 (F 0 0), .int .i64 (F 0 1), .int .i64 (F 0 2), .int .i64 (F 0 3), .int .i64 (F 0 4), .int .i64 (F 0 5), .int .i64 (F 0 6), .int .i64 (F 0 7), .int .i64 (F 1 0), .int .i64 (F 1 1), .int .i64 (F 1 2), .int .i64 (F 1 3), .int .i64 (F 1 4), .int .i64 (F 1 5), .int .i64 (F 1 6), .int .i64 (F 1 7), .int .i64 nodes, .int .i64 held, .int .i64 mask, .int .i64 (K 0), .int .i64 (K 1), .int .i64 most]) (by kernel_rfl) ?_ (fun hHeld => ?_)
              · exact Cs.later F_0.out q10
              refine wpAnyH_take (i := 0) (v := ?_) rfl (by kernel_rfl) (by kernel_rfl) (by kernel_rfl) (fun _ _ _ h => h) (Or.inl ⟨by rfl, ?_⟩) (by assumption) ?_
              rotate_left
              · (intro wS hSw; have c16 := hSw.1 16 _ rfl; have c17 := hSw.1 17 _ rfl; have c18 := hSw.1 18 _ rfl; have c19 := hSw.1 19 _ rfl; have c20 := hSw.1 20 _ rfl; have c21 := hSw.1 21 _ rfl; have c0 := hSw.1 0 _ rfl; have c1 := hSw.1 1 _ rfl; have c2 := hSw.1 2 _ rfl; have c3 := hSw.1 3 _ rfl; have c4 := hSw.1 4 _ rfl; have c5 := hSw.1 5 _ rfl; have c6 := hSw.1 6 _ rfl; have c7 := hSw.1 7 _ rfl; have zc := hSw.2.2; go_simp; try with_reducible rfl)
              change wpAnyH _ _ _ _ _ _ _ (Act.put _ (some 133) _) _
              simp only [Act.put, List.setIfInBounds_toArray, List.set_cons_zero, List.set_cons_succ]
              refine wpAnyH_take (i := 1) rfl (by kernel_rfl) (by kernel_rfl) (by kernel_rfl) (fun _ _ _ h => h) (yld16 (F := F) (by rfl) (.tmp 133) rfl rfl (fun _ hSx => case_free hSx)) (by assumption) ?_
              change wpAnyH _ _ _ _ _ _ _ (Act.put _ (some 134) _) _
              simp only [Act.put, List.setIfInBounds_toArray, List.set_cons_zero, List.set_cons_succ]
              refine wpAnyH_take (i := 2) (v := ?_) rfl (by kernel_rfl) (by kernel_rfl) (by kernel_rfl) (fun _ _ _ h => h) (Or.inl ⟨by rfl, ?_⟩) (by assumption) ?_
              rotate_left
              · (intro wS hSw; have c16 := hSw.1 16 _ rfl; have c17 := hSw.1 17 _ rfl; have c18 := hSw.1 18 _ rfl; have c19 := hSw.1 19 _ rfl; have c20 := hSw.1 20 _ rfl; have c21 := hSw.1 21 _ rfl; have c0 := hSw.1 0 _ rfl; have c1 := hSw.1 1 _ rfl; have c2 := hSw.1 2 _ rfl; have c3 := hSw.1 3 _ rfl; have c4 := hSw.1 4 _ rfl; have c5 := hSw.1 5 _ rfl; have c6 := hSw.1 6 _ rfl; have c7 := hSw.1 7 _ rfl; have zc := hSw.2.2; go_simp; try with_reducible rfl)
              change wpAnyH _ _ _ _ _ _ _ (Act.put _ (some 135) _) _
              simp only [Act.put, List.setIfInBounds_toArray, List.set_cons_zero, List.set_cons_succ]
              refine wpAnyH_take (i := 3) (v := ?_) rfl (by kernel_rfl) (by kernel_rfl) (by kernel_rfl) (fun _ _ _ h => h) (Or.inl ⟨by rfl, ?_⟩) (by assumption) ?_
              rotate_left
              · (intro wS hSw; have c16 := hSw.1 16 _ rfl; have c17 := hSw.1 17 _ rfl; have c18 := hSw.1 18 _ rfl; have c19 := hSw.1 19 _ rfl; have c20 := hSw.1 20 _ rfl; have c21 := hSw.1 21 _ rfl; have c0 := hSw.1 0 _ rfl; have c1 := hSw.1 1 _ rfl; have c2 := hSw.1 2 _ rfl; have c3 := hSw.1 3 _ rfl; have c4 := hSw.1 4 _ rfl; have c5 := hSw.1 5 _ rfl; have c6 := hSw.1 6 _ rfl; have c7 := hSw.1 7 _ rfl; have zc := hSw.2.2; go_simp; try with_reducible rfl)
              change wpAnyH _ _ _ _ _ _ _ (Act.put _ (some 136) _) _
              simp only [Act.put, List.setIfInBounds_toArray, List.set_cons_zero, List.set_cons_succ]
              refine wpAnyH_take (i := 4) (v := ?_) rfl (by kernel_rfl) (by kernel_rfl) (by kernel_rfl) (fun _ _ _ h => h) (Or.inl ⟨by rfl, ?_⟩) (by assumption) ?_
              rotate_left
              · (intro wS hSw; have c16 := hSw.1 16 _ rfl; have c17 := hSw.1 17 _ rfl; have c18 := hSw.1 18 _ rfl; have c19 := hSw.1 19 _ rfl; have c20 := hSw.1 20 _ rfl; have c21 := hSw.1 21 _ rfl; have c0 := hSw.1 0 _ rfl; have c1 := hSw.1 1 _ rfl; have c2 := hSw.1 2 _ rfl; have c3 := hSw.1 3 _ rfl; have c4 := hSw.1 4 _ rfl; have c5 := hSw.1 5 _ rfl; have c6 := hSw.1 6 _ rfl; have c7 := hSw.1 7 _ rfl; have zc := hSw.2.2; go_simp; try with_reducible rfl)
              change wpAnyH _ _ _ _ _ _ _ (Act.put _ (some 137) _) _
              simp only [Act.put, List.setIfInBounds_toArray, List.set_cons_zero, List.set_cons_succ]
              refine wpAnyH_take (i := 5) (v := ?_) rfl (by kernel_rfl) (by kernel_rfl) (by kernel_rfl) (fun _ _ _ h => h) (Or.inl ⟨by rfl, ?_⟩) (by assumption) ?_
              rotate_left
              · (intro wS hSw; have c16 := hSw.1 16 _ rfl; have c17 := hSw.1 17 _ rfl; have c18 := hSw.1 18 _ rfl; have c19 := hSw.1 19 _ rfl; have c20 := hSw.1 20 _ rfl; have c21 := hSw.1 21 _ rfl; have c0 := hSw.1 0 _ rfl; have c1 := hSw.1 1 _ rfl; have c2 := hSw.1 2 _ rfl; have c3 := hSw.1 3 _ rfl; have c4 := hSw.1 4 _ rfl; have c5 := hSw.1 5 _ rfl; have c6 := hSw.1 6 _ rfl; have c7 := hSw.1 7 _ rfl; have zc := hSw.2.2; go_simp; try with_reducible rfl)
              change wpAnyH _ _ _ _ _ _ _ (Act.put _ (some 138) _) _
              simp only [Act.put, List.setIfInBounds_toArray, List.set_cons_zero, List.set_cons_succ]
              refine wpAnyH_take (i := 7) (v := ?_) rfl (by kernel_rfl) (by kernel_rfl) (by kernel_rfl) (fun _ _ _ h => h) (Or.inl ⟨by rfl, ?_⟩) (by assumption) ?_
              rotate_left
              · (intro wS hSw; have c16 := hSw.1 16 _ rfl; have c17 := hSw.1 17 _ rfl; have c18 := hSw.1 18 _ rfl; have c19 := hSw.1 19 _ rfl; have c20 := hSw.1 20 _ rfl; have c21 := hSw.1 21 _ rfl; have c0 := hSw.1 0 _ rfl; have c1 := hSw.1 1 _ rfl; have c2 := hSw.1 2 _ rfl; have c3 := hSw.1 3 _ rfl; have c4 := hSw.1 4 _ rfl; have c5 := hSw.1 5 _ rfl; have c6 := hSw.1 6 _ rfl; have c7 := hSw.1 7 _ rfl; have zc := hSw.2.2; go_simp; try with_reducible rfl)
              change wpAnyH _ _ _ _ _ _ _ (Act.put _ (some 140) _) _
              simp only [Act.put, List.setIfInBounds_toArray, List.set_cons_zero, List.set_cons_succ]
              refine wpAnyH_ready (rs := [6]) (by kernel_rfl) (by simp) ?_
              refine AllReadyH.cons rfl (fun K hK => ?_) AllReadyH.nil
              go_simp
              refine (EN.out _).mono ?_
              rintro e v1 ⟨rfl, hv1⟩
              have F_1 : Hid (Below w10.heap.size w10 v1) := F_0.out.trans (hv1.mono F_0.out.size)
              clear hv1 F_0
              (try go_wp2_with (fail))
              refine hK.out _ _ ?_ (fun hHeld => ?_)
              · exact Cs.later F_1.out q10
              clear hK K
              refine wpAnyH_take (i := 8) (v := ?_) rfl (by kernel_rfl) (by kernel_rfl) (by kernel_rfl) (fun _ _ _ h => h) (Or.inl ⟨by rfl, ?_⟩) (by assumption) ?_
              rotate_left
              · (intro wS hSw; have c16 := hSw.1 16 _ rfl; have c17 := hSw.1 17 _ rfl; have c18 := hSw.1 18 _ rfl; have c19 := hSw.1 19 _ rfl; have c20 := hSw.1 20 _ rfl; have c21 := hSw.1 21 _ rfl; have c0 := hSw.1 0 _ rfl; have c1 := hSw.1 1 _ rfl; have c2 := hSw.1 2 _ rfl; have c3 := hSw.1 3 _ rfl; have c4 := hSw.1 4 _ rfl; have c5 := hSw.1 5 _ rfl; have c6 := hSw.1 6 _ rfl; have c7 := hSw.1 7 _ rfl; have zc := hSw.2.2; go_simp; try with_reducible rfl)
              change wpAnyH _ _ _ _ _ _ _ (Act.put _ (some 141) _) _
              simp only [Act.put, List.setIfInBounds_toArray, List.set_cons_zero, List.set_cons_succ]
              refine wpAnyH_take (i := 9) (v := ?_) rfl (by kernel_rfl) (by kernel_rfl) (by kernel_rfl) (fun _ _ _ h => h) (Or.inl ⟨by rfl, ?_⟩) (by assumption) ?_
              rotate_left
              · (intro wS hSw; have c16 := hSw.1 16 _ rfl; have c17 := hSw.1 17 _ rfl; have c18 := hSw.1 18 _ rfl; have c19 := hSw.1 19 _ rfl; have c20 := hSw.1 20 _ rfl; have c21 := hSw.1 21 _ rfl; have c0 := hSw.1 0 _ rfl; have c1 := hSw.1 1 _ rfl; have c2 := hSw.1 2 _ rfl; have c3 := hSw.1 3 _ rfl; have c4 := hSw.1 4 _ rfl; have c5 := hSw.1 5 _ rfl; have c6 := hSw.1 6 _ rfl; have c7 := hSw.1 7 _ rfl; have zc := hSw.2.2; go_simp; try with_reducible rfl)
              change wpAnyH _ _ _ _ _ _ _ (Act.put _ (some 142) _) _
              simp only [Act.put, List.setIfInBounds_toArray, List.set_cons_zero, List.set_cons_succ]
              refine wpAnyH_take (i := 10) (v := ?_) rfl (by kernel_rfl) (by kernel_rfl) (by kernel_rfl) (fun _ _ _ h => h) (Or.inl ⟨by rfl, ?_⟩) (by assumption) ?_
              rotate_left
              · (intro wS hSw; have c16 := hSw.1 16 _ rfl; have c17 := hSw.1 17 _ rfl; have c18 := hSw.1 18 _ rfl; have c19 := hSw.1 19 _ rfl; have c20 := hSw.1 20 _ rfl; have c21 := hSw.1 21 _ rfl; have c0 := hSw.1 0 _ rfl; have c1 := hSw.1 1 _ rfl; have c2 := hSw.1 2 _ rfl; have c3 := hSw.1 3 _ rfl; have c4 := hSw.1 4 _ rfl; have c5 := hSw.1 5 _ rfl; have c6 := hSw.1 6 _ rfl; have c7 := hSw.1 7 _ rfl; have zc := hSw.2.2; go_simp; try with_reducible rfl)
              change wpAnyH _ _ _ _ _ _ _ (Act.put _ (some 143) _) _
              simp only [Act.put, List.setIfInBounds_toArray, List.set_cons_zero, List.set_cons_succ]
              refine wpAnyH_take (i := 11) (v := ?_) rfl (by kernel_rfl) (by kernel_rfl) (by kernel_rfl) (fun _ _ _ h => h) (Or.inl ⟨by rfl, ?_⟩) (by assumption) ?_
              rotate_left
              · (intro wS hSw; have c16 := hSw.1 16 _ rfl; have c17 := hSw.1 17 _ rfl; have c18 := hSw.1 18 _ rfl; have c19 := hSw.1 19 _ rfl; have c20 := hSw.1 20 _ rfl; have c21 := hSw.1 21 _ rfl; have c0 := hSw.1 0 _ rfl; have c1 := hSw.1 1 _ rfl; have c2 := hSw.1 2 _ rfl; have c3 := hSw.1 3 _ rfl; have c4 := hSw.1 4 _ rfl; have c5 := hSw.1 5 _ rfl; have c6 := hSw.1 6 _ rfl; have c7 := hSw.1 7 _ rfl; have zc := hSw.2.2; go_simp; try with_reducible rfl)
              change wpAnyH _ _ _ _ _ _ _ (Act.put _ (some 144) _) _
              simp only [Act.put, List.setIfInBounds_toArray, List.set_cons_zero, List.set_cons_succ]
              refine wpAnyH_take (i := 12) (v := ?_) rfl (by kernel_rfl) (by kernel_rfl) (by kernel_rfl) (fun _ _ _ h => h) (Or.inl ⟨by rfl, ?_⟩) (by assumption) ?_
              rotate_left
              · (intro wS hSw; have c16 := hSw.1 16 _ rfl; have c17 := hSw.1 17 _ rfl; have c18 := hSw.1 18 _ rfl; have c19 := hSw.1 19 _ rfl; have c20 := hSw.1 20 _ rfl; have c21 := hSw.1 21 _ rfl; have c0 := hSw.1 0 _ rfl; have c1 := hSw.1 1 _ rfl; have c2 := hSw.1 2 _ rfl; have c3 := hSw.1 3 _ rfl; have c4 := hSw.1 4 _ rfl; have c5 := hSw.1 5 _ rfl; have c6 := hSw.1 6 _ rfl; have c7 := hSw.1 7 _ rfl; have zc := hSw.2.2; go_simp; try with_reducible rfl)
              change wpAnyH _ _ _ _ _ _ _ (Act.put _ (some 145) _) _
              simp only [Act.put, List.setIfInBounds_toArray, List.set_cons_zero, List.set_cons_succ]
              refine wpAnyH_take (i := 13) (v := ?_) rfl (by kernel_rfl) (by kernel_rfl) (by kernel_rfl) (fun _ _ _ h => h) (Or.inl ⟨by rfl, ?_⟩) (by assumption) ?_
              rotate_left
              · (intro wS hSw; have c16 := hSw.1 16 _ rfl; have c17 := hSw.1 17 _ rfl; have c18 := hSw.1 18 _ rfl; have c19 := hSw.1 19 _ rfl; have c20 := hSw.1 20 _ rfl; have c21 := hSw.1 21 _ rfl; have c0 := hSw.1 0 _ rfl; have c1 := hSw.1 1 _ rfl; have c2 := hSw.1 2 _ rfl; have c3 := hSw.1 3 _ rfl; have c4 := hSw.1 4 _ rfl; have c5 := hSw.1 5 _ rfl; have c6 := hSw.1 6 _ rfl; have c7 := hSw.1 7 _ rfl; have zc := hSw.2.2; go_simp; try with_reducible rfl)
              change wpAnyH _ _ _ _ _ _ _ (Act.put _ (some 146) _) _
              simp only [Act.put, List.setIfInBounds_toArray, List.set_cons_zero, List.set_cons_succ]
              refine wpAnyH_take (i := 14) (v := ?_) rfl (by kernel_rfl) (by kernel_rfl) (by kernel_rfl) (fun _ _ _ h => h) (Or.inl ⟨by rfl, ?_⟩) (by assumption) ?_
              rotate_left
              · (intro wS hSw; have c16 := hSw.1 16 _ rfl; have c17 := hSw.1 17 _ rfl; have c18 := hSw.1 18 _ rfl; have c19 := hSw.1 19 _ rfl; have c20 := hSw.1 20 _ rfl; have c21 := hSw.1 21 _ rfl; have c0 := hSw.1 0 _ rfl; have c1 := hSw.1 1 _ rfl; have c2 := hSw.1 2 _ rfl; have c3 := hSw.1 3 _ rfl; have c4 := hSw.1 4 _ rfl; have c5 := hSw.1 5 _ rfl; have c6 := hSw.1 6 _ rfl; have c7 := hSw.1 7 _ rfl; have zc := hSw.2.2; go_simp; try with_reducible rfl)
              change wpAnyH _ _ _ _ _ _ _ (Act.put _ (some 147) _) _
              simp only [Act.put, List.setIfInBounds_toArray, List.set_cons_zero, List.set_cons_succ]
              refine wpAnyH_take (i := 15) (v := ?_) rfl (by kernel_rfl) (by kernel_rfl) (by kernel_rfl) (fun _ _ _ h => h) (Or.inl ⟨by rfl, ?_⟩) (by assumption) ?_
              rotate_left
              · (intro wS hSw; have c16 := hSw.1 16 _ rfl; have c17 := hSw.1 17 _ rfl; have c18 := hSw.1 18 _ rfl; have c19 := hSw.1 19 _ rfl; have c20 := hSw.1 20 _ rfl; have c21 := hSw.1 21 _ rfl; have c0 := hSw.1 0 _ rfl; have c1 := hSw.1 1 _ rfl; have c2 := hSw.1 2 _ rfl; have c3 := hSw.1 3 _ rfl; have c4 := hSw.1 4 _ rfl; have c5 := hSw.1 5 _ rfl; have c6 := hSw.1 6 _ rfl; have c7 := hSw.1 7 _ rfl; have zc := hSw.2.2; go_simp; try with_reducible rfl)
              change wpAnyH _ _ _ _ _ _ _ (Act.put _ (some 148) _) _
              simp only [Act.put, List.setIfInBounds_toArray, List.set_cons_zero, List.set_cons_succ]
              refine wpAnyH_take (i := 16) (v := ?_) rfl (by kernel_rfl) (by kernel_rfl) (by kernel_rfl) (fun _ _ _ h => h) (Or.inl ⟨by rfl, ?_⟩) (by assumption) ?_
              rotate_left
              · (intro wS hSw; have c16 := hSw.1 16 _ rfl; have c17 := hSw.1 17 _ rfl; have c18 := hSw.1 18 _ rfl; have c19 := hSw.1 19 _ rfl; have c20 := hSw.1 20 _ rfl; have c21 := hSw.1 21 _ rfl; have c0 := hSw.1 0 _ rfl; have c1 := hSw.1 1 _ rfl; have c2 := hSw.1 2 _ rfl; have c3 := hSw.1 3 _ rfl; have c4 := hSw.1 4 _ rfl; have c5 := hSw.1 5 _ rfl; have c6 := hSw.1 6 _ rfl; have c7 := hSw.1 7 _ rfl; have zc := hSw.2.2; go_simp; try with_reducible rfl)
              change wpAnyH _ _ _ _ _ _ _ (Act.put _ (some 149) _) _
              simp only [Act.put, List.setIfInBounds_toArray, List.set_cons_zero, List.set_cons_succ]
              refine wpAnyH_take (i := 17) (v := ?_) rfl (by kernel_rfl) (by kernel_rfl) (by kernel_rfl) (fun _ _ _ h => h) (Or.inl ⟨by rfl, ?_⟩) (by assumption) ?_
              rotate_left
              · (intro wS hSw; have c16 := hSw.1 16 _ rfl; have c17 := hSw.1 17 _ rfl; have c18 := hSw.1 18 _ rfl; have c19 := hSw.1 19 _ rfl; have c20 := hSw.1 20 _ rfl; have c21 := hSw.1 21 _ rfl; have c0 := hSw.1 0 _ rfl; have c1 := hSw.1 1 _ rfl; have c2 := hSw.1 2 _ rfl; have c3 := hSw.1 3 _ rfl; have c4 := hSw.1 4 _ rfl; have c5 := hSw.1 5 _ rfl; have c6 := hSw.1 6 _ rfl; have c7 := hSw.1 7 _ rfl; have zc := hSw.2.2; go_simp; try with_reducible rfl)
              change wpAnyH _ _ _ _ _ _ _ (Act.put _ (some 150) _) _
              simp only [Act.put, List.setIfInBounds_toArray, List.set_cons_zero, List.set_cons_succ]
              refine wpAnyH_take (i := 18) (v := ?_) rfl (by kernel_rfl) (by kernel_rfl) (by kernel_rfl) (fun _ _ _ h => h) (Or.inl ⟨by rfl, ?_⟩) (by assumption) ?_
              rotate_left
              · (intro wS hSw; have c16 := hSw.1 16 _ rfl; have c17 := hSw.1 17 _ rfl; have c18 := hSw.1 18 _ rfl; have c19 := hSw.1 19 _ rfl; have c20 := hSw.1 20 _ rfl; have c21 := hSw.1 21 _ rfl; have c0 := hSw.1 0 _ rfl; have c1 := hSw.1 1 _ rfl; have c2 := hSw.1 2 _ rfl; have c3 := hSw.1 3 _ rfl; have c4 := hSw.1 4 _ rfl; have c5 := hSw.1 5 _ rfl; have c6 := hSw.1 6 _ rfl; have c7 := hSw.1 7 _ rfl; have zc := hSw.2.2; go_simp; try with_reducible rfl)
              change wpAnyH _ _ _ _ _ _ _ (Act.put _ (some 151) _) _
              simp only [Act.put, List.setIfInBounds_toArray, List.set_cons_zero, List.set_cons_succ]
              refine wpAnyH_take (i := 19) (v := ?_) rfl (by kernel_rfl) (by kernel_rfl) (by kernel_rfl) (fun _ _ _ h => h) (Or.inl ⟨by rfl, ?_⟩) (by assumption) ?_
              rotate_left
              · (intro wS hSw; have c16 := hSw.1 16 _ rfl; have c17 := hSw.1 17 _ rfl; have c18 := hSw.1 18 _ rfl; have c19 := hSw.1 19 _ rfl; have c20 := hSw.1 20 _ rfl; have c21 := hSw.1 21 _ rfl; have c0 := hSw.1 0 _ rfl; have c1 := hSw.1 1 _ rfl; have c2 := hSw.1 2 _ rfl; have c3 := hSw.1 3 _ rfl; have c4 := hSw.1 4 _ rfl; have c5 := hSw.1 5 _ rfl; have c6 := hSw.1 6 _ rfl; have c7 := hSw.1 7 _ rfl; have zc := hSw.2.2; go_simp; try with_reducible rfl)
              change wpAnyH _ _ _ _ _ _ _ (Act.put _ (some 152) _) _
              simp only [Act.put, List.setIfInBounds_toArray, List.set_cons_zero, List.set_cons_succ]
              refine wpAnyH_take (i := 20) rfl (by kernel_rfl) (by kernel_rfl) (by kernel_rfl) (fun _ _ _ h => h) (yld16 (F := F) (by rfl) (.tmp 152) rfl rfl (fun _ hSx => case_free hSx)) (by assumption) ?_
              change wpAnyH _ _ _ _ _ _ _ (Act.put _ (some 153) _) _
              simp only [Act.put, List.setIfInBounds_toArray, List.set_cons_zero, List.set_cons_succ]
              refine wpAnyH_take (i := 21) (v := ?_) rfl (by kernel_rfl) (by kernel_rfl) (by kernel_rfl) (fun _ _ _ h => h) (Or.inl ⟨by rfl, ?_⟩) (by assumption) ?_
              rotate_left
              · (intro wS hSw; have c16 := hSw.1 16 _ rfl; have c17 := hSw.1 17 _ rfl; have c18 := hSw.1 18 _ rfl; have c19 := hSw.1 19 _ rfl; have c20 := hSw.1 20 _ rfl; have c21 := hSw.1 21 _ rfl; have c0 := hSw.1 0 _ rfl; have c1 := hSw.1 1 _ rfl; have c2 := hSw.1 2 _ rfl; have c3 := hSw.1 3 _ rfl; have c4 := hSw.1 4 _ rfl; have c5 := hSw.1 5 _ rfl; have c6 := hSw.1 6 _ rfl; have c7 := hSw.1 7 _ rfl; have zc := hSw.2.2; go_simp; try with_reducible rfl)
              change wpAnyH _ _ _ _ _ _ _ (Act.put _ (some 154) _) _
              simp only [Act.put, List.setIfInBounds_toArray, List.set_cons_zero, List.set_cons_succ]
              refine wpAnyH_take (i := 22) (v := ?_) rfl (by kernel_rfl) (by kernel_rfl) (by kernel_rfl) (fun _ _ _ h => h) (Or.inl ⟨by rfl, ?_⟩) (by assumption) ?_
              rotate_left
              · (intro wS hSw; have c16 := hSw.1 16 _ rfl; have c17 := hSw.1 17 _ rfl; have c18 := hSw.1 18 _ rfl; have c19 := hSw.1 19 _ rfl; have c20 := hSw.1 20 _ rfl; have c21 := hSw.1 21 _ rfl; have c0 := hSw.1 0 _ rfl; have c1 := hSw.1 1 _ rfl; have c2 := hSw.1 2 _ rfl; have c3 := hSw.1 3 _ rfl; have c4 := hSw.1 4 _ rfl; have c5 := hSw.1 5 _ rfl; have c6 := hSw.1 6 _ rfl; have c7 := hSw.1 7 _ rfl; have zc := hSw.2.2; go_simp; try with_reducible rfl)
              change wpAnyH _ _ _ _ _ _ _ (Act.put _ (some 155) _) _
              simp only [Act.put, List.setIfInBounds_toArray, List.set_cons_zero, List.set_cons_succ]
              refine wpAnyH_take (i := 24) (v := ?_) rfl (by kernel_rfl) (by kernel_rfl) (by kernel_rfl) (fun _ _ _ h => h) (Or.inl ⟨by rfl, ?_⟩) (by assumption) ?_
              rotate_left
              · (intro wS hSw; have c16 := hSw.1 16 _ rfl; have c17 := hSw.1 17 _ rfl; have c18 := hSw.1 18 _ rfl; have c19 := hSw.1 19 _ rfl; have c20 := hSw.1 20 _ rfl; have c21 := hSw.1 21 _ rfl; have c0 := hSw.1 0 _ rfl; have c1 := hSw.1 1 _ rfl; have c2 := hSw.1 2 _ rfl; have c3 := hSw.1 3 _ rfl; have c4 := hSw.1 4 _ rfl; have c5 := hSw.1 5 _ rfl; have c6 := hSw.1 6 _ rfl; have c7 := hSw.1 7 _ rfl; have zc := hSw.2.2; go_simp; try with_reducible rfl)
              change wpAnyH _ _ _ _ _ _ _ (Act.put _ (some 157) _) _
              simp only [Act.put, List.setIfInBounds_toArray, List.set_cons_zero, List.set_cons_succ]
              refine wpAnyH_take (i := 25) (v := ?_) rfl (by kernel_rfl) (by kernel_rfl) (by kernel_rfl) (fun _ _ _ h => h) (Or.inl ⟨by rfl, ?_⟩) (by assumption) ?_
              rotate_left
              · (intro wS hSw; have c16 := hSw.1 16 _ rfl; have c17 := hSw.1 17 _ rfl; have c18 := hSw.1 18 _ rfl; have c19 := hSw.1 19 _ rfl; have c20 := hSw.1 20 _ rfl; have c21 := hSw.1 21 _ rfl; have c0 := hSw.1 0 _ rfl; have c1 := hSw.1 1 _ rfl; have c2 := hSw.1 2 _ rfl; have c3 := hSw.1 3 _ rfl; have c4 := hSw.1 4 _ rfl; have c5 := hSw.1 5 _ rfl; have c6 := hSw.1 6 _ rfl; have c7 := hSw.1 7 _ rfl; have zc := hSw.2.2; go_simp; try with_reducible rfl)
              change wpAnyH _ _ _ _ _ _ _ (Act.put _ (some 158) _) _
              simp only [Act.put, List.setIfInBounds_toArray, List.set_cons_zero, List.set_cons_succ]
              refine wpAnyH_ready (rs := [23]) (by kernel_rfl) (by simp) ?_
              refine AllReadyH.cons rfl (fun K hK => ?_) AllReadyH.nil
              go_simp
              refine (OF.out _).mono ?_
              rintro e v2 ⟨rfl, hv2⟩
              have F_2 : Hid (Below w10.heap.size w10 v2) := F_1.out.trans (hv2.mono F_1.out.size)
              clear hv2 F_1
              (try go_wp2_with (fail))
              refine hK.out _ _ ?_ (fun hHeld => ?_)
              · exact Cs.later F_2.out q10
              clear hK K
              refine wpAnyH_ready (rs := [26]) (by kernel_rfl) (by simp) ?_
              refine AllReadyH.cons rfl (fun K hK => ?_) AllReadyH.nil
              go_simp
              refine (E2'.out _).mono ?_
              rintro e v3 ⟨rfl, hv3⟩
              have F_3 : Hid (Below w10.heap.size w10 v3) := F_2.out.trans (hv3.mono F_2.out.size)
              clear hv3 F_2
              (try go_wp2_with (fail))
              refine hK.out _ _ ?_ (fun hHeld => ?_)
              · exact Cs.later F_3.out q10
              clear hK K
              refine wpAnyH_take (i := 27) (v := ?_) rfl (by kernel_rfl) (by kernel_rfl) (by kernel_rfl) (fun _ _ _ h => h) (Or.inl ⟨by rfl, ?_⟩) (by assumption) ?_
              rotate_left
              · (intro wS hSw; have c16 := hSw.1 16 _ rfl; have c17 := hSw.1 17 _ rfl; have c18 := hSw.1 18 _ rfl; have c19 := hSw.1 19 _ rfl; have c20 := hSw.1 20 _ rfl; have c21 := hSw.1 21 _ rfl; have c0 := hSw.1 0 _ rfl; have c1 := hSw.1 1 _ rfl; have c2 := hSw.1 2 _ rfl; have c3 := hSw.1 3 _ rfl; have c4 := hSw.1 4 _ rfl; have c5 := hSw.1 5 _ rfl; have c6 := hSw.1 6 _ rfl; have c7 := hSw.1 7 _ rfl; have zc := hSw.2.2; go_simp; try with_reducible rfl)
              change wpAnyH _ _ _ _ _ _ _ (Act.put _ (some 160) _) _
              simp only [Act.put, List.setIfInBounds_toArray, List.set_cons_zero, List.set_cons_succ]
              refine wpAnyH_take (i := 28) (v := ?_) rfl (by kernel_rfl) (by kernel_rfl) (by kernel_rfl) (fun _ _ _ h => h) (Or.inl ⟨by rfl, ?_⟩) (by assumption) ?_
              rotate_left
              · (intro wS hSw; have c16 := hSw.1 16 _ rfl; have c17 := hSw.1 17 _ rfl; have c18 := hSw.1 18 _ rfl; have c19 := hSw.1 19 _ rfl; have c20 := hSw.1 20 _ rfl; have c21 := hSw.1 21 _ rfl; have c0 := hSw.1 0 _ rfl; have c1 := hSw.1 1 _ rfl; have c2 := hSw.1 2 _ rfl; have c3 := hSw.1 3 _ rfl; have c4 := hSw.1 4 _ rfl; have c5 := hSw.1 5 _ rfl; have c6 := hSw.1 6 _ rfl; have c7 := hSw.1 7 _ rfl; have zc := hSw.2.2; go_simp; try with_reducible rfl)
              change wpAnyH _ _ _ _ _ _ _ (Act.put _ (some 161) _) _
              simp only [Act.put, List.setIfInBounds_toArray, List.set_cons_zero, List.set_cons_succ]
              refine wpAnyH_done (by kernel_rfl) ?_ _
              refine NoPanic.normal ?_
              (try go_wp2)
              go_meet
              case rel => exact ⟨by first | rfl | (cases eb <;> rfl), F_3.out⟩
            · obtain rfl : om = false := by cases om with | false => rfl | true => have := PMm.1 rfl; omega
              obtain rfl : eb = false := HE
              have m0' : decide (0 ≤ mask) = true := decide_eq_true m0
              have m1' : decide (mask ≤ 255) = false := decide_eq_false m1
              clear PMm m0 m1
              have F_0 : Hid (Below w10.heap.size w10 _) := Below.drew (Below.refl _ _)
              refine wp_region_noPanic ?_
              refine wp_region_held_drew (S := fun w' => Cs w' b1 [.int .i64 (F 0 0), .int .i64 (F 0 1), .int .i64 (F 0 2), .int .i64 (F 0 3), .int .i64 (F 0 4), .int .i64 (F 0 5), .int .i64 (F 0 6), .int .i64 (F 0 7), .int .i64 (F 1 0), .int .i64 (F 1 1), .int .i64 (F 1 2), .int .i64 (F 1 3), .int .i64 (F 1 4), .int .i64 (F 1 5), .int .i64 (F 1 6), .int .i64 (F 1 7), .int .i64 nodes, .int .i64 held, .int .i64 mask, .int .i64 (K 0), .int .i64 (K 1), .int .i64 most]) (by kernel_rfl) ?_ (fun hHeld => ?_)
              · exact Cs.later F_0.out q10
              refine wpAnyH_take (i := 0) (v := ?_) rfl (by kernel_rfl) (by kernel_rfl) (by kernel_rfl) (fun _ _ _ h => h) (Or.inl ⟨by rfl, ?_⟩) (by assumption) ?_
              rotate_left
              · (intro wS hSw; have c16 := hSw.1 16 _ rfl; have c17 := hSw.1 17 _ rfl; have c18 := hSw.1 18 _ rfl; have c19 := hSw.1 19 _ rfl; have c20 := hSw.1 20 _ rfl; have c21 := hSw.1 21 _ rfl; have c0 := hSw.1 0 _ rfl; have c1 := hSw.1 1 _ rfl; have c2 := hSw.1 2 _ rfl; have c3 := hSw.1 3 _ rfl; have c4 := hSw.1 4 _ rfl; have c5 := hSw.1 5 _ rfl; have c6 := hSw.1 6 _ rfl; have c7 := hSw.1 7 _ rfl; have zc := hSw.2.2; go_simp; try with_reducible rfl)
              change wpAnyH _ _ _ _ _ _ _ (Act.put _ (some 133) _) _
              simp only [Act.put, List.setIfInBounds_toArray, List.set_cons_zero, List.set_cons_succ]
              refine wpAnyH_take (i := 1) rfl (by kernel_rfl) (by kernel_rfl) (by kernel_rfl) (fun _ _ _ h => h) (yld16 (F := F) (by rfl) (.tmp 133) rfl rfl (fun _ hSx => case_free hSx)) (by assumption) ?_
              change wpAnyH _ _ _ _ _ _ _ (Act.put _ (some 134) _) _
              simp only [Act.put, List.setIfInBounds_toArray, List.set_cons_zero, List.set_cons_succ]
              refine wpAnyH_take (i := 2) (v := ?_) rfl (by kernel_rfl) (by kernel_rfl) (by kernel_rfl) (fun _ _ _ h => h) (Or.inl ⟨by rfl, ?_⟩) (by assumption) ?_
              rotate_left
              · (intro wS hSw; have c16 := hSw.1 16 _ rfl; have c17 := hSw.1 17 _ rfl; have c18 := hSw.1 18 _ rfl; have c19 := hSw.1 19 _ rfl; have c20 := hSw.1 20 _ rfl; have c21 := hSw.1 21 _ rfl; have c0 := hSw.1 0 _ rfl; have c1 := hSw.1 1 _ rfl; have c2 := hSw.1 2 _ rfl; have c3 := hSw.1 3 _ rfl; have c4 := hSw.1 4 _ rfl; have c5 := hSw.1 5 _ rfl; have c6 := hSw.1 6 _ rfl; have c7 := hSw.1 7 _ rfl; have zc := hSw.2.2; go_simp; try with_reducible rfl)
              change wpAnyH _ _ _ _ _ _ _ (Act.put _ (some 135) _) _
              simp only [Act.put, List.setIfInBounds_toArray, List.set_cons_zero, List.set_cons_succ]
              refine wpAnyH_take (i := 3) (v := ?_) rfl (by kernel_rfl) (by kernel_rfl) (by kernel_rfl) (fun _ _ _ h => h) (Or.inl ⟨by rfl, ?_⟩) (by assumption) ?_
              rotate_left
              · (intro wS hSw; have c16 := hSw.1 16 _ rfl; have c17 := hSw.1 17 _ rfl; have c18 := hSw.1 18 _ rfl; have c19 := hSw.1 19 _ rfl; have c20 := hSw.1 20 _ rfl; have c21 := hSw.1 21 _ rfl; have c0 := hSw.1 0 _ rfl; have c1 := hSw.1 1 _ rfl; have c2 := hSw.1 2 _ rfl; have c3 := hSw.1 3 _ rfl; have c4 := hSw.1 4 _ rfl; have c5 := hSw.1 5 _ rfl; have c6 := hSw.1 6 _ rfl; have c7 := hSw.1 7 _ rfl; have zc := hSw.2.2; go_simp; try with_reducible rfl)
              change wpAnyH _ _ _ _ _ _ _ (Act.put _ (some 136) _) _
              simp only [Act.put, List.setIfInBounds_toArray, List.set_cons_zero, List.set_cons_succ]
              refine wpAnyH_take (i := 4) (v := ?_) rfl (by kernel_rfl) (by kernel_rfl) (by kernel_rfl) (fun _ _ _ h => h) (Or.inl ⟨by rfl, ?_⟩) (by assumption) ?_
              rotate_left
              · (intro wS hSw; have c16 := hSw.1 16 _ rfl; have c17 := hSw.1 17 _ rfl; have c18 := hSw.1 18 _ rfl; have c19 := hSw.1 19 _ rfl; have c20 := hSw.1 20 _ rfl; have c21 := hSw.1 21 _ rfl; have c0 := hSw.1 0 _ rfl; have c1 := hSw.1 1 _ rfl; have c2 := hSw.1 2 _ rfl; have c3 := hSw.1 3 _ rfl; have c4 := hSw.1 4 _ rfl; have c5 := hSw.1 5 _ rfl; have c6 := hSw.1 6 _ rfl; have c7 := hSw.1 7 _ rfl; have zc := hSw.2.2; go_simp; try with_reducible rfl)
              change wpAnyH _ _ _ _ _ _ _ (Act.put _ (some 137) _) _
              simp only [Act.put, List.setIfInBounds_toArray, List.set_cons_zero, List.set_cons_succ]
              refine wpAnyH_take (i := 5) (v := ?_) rfl (by kernel_rfl) (by kernel_rfl) (by kernel_rfl) (fun _ _ _ h => h) (Or.inl ⟨by rfl, ?_⟩) (by assumption) ?_
              rotate_left
              · (intro wS hSw; have c16 := hSw.1 16 _ rfl; have c17 := hSw.1 17 _ rfl; have c18 := hSw.1 18 _ rfl; have c19 := hSw.1 19 _ rfl; have c20 := hSw.1 20 _ rfl; have c21 := hSw.1 21 _ rfl; have c0 := hSw.1 0 _ rfl; have c1 := hSw.1 1 _ rfl; have c2 := hSw.1 2 _ rfl; have c3 := hSw.1 3 _ rfl; have c4 := hSw.1 4 _ rfl; have c5 := hSw.1 5 _ rfl; have c6 := hSw.1 6 _ rfl; have c7 := hSw.1 7 _ rfl; have zc := hSw.2.2; go_simp; try with_reducible rfl)
              change wpAnyH _ _ _ _ _ _ _ (Act.put _ (some 138) _) _
              simp only [Act.put, List.setIfInBounds_toArray, List.set_cons_zero, List.set_cons_succ]
              refine wpAnyH_take (i := 7) (v := ?_) rfl (by kernel_rfl) (by kernel_rfl) (by kernel_rfl) (fun _ _ _ h => h) (Or.inl ⟨by rfl, ?_⟩) (by assumption) ?_
              rotate_left
              · (intro wS hSw; have c16 := hSw.1 16 _ rfl; have c17 := hSw.1 17 _ rfl; have c18 := hSw.1 18 _ rfl; have c19 := hSw.1 19 _ rfl; have c20 := hSw.1 20 _ rfl; have c21 := hSw.1 21 _ rfl; have c0 := hSw.1 0 _ rfl; have c1 := hSw.1 1 _ rfl; have c2 := hSw.1 2 _ rfl; have c3 := hSw.1 3 _ rfl; have c4 := hSw.1 4 _ rfl; have c5 := hSw.1 5 _ rfl; have c6 := hSw.1 6 _ rfl; have c7 := hSw.1 7 _ rfl; have zc := hSw.2.2; go_simp; try with_reducible rfl)
              change wpAnyH _ _ _ _ _ _ _ (Act.put _ (some 140) _) _
              simp only [Act.put, List.setIfInBounds_toArray, List.set_cons_zero, List.set_cons_succ]
              refine wpAnyH_ready (rs := [6]) (by kernel_rfl) (by simp) ?_
              refine AllReadyH.cons rfl (fun K hK => ?_) AllReadyH.nil
              go_simp
              refine (EN.out _).mono ?_
              rintro e v1 ⟨rfl, hv1⟩
              have F_1 : Hid (Below w10.heap.size w10 v1) := F_0.out.trans (hv1.mono F_0.out.size)
              clear hv1 F_0
              (try go_wp2_with (fail))
              refine hK.out _ _ ?_ (fun hHeld => ?_)
              · exact Cs.later F_1.out q10
              clear hK K
              refine wpAnyH_take (i := 8) (v := ?_) rfl (by kernel_rfl) (by kernel_rfl) (by kernel_rfl) (fun _ _ _ h => h) (Or.inl ⟨by rfl, ?_⟩) (by assumption) ?_
              rotate_left
              · (intro wS hSw; have c16 := hSw.1 16 _ rfl; have c17 := hSw.1 17 _ rfl; have c18 := hSw.1 18 _ rfl; have c19 := hSw.1 19 _ rfl; have c20 := hSw.1 20 _ rfl; have c21 := hSw.1 21 _ rfl; have c0 := hSw.1 0 _ rfl; have c1 := hSw.1 1 _ rfl; have c2 := hSw.1 2 _ rfl; have c3 := hSw.1 3 _ rfl; have c4 := hSw.1 4 _ rfl; have c5 := hSw.1 5 _ rfl; have c6 := hSw.1 6 _ rfl; have c7 := hSw.1 7 _ rfl; have zc := hSw.2.2; go_simp; try with_reducible rfl)
              change wpAnyH _ _ _ _ _ _ _ (Act.put _ (some 141) _) _
              simp only [Act.put, List.setIfInBounds_toArray, List.set_cons_zero, List.set_cons_succ]
              refine wpAnyH_take (i := 9) (v := ?_) rfl (by kernel_rfl) (by kernel_rfl) (by kernel_rfl) (fun _ _ _ h => h) (Or.inl ⟨by rfl, ?_⟩) (by assumption) ?_
              rotate_left
              · (intro wS hSw; have c16 := hSw.1 16 _ rfl; have c17 := hSw.1 17 _ rfl; have c18 := hSw.1 18 _ rfl; have c19 := hSw.1 19 _ rfl; have c20 := hSw.1 20 _ rfl; have c21 := hSw.1 21 _ rfl; have c0 := hSw.1 0 _ rfl; have c1 := hSw.1 1 _ rfl; have c2 := hSw.1 2 _ rfl; have c3 := hSw.1 3 _ rfl; have c4 := hSw.1 4 _ rfl; have c5 := hSw.1 5 _ rfl; have c6 := hSw.1 6 _ rfl; have c7 := hSw.1 7 _ rfl; have zc := hSw.2.2; go_simp; try with_reducible rfl)
              change wpAnyH _ _ _ _ _ _ _ (Act.put _ (some 142) _) _
              simp only [Act.put, List.setIfInBounds_toArray, List.set_cons_zero, List.set_cons_succ]
              refine wpAnyH_take (i := 10) (v := ?_) rfl (by kernel_rfl) (by kernel_rfl) (by kernel_rfl) (fun _ _ _ h => h) (Or.inl ⟨by rfl, ?_⟩) (by assumption) ?_
              rotate_left
              · (intro wS hSw; have c16 := hSw.1 16 _ rfl; have c17 := hSw.1 17 _ rfl; have c18 := hSw.1 18 _ rfl; have c19 := hSw.1 19 _ rfl; have c20 := hSw.1 20 _ rfl; have c21 := hSw.1 21 _ rfl; have c0 := hSw.1 0 _ rfl; have c1 := hSw.1 1 _ rfl; have c2 := hSw.1 2 _ rfl; have c3 := hSw.1 3 _ rfl; have c4 := hSw.1 4 _ rfl; have c5 := hSw.1 5 _ rfl; have c6 := hSw.1 6 _ rfl; have c7 := hSw.1 7 _ rfl; have zc := hSw.2.2; go_simp; try with_reducible rfl)
              change wpAnyH _ _ _ _ _ _ _ (Act.put _ (some 143) _) _
              simp only [Act.put, List.setIfInBounds_toArray, List.set_cons_zero, List.set_cons_succ]
              refine wpAnyH_take (i := 11) (v := ?_) rfl (by kernel_rfl) (by kernel_rfl) (by kernel_rfl) (fun _ _ _ h => h) (Or.inl ⟨by rfl, ?_⟩) (by assumption) ?_
              rotate_left
              · (intro wS hSw; have c16 := hSw.1 16 _ rfl; have c17 := hSw.1 17 _ rfl; have c18 := hSw.1 18 _ rfl; have c19 := hSw.1 19 _ rfl; have c20 := hSw.1 20 _ rfl; have c21 := hSw.1 21 _ rfl; have c0 := hSw.1 0 _ rfl; have c1 := hSw.1 1 _ rfl; have c2 := hSw.1 2 _ rfl; have c3 := hSw.1 3 _ rfl; have c4 := hSw.1 4 _ rfl; have c5 := hSw.1 5 _ rfl; have c6 := hSw.1 6 _ rfl; have c7 := hSw.1 7 _ rfl; have zc := hSw.2.2; go_simp; try with_reducible rfl)
              change wpAnyH _ _ _ _ _ _ _ (Act.put _ (some 144) _) _
              simp only [Act.put, List.setIfInBounds_toArray, List.set_cons_zero, List.set_cons_succ]
              refine wpAnyH_take (i := 12) (v := ?_) rfl (by kernel_rfl) (by kernel_rfl) (by kernel_rfl) (fun _ _ _ h => h) (Or.inl ⟨by rfl, ?_⟩) (by assumption) ?_
              rotate_left
              · (intro wS hSw; have c16 := hSw.1 16 _ rfl; have c17 := hSw.1 17 _ rfl; have c18 := hSw.1 18 _ rfl; have c19 := hSw.1 19 _ rfl; have c20 := hSw.1 20 _ rfl; have c21 := hSw.1 21 _ rfl; have c0 := hSw.1 0 _ rfl; have c1 := hSw.1 1 _ rfl; have c2 := hSw.1 2 _ rfl; have c3 := hSw.1 3 _ rfl; have c4 := hSw.1 4 _ rfl; have c5 := hSw.1 5 _ rfl; have c6 := hSw.1 6 _ rfl; have c7 := hSw.1 7 _ rfl; have zc := hSw.2.2; go_simp; try with_reducible rfl)
              change wpAnyH _ _ _ _ _ _ _ (Act.put _ (some 145) _) _
              simp only [Act.put, List.setIfInBounds_toArray, List.set_cons_zero, List.set_cons_succ]
              refine wpAnyH_take (i := 13) (v := ?_) rfl (by kernel_rfl) (by kernel_rfl) (by kernel_rfl) (fun _ _ _ h => h) (Or.inl ⟨by rfl, ?_⟩) (by assumption) ?_
              rotate_left
              · (intro wS hSw; have c16 := hSw.1 16 _ rfl; have c17 := hSw.1 17 _ rfl; have c18 := hSw.1 18 _ rfl; have c19 := hSw.1 19 _ rfl; have c20 := hSw.1 20 _ rfl; have c21 := hSw.1 21 _ rfl; have c0 := hSw.1 0 _ rfl; have c1 := hSw.1 1 _ rfl; have c2 := hSw.1 2 _ rfl; have c3 := hSw.1 3 _ rfl; have c4 := hSw.1 4 _ rfl; have c5 := hSw.1 5 _ rfl; have c6 := hSw.1 6 _ rfl; have c7 := hSw.1 7 _ rfl; have zc := hSw.2.2; go_simp; try with_reducible rfl)
              change wpAnyH _ _ _ _ _ _ _ (Act.put _ (some 146) _) _
              simp only [Act.put, List.setIfInBounds_toArray, List.set_cons_zero, List.set_cons_succ]
              refine wpAnyH_take (i := 14) (v := ?_) rfl (by kernel_rfl) (by kernel_rfl) (by kernel_rfl) (fun _ _ _ h => h) (Or.inl ⟨by rfl, ?_⟩) (by assumption) ?_
              rotate_left
              · (intro wS hSw; have c16 := hSw.1 16 _ rfl; have c17 := hSw.1 17 _ rfl; have c18 := hSw.1 18 _ rfl; have c19 := hSw.1 19 _ rfl; have c20 := hSw.1 20 _ rfl; have c21 := hSw.1 21 _ rfl; have c0 := hSw.1 0 _ rfl; have c1 := hSw.1 1 _ rfl; have c2 := hSw.1 2 _ rfl; have c3 := hSw.1 3 _ rfl; have c4 := hSw.1 4 _ rfl; have c5 := hSw.1 5 _ rfl; have c6 := hSw.1 6 _ rfl; have c7 := hSw.1 7 _ rfl; have zc := hSw.2.2; go_simp; try with_reducible rfl)
              change wpAnyH _ _ _ _ _ _ _ (Act.put _ (some 147) _) _
              simp only [Act.put, List.setIfInBounds_toArray, List.set_cons_zero, List.set_cons_succ]
              refine wpAnyH_take (i := 15) (v := ?_) rfl (by kernel_rfl) (by kernel_rfl) (by kernel_rfl) (fun _ _ _ h => h) (Or.inl ⟨by rfl, ?_⟩) (by assumption) ?_
              rotate_left
              · (intro wS hSw; have c16 := hSw.1 16 _ rfl; have c17 := hSw.1 17 _ rfl; have c18 := hSw.1 18 _ rfl; have c19 := hSw.1 19 _ rfl; have c20 := hSw.1 20 _ rfl; have c21 := hSw.1 21 _ rfl; have c0 := hSw.1 0 _ rfl; have c1 := hSw.1 1 _ rfl; have c2 := hSw.1 2 _ rfl; have c3 := hSw.1 3 _ rfl; have c4 := hSw.1 4 _ rfl; have c5 := hSw.1 5 _ rfl; have c6 := hSw.1 6 _ rfl; have c7 := hSw.1 7 _ rfl; have zc := hSw.2.2; go_simp; try with_reducible rfl)
              change wpAnyH _ _ _ _ _ _ _ (Act.put _ (some 148) _) _
              simp only [Act.put, List.setIfInBounds_toArray, List.set_cons_zero, List.set_cons_succ]
              refine wpAnyH_take (i := 16) (v := ?_) rfl (by kernel_rfl) (by kernel_rfl) (by kernel_rfl) (fun _ _ _ h => h) (Or.inl ⟨by rfl, ?_⟩) (by assumption) ?_
              rotate_left
              · (intro wS hSw; have c16 := hSw.1 16 _ rfl; have c17 := hSw.1 17 _ rfl; have c18 := hSw.1 18 _ rfl; have c19 := hSw.1 19 _ rfl; have c20 := hSw.1 20 _ rfl; have c21 := hSw.1 21 _ rfl; have c0 := hSw.1 0 _ rfl; have c1 := hSw.1 1 _ rfl; have c2 := hSw.1 2 _ rfl; have c3 := hSw.1 3 _ rfl; have c4 := hSw.1 4 _ rfl; have c5 := hSw.1 5 _ rfl; have c6 := hSw.1 6 _ rfl; have c7 := hSw.1 7 _ rfl; have zc := hSw.2.2; go_simp; try with_reducible rfl)
              change wpAnyH _ _ _ _ _ _ _ (Act.put _ (some 149) _) _
              simp only [Act.put, List.setIfInBounds_toArray, List.set_cons_zero, List.set_cons_succ]
              refine wpAnyH_take (i := 17) (v := ?_) rfl (by kernel_rfl) (by kernel_rfl) (by kernel_rfl) (fun _ _ _ h => h) (Or.inl ⟨by rfl, ?_⟩) (by assumption) ?_
              rotate_left
              · (intro wS hSw; have c16 := hSw.1 16 _ rfl; have c17 := hSw.1 17 _ rfl; have c18 := hSw.1 18 _ rfl; have c19 := hSw.1 19 _ rfl; have c20 := hSw.1 20 _ rfl; have c21 := hSw.1 21 _ rfl; have c0 := hSw.1 0 _ rfl; have c1 := hSw.1 1 _ rfl; have c2 := hSw.1 2 _ rfl; have c3 := hSw.1 3 _ rfl; have c4 := hSw.1 4 _ rfl; have c5 := hSw.1 5 _ rfl; have c6 := hSw.1 6 _ rfl; have c7 := hSw.1 7 _ rfl; have zc := hSw.2.2; go_simp; try with_reducible rfl)
              change wpAnyH _ _ _ _ _ _ _ (Act.put _ (some 150) _) _
              simp only [Act.put, List.setIfInBounds_toArray, List.set_cons_zero, List.set_cons_succ]
              refine wpAnyH_take (i := 18) (v := ?_) rfl (by kernel_rfl) (by kernel_rfl) (by kernel_rfl) (fun _ _ _ h => h) (Or.inl ⟨by rfl, ?_⟩) (by assumption) ?_
              rotate_left
              · (intro wS hSw; have c16 := hSw.1 16 _ rfl; have c17 := hSw.1 17 _ rfl; have c18 := hSw.1 18 _ rfl; have c19 := hSw.1 19 _ rfl; have c20 := hSw.1 20 _ rfl; have c21 := hSw.1 21 _ rfl; have c0 := hSw.1 0 _ rfl; have c1 := hSw.1 1 _ rfl; have c2 := hSw.1 2 _ rfl; have c3 := hSw.1 3 _ rfl; have c4 := hSw.1 4 _ rfl; have c5 := hSw.1 5 _ rfl; have c6 := hSw.1 6 _ rfl; have c7 := hSw.1 7 _ rfl; have zc := hSw.2.2; go_simp; try with_reducible rfl)
              change wpAnyH _ _ _ _ _ _ _ (Act.put _ (some 151) _) _
              simp only [Act.put, List.setIfInBounds_toArray, List.set_cons_zero, List.set_cons_succ]
              refine wpAnyH_take (i := 19) (v := undef) rfl (by kernel_rfl) (by kernel_rfl) (by kernel_rfl) (fun _ _ _ h => h) (Or.inr ⟨by rfl, rfl⟩) (by assumption) ?_
              change wpAnyH _ _ _ _ _ _ _ (Act.put _ (some 152) _) _
              simp only [Act.put, List.setIfInBounds_toArray, List.set_cons_zero, List.set_cons_succ]
              refine wpAnyH_take (i := 20) (v := undef) rfl (by kernel_rfl) (by kernel_rfl) (by kernel_rfl) (fun _ _ _ h => h) (Or.inr ⟨by rfl, rfl⟩) (by assumption) ?_
              change wpAnyH _ _ _ _ _ _ _ (Act.put _ (some 153) _) _
              simp only [Act.put, List.setIfInBounds_toArray, List.set_cons_zero, List.set_cons_succ]
              refine wpAnyH_take (i := 21) (v := undef) rfl (by kernel_rfl) (by kernel_rfl) (by kernel_rfl) (fun _ _ _ h => h) (Or.inr ⟨by rfl, rfl⟩) (by assumption) ?_
              change wpAnyH _ _ _ _ _ _ _ (Act.put _ (some 154) _) _
              simp only [Act.put, List.setIfInBounds_toArray, List.set_cons_zero, List.set_cons_succ]
              refine wpAnyH_take (i := 22) (v := undef) rfl (by kernel_rfl) (by kernel_rfl) (by kernel_rfl) (fun _ _ _ h => h) (Or.inr ⟨by rfl, rfl⟩) (by assumption) ?_
              change wpAnyH _ _ _ _ _ _ _ (Act.put _ (some 155) _) _
              simp only [Act.put, List.setIfInBounds_toArray, List.set_cons_zero, List.set_cons_succ]
              refine wpAnyH_take (i := 23) (v := undef) rfl (by kernel_rfl) (by kernel_rfl) (by kernel_rfl) (fun _ _ _ h => h) (Or.inr ⟨by rfl, rfl⟩) (by assumption) ?_
              change wpAnyH _ _ _ _ _ _ _ (Act.put _ (some 156) _) _
              simp only [Act.put, List.setIfInBounds_toArray, List.set_cons_zero, List.set_cons_succ]
              refine wpAnyH_take (i := 24) (v := undef) rfl (by kernel_rfl) (by kernel_rfl) (by kernel_rfl) (fun _ _ _ h => h) (Or.inr ⟨by rfl, rfl⟩) (by assumption) ?_
              change wpAnyH _ _ _ _ _ _ _ (Act.put _ (some 157) _) _
              simp only [Act.put, List.setIfInBounds_toArray, List.set_cons_zero, List.set_cons_succ]
              refine wpAnyH_take (i := 25) (v := undef) rfl (by kernel_rfl) (by kernel_rfl) (by kernel_rfl) (fun _ _ _ h => h) (Or.inr ⟨by rfl, rfl⟩) (by assumption) ?_
              change wpAnyH _ _ _ _ _ _ _ (Act.put _ (some 158) _) _
              simp only [Act.put, List.setIfInBounds_toArray, List.set_cons_zero, List.set_cons_succ]
              refine wpAnyH_take (i := 26) (v := undef) rfl (by kernel_rfl) (by kernel_rfl) (by kernel_rfl) (fun _ _ _ h => h) (Or.inr ⟨by rfl, rfl⟩) (by assumption) ?_
              change wpAnyH _ _ _ _ _ _ _ (Act.put _ (some 159) _) _
              simp only [Act.put, List.setIfInBounds_toArray, List.set_cons_zero, List.set_cons_succ]
              refine wpAnyH_take (i := 27) (v := ?_) rfl (by kernel_rfl) (by kernel_rfl) (by kernel_rfl) (fun _ _ _ h => h) (Or.inl ⟨by rfl, ?_⟩) (by assumption) ?_
              rotate_left
              · (intro wS hSw; have c16 := hSw.1 16 _ rfl; have c17 := hSw.1 17 _ rfl; have c18 := hSw.1 18 _ rfl; have c19 := hSw.1 19 _ rfl; have c20 := hSw.1 20 _ rfl; have c21 := hSw.1 21 _ rfl; have c0 := hSw.1 0 _ rfl; have c1 := hSw.1 1 _ rfl; have c2 := hSw.1 2 _ rfl; have c3 := hSw.1 3 _ rfl; have c4 := hSw.1 4 _ rfl; have c5 := hSw.1 5 _ rfl; have c6 := hSw.1 6 _ rfl; have c7 := hSw.1 7 _ rfl; have zc := hSw.2.2; go_simp; try with_reducible rfl)
              change wpAnyH _ _ _ _ _ _ _ (Act.put _ (some 160) _) _
              simp only [Act.put, List.setIfInBounds_toArray, List.set_cons_zero, List.set_cons_succ]
              refine wpAnyH_take (i := 28) (v := ?_) rfl (by kernel_rfl) (by kernel_rfl) (by kernel_rfl) (fun _ _ _ h => h) (Or.inl ⟨by rfl, ?_⟩) (by assumption) ?_
              rotate_left
              · (intro wS hSw; have c16 := hSw.1 16 _ rfl; have c17 := hSw.1 17 _ rfl; have c18 := hSw.1 18 _ rfl; have c19 := hSw.1 19 _ rfl; have c20 := hSw.1 20 _ rfl; have c21 := hSw.1 21 _ rfl; have c0 := hSw.1 0 _ rfl; have c1 := hSw.1 1 _ rfl; have c2 := hSw.1 2 _ rfl; have c3 := hSw.1 3 _ rfl; have c4 := hSw.1 4 _ rfl; have c5 := hSw.1 5 _ rfl; have c6 := hSw.1 6 _ rfl; have c7 := hSw.1 7 _ rfl; have zc := hSw.2.2; go_simp; try with_reducible rfl)
              change wpAnyH _ _ _ _ _ _ _ (Act.put _ (some 161) _) _
              simp only [Act.put, List.setIfInBounds_toArray, List.set_cons_zero, List.set_cons_succ]
              refine wpAnyH_done (by kernel_rfl) ?_ _
              refine NoPanic.normal ?_
              (try go_wp2)
              go_meet
              case rel => exact ⟨by first | rfl | (cases eb <;> rfl), F_1.out⟩
          · obtain rfl : om = false := by cases om with | false => rfl | true => have := PMm.1 rfl; omega
            obtain rfl : eb = false := HE
            have m0' : decide (0 ≤ mask) = false := decide_eq_false m0
            clear PMm m0
            have F_0 : Hid (Below w10.heap.size w10 _) := Below.drew (Below.refl _ _)
            refine wp_region_noPanic ?_
            refine wp_region_held_drew (S := fun w' => Cs w' b1 [.int .i64 (F 0 0), .int .i64 (F 0 1), .int .i64 (F 0 2), .int .i64 (F 0 3), .int .i64 (F 0 4), .int .i64 (F 0 5), .int .i64 (F 0 6), .int .i64 (F 0 7), .int .i64 (F 1 0), .int .i64 (F 1 1), .int .i64 (F 1 2), .int .i64 (F 1 3), .int .i64 (F 1 4), .int .i64 (F 1 5), .int .i64 (F 1 6), .int .i64 (F 1 7), .int .i64 nodes, .int .i64 held, .int .i64 mask, .int .i64 (K 0), .int .i64 (K 1), .int .i64 most]) (by kernel_rfl) ?_ (fun hHeld => ?_)
            · exact Cs.later F_0.out q10
            refine wpAnyH_take (i := 0) (v := ?_) rfl (by kernel_rfl) (by kernel_rfl) (by kernel_rfl) (fun _ _ _ h => h) (Or.inl ⟨by rfl, ?_⟩) (by assumption) ?_
            rotate_left
            · (intro wS hSw; have c16 := hSw.1 16 _ rfl; have c17 := hSw.1 17 _ rfl; have c18 := hSw.1 18 _ rfl; have c19 := hSw.1 19 _ rfl; have c20 := hSw.1 20 _ rfl; have c21 := hSw.1 21 _ rfl; have c0 := hSw.1 0 _ rfl; have c1 := hSw.1 1 _ rfl; have c2 := hSw.1 2 _ rfl; have c3 := hSw.1 3 _ rfl; have c4 := hSw.1 4 _ rfl; have c5 := hSw.1 5 _ rfl; have c6 := hSw.1 6 _ rfl; have c7 := hSw.1 7 _ rfl; have zc := hSw.2.2; go_simp; try with_reducible rfl)
            change wpAnyH _ _ _ _ _ _ _ (Act.put _ (some 133) _) _
            simp only [Act.put, List.setIfInBounds_toArray, List.set_cons_zero, List.set_cons_succ]
            refine wpAnyH_take (i := 1) rfl (by kernel_rfl) (by kernel_rfl) (by kernel_rfl) (fun _ _ _ h => h) (yld16 (F := F) (by rfl) (.tmp 133) rfl rfl (fun _ hSx => case_free hSx)) (by assumption) ?_
            change wpAnyH _ _ _ _ _ _ _ (Act.put _ (some 134) _) _
            simp only [Act.put, List.setIfInBounds_toArray, List.set_cons_zero, List.set_cons_succ]
            refine wpAnyH_take (i := 2) (v := ?_) rfl (by kernel_rfl) (by kernel_rfl) (by kernel_rfl) (fun _ _ _ h => h) (Or.inl ⟨by rfl, ?_⟩) (by assumption) ?_
            rotate_left
            · (intro wS hSw; have c16 := hSw.1 16 _ rfl; have c17 := hSw.1 17 _ rfl; have c18 := hSw.1 18 _ rfl; have c19 := hSw.1 19 _ rfl; have c20 := hSw.1 20 _ rfl; have c21 := hSw.1 21 _ rfl; have c0 := hSw.1 0 _ rfl; have c1 := hSw.1 1 _ rfl; have c2 := hSw.1 2 _ rfl; have c3 := hSw.1 3 _ rfl; have c4 := hSw.1 4 _ rfl; have c5 := hSw.1 5 _ rfl; have c6 := hSw.1 6 _ rfl; have c7 := hSw.1 7 _ rfl; have zc := hSw.2.2; go_simp; try with_reducible rfl)
            change wpAnyH _ _ _ _ _ _ _ (Act.put _ (some 135) _) _
            simp only [Act.put, List.setIfInBounds_toArray, List.set_cons_zero, List.set_cons_succ]
            refine wpAnyH_take (i := 3) (v := ?_) rfl (by kernel_rfl) (by kernel_rfl) (by kernel_rfl) (fun _ _ _ h => h) (Or.inl ⟨by rfl, ?_⟩) (by assumption) ?_
            rotate_left
            · (intro wS hSw; have c16 := hSw.1 16 _ rfl; have c17 := hSw.1 17 _ rfl; have c18 := hSw.1 18 _ rfl; have c19 := hSw.1 19 _ rfl; have c20 := hSw.1 20 _ rfl; have c21 := hSw.1 21 _ rfl; have c0 := hSw.1 0 _ rfl; have c1 := hSw.1 1 _ rfl; have c2 := hSw.1 2 _ rfl; have c3 := hSw.1 3 _ rfl; have c4 := hSw.1 4 _ rfl; have c5 := hSw.1 5 _ rfl; have c6 := hSw.1 6 _ rfl; have c7 := hSw.1 7 _ rfl; have zc := hSw.2.2; go_simp; try with_reducible rfl)
            change wpAnyH _ _ _ _ _ _ _ (Act.put _ (some 136) _) _
            simp only [Act.put, List.setIfInBounds_toArray, List.set_cons_zero, List.set_cons_succ]
            refine wpAnyH_take (i := 4) (v := ?_) rfl (by kernel_rfl) (by kernel_rfl) (by kernel_rfl) (fun _ _ _ h => h) (Or.inl ⟨by rfl, ?_⟩) (by assumption) ?_
            rotate_left
            · (intro wS hSw; have c16 := hSw.1 16 _ rfl; have c17 := hSw.1 17 _ rfl; have c18 := hSw.1 18 _ rfl; have c19 := hSw.1 19 _ rfl; have c20 := hSw.1 20 _ rfl; have c21 := hSw.1 21 _ rfl; have c0 := hSw.1 0 _ rfl; have c1 := hSw.1 1 _ rfl; have c2 := hSw.1 2 _ rfl; have c3 := hSw.1 3 _ rfl; have c4 := hSw.1 4 _ rfl; have c5 := hSw.1 5 _ rfl; have c6 := hSw.1 6 _ rfl; have c7 := hSw.1 7 _ rfl; have zc := hSw.2.2; go_simp; try with_reducible rfl)
            change wpAnyH _ _ _ _ _ _ _ (Act.put _ (some 137) _) _
            simp only [Act.put, List.setIfInBounds_toArray, List.set_cons_zero, List.set_cons_succ]
            refine wpAnyH_take (i := 5) (v := ?_) rfl (by kernel_rfl) (by kernel_rfl) (by kernel_rfl) (fun _ _ _ h => h) (Or.inl ⟨by rfl, ?_⟩) (by assumption) ?_
            rotate_left
            · (intro wS hSw; have c16 := hSw.1 16 _ rfl; have c17 := hSw.1 17 _ rfl; have c18 := hSw.1 18 _ rfl; have c19 := hSw.1 19 _ rfl; have c20 := hSw.1 20 _ rfl; have c21 := hSw.1 21 _ rfl; have c0 := hSw.1 0 _ rfl; have c1 := hSw.1 1 _ rfl; have c2 := hSw.1 2 _ rfl; have c3 := hSw.1 3 _ rfl; have c4 := hSw.1 4 _ rfl; have c5 := hSw.1 5 _ rfl; have c6 := hSw.1 6 _ rfl; have c7 := hSw.1 7 _ rfl; have zc := hSw.2.2; go_simp; try with_reducible rfl)
            change wpAnyH _ _ _ _ _ _ _ (Act.put _ (some 138) _) _
            simp only [Act.put, List.setIfInBounds_toArray, List.set_cons_zero, List.set_cons_succ]
            refine wpAnyH_take (i := 7) (v := ?_) rfl (by kernel_rfl) (by kernel_rfl) (by kernel_rfl) (fun _ _ _ h => h) (Or.inl ⟨by rfl, ?_⟩) (by assumption) ?_
            rotate_left
            · (intro wS hSw; have c16 := hSw.1 16 _ rfl; have c17 := hSw.1 17 _ rfl; have c18 := hSw.1 18 _ rfl; have c19 := hSw.1 19 _ rfl; have c20 := hSw.1 20 _ rfl; have c21 := hSw.1 21 _ rfl; have c0 := hSw.1 0 _ rfl; have c1 := hSw.1 1 _ rfl; have c2 := hSw.1 2 _ rfl; have c3 := hSw.1 3 _ rfl; have c4 := hSw.1 4 _ rfl; have c5 := hSw.1 5 _ rfl; have c6 := hSw.1 6 _ rfl; have c7 := hSw.1 7 _ rfl; have zc := hSw.2.2; go_simp; try with_reducible rfl)
            change wpAnyH _ _ _ _ _ _ _ (Act.put _ (some 140) _) _
            simp only [Act.put, List.setIfInBounds_toArray, List.set_cons_zero, List.set_cons_succ]
            refine wpAnyH_ready (rs := [6]) (by kernel_rfl) (by simp) ?_
            refine AllReadyH.cons rfl (fun K hK => ?_) AllReadyH.nil
            go_simp
            refine (EN.out _).mono ?_
            rintro e v1 ⟨rfl, hv1⟩
            have F_1 : Hid (Below w10.heap.size w10 v1) := F_0.out.trans (hv1.mono F_0.out.size)
            clear hv1 F_0
            (try go_wp2_with (fail))
            refine hK.out _ _ ?_ (fun hHeld => ?_)
            · exact Cs.later F_1.out q10
            clear hK K
            refine wpAnyH_take (i := 8) (v := ?_) rfl (by kernel_rfl) (by kernel_rfl) (by kernel_rfl) (fun _ _ _ h => h) (Or.inl ⟨by rfl, ?_⟩) (by assumption) ?_
            rotate_left
            · (intro wS hSw; have c16 := hSw.1 16 _ rfl; have c17 := hSw.1 17 _ rfl; have c18 := hSw.1 18 _ rfl; have c19 := hSw.1 19 _ rfl; have c20 := hSw.1 20 _ rfl; have c21 := hSw.1 21 _ rfl; have c0 := hSw.1 0 _ rfl; have c1 := hSw.1 1 _ rfl; have c2 := hSw.1 2 _ rfl; have c3 := hSw.1 3 _ rfl; have c4 := hSw.1 4 _ rfl; have c5 := hSw.1 5 _ rfl; have c6 := hSw.1 6 _ rfl; have c7 := hSw.1 7 _ rfl; have zc := hSw.2.2; go_simp; try with_reducible rfl)
            change wpAnyH _ _ _ _ _ _ _ (Act.put _ (some 141) _) _
            simp only [Act.put, List.setIfInBounds_toArray, List.set_cons_zero, List.set_cons_succ]
            refine wpAnyH_take (i := 9) (v := ?_) rfl (by kernel_rfl) (by kernel_rfl) (by kernel_rfl) (fun _ _ _ h => h) (Or.inl ⟨by rfl, ?_⟩) (by assumption) ?_
            rotate_left
            · (intro wS hSw; have c16 := hSw.1 16 _ rfl; have c17 := hSw.1 17 _ rfl; have c18 := hSw.1 18 _ rfl; have c19 := hSw.1 19 _ rfl; have c20 := hSw.1 20 _ rfl; have c21 := hSw.1 21 _ rfl; have c0 := hSw.1 0 _ rfl; have c1 := hSw.1 1 _ rfl; have c2 := hSw.1 2 _ rfl; have c3 := hSw.1 3 _ rfl; have c4 := hSw.1 4 _ rfl; have c5 := hSw.1 5 _ rfl; have c6 := hSw.1 6 _ rfl; have c7 := hSw.1 7 _ rfl; have zc := hSw.2.2; go_simp; try with_reducible rfl)
            change wpAnyH _ _ _ _ _ _ _ (Act.put _ (some 142) _) _
            simp only [Act.put, List.setIfInBounds_toArray, List.set_cons_zero, List.set_cons_succ]
            refine wpAnyH_take (i := 10) (v := ?_) rfl (by kernel_rfl) (by kernel_rfl) (by kernel_rfl) (fun _ _ _ h => h) (Or.inl ⟨by rfl, ?_⟩) (by assumption) ?_
            rotate_left
            · (intro wS hSw; have c16 := hSw.1 16 _ rfl; have c17 := hSw.1 17 _ rfl; have c18 := hSw.1 18 _ rfl; have c19 := hSw.1 19 _ rfl; have c20 := hSw.1 20 _ rfl; have c21 := hSw.1 21 _ rfl; have c0 := hSw.1 0 _ rfl; have c1 := hSw.1 1 _ rfl; have c2 := hSw.1 2 _ rfl; have c3 := hSw.1 3 _ rfl; have c4 := hSw.1 4 _ rfl; have c5 := hSw.1 5 _ rfl; have c6 := hSw.1 6 _ rfl; have c7 := hSw.1 7 _ rfl; have zc := hSw.2.2; go_simp; try with_reducible rfl)
            change wpAnyH _ _ _ _ _ _ _ (Act.put _ (some 143) _) _
            simp only [Act.put, List.setIfInBounds_toArray, List.set_cons_zero, List.set_cons_succ]
            refine wpAnyH_take (i := 11) (v := ?_) rfl (by kernel_rfl) (by kernel_rfl) (by kernel_rfl) (fun _ _ _ h => h) (Or.inl ⟨by rfl, ?_⟩) (by assumption) ?_
            rotate_left
            · (intro wS hSw; have c16 := hSw.1 16 _ rfl; have c17 := hSw.1 17 _ rfl; have c18 := hSw.1 18 _ rfl; have c19 := hSw.1 19 _ rfl; have c20 := hSw.1 20 _ rfl; have c21 := hSw.1 21 _ rfl; have c0 := hSw.1 0 _ rfl; have c1 := hSw.1 1 _ rfl; have c2 := hSw.1 2 _ rfl; have c3 := hSw.1 3 _ rfl; have c4 := hSw.1 4 _ rfl; have c5 := hSw.1 5 _ rfl; have c6 := hSw.1 6 _ rfl; have c7 := hSw.1 7 _ rfl; have zc := hSw.2.2; go_simp; try with_reducible rfl)
            change wpAnyH _ _ _ _ _ _ _ (Act.put _ (some 144) _) _
            simp only [Act.put, List.setIfInBounds_toArray, List.set_cons_zero, List.set_cons_succ]
            refine wpAnyH_take (i := 12) (v := ?_) rfl (by kernel_rfl) (by kernel_rfl) (by kernel_rfl) (fun _ _ _ h => h) (Or.inl ⟨by rfl, ?_⟩) (by assumption) ?_
            rotate_left
            · (intro wS hSw; have c16 := hSw.1 16 _ rfl; have c17 := hSw.1 17 _ rfl; have c18 := hSw.1 18 _ rfl; have c19 := hSw.1 19 _ rfl; have c20 := hSw.1 20 _ rfl; have c21 := hSw.1 21 _ rfl; have c0 := hSw.1 0 _ rfl; have c1 := hSw.1 1 _ rfl; have c2 := hSw.1 2 _ rfl; have c3 := hSw.1 3 _ rfl; have c4 := hSw.1 4 _ rfl; have c5 := hSw.1 5 _ rfl; have c6 := hSw.1 6 _ rfl; have c7 := hSw.1 7 _ rfl; have zc := hSw.2.2; go_simp; try with_reducible rfl)
            change wpAnyH _ _ _ _ _ _ _ (Act.put _ (some 145) _) _
            simp only [Act.put, List.setIfInBounds_toArray, List.set_cons_zero, List.set_cons_succ]
            refine wpAnyH_take (i := 13) (v := ?_) rfl (by kernel_rfl) (by kernel_rfl) (by kernel_rfl) (fun _ _ _ h => h) (Or.inl ⟨by rfl, ?_⟩) (by assumption) ?_
            rotate_left
            · (intro wS hSw; have c16 := hSw.1 16 _ rfl; have c17 := hSw.1 17 _ rfl; have c18 := hSw.1 18 _ rfl; have c19 := hSw.1 19 _ rfl; have c20 := hSw.1 20 _ rfl; have c21 := hSw.1 21 _ rfl; have c0 := hSw.1 0 _ rfl; have c1 := hSw.1 1 _ rfl; have c2 := hSw.1 2 _ rfl; have c3 := hSw.1 3 _ rfl; have c4 := hSw.1 4 _ rfl; have c5 := hSw.1 5 _ rfl; have c6 := hSw.1 6 _ rfl; have c7 := hSw.1 7 _ rfl; have zc := hSw.2.2; go_simp; try with_reducible rfl)
            change wpAnyH _ _ _ _ _ _ _ (Act.put _ (some 146) _) _
            simp only [Act.put, List.setIfInBounds_toArray, List.set_cons_zero, List.set_cons_succ]
            refine wpAnyH_take (i := 14) (v := undef) rfl (by kernel_rfl) (by kernel_rfl) (by kernel_rfl) (fun _ _ _ h => h) (Or.inr ⟨by rfl, rfl⟩) (by assumption) ?_
            change wpAnyH _ _ _ _ _ _ _ (Act.put _ (some 147) _) _
            simp only [Act.put, List.setIfInBounds_toArray, List.set_cons_zero, List.set_cons_succ]
            refine wpAnyH_take (i := 15) (v := undef) rfl (by kernel_rfl) (by kernel_rfl) (by kernel_rfl) (fun _ _ _ h => h) (Or.inr ⟨by rfl, rfl⟩) (by assumption) ?_
            change wpAnyH _ _ _ _ _ _ _ (Act.put _ (some 148) _) _
            simp only [Act.put, List.setIfInBounds_toArray, List.set_cons_zero, List.set_cons_succ]
            refine wpAnyH_take (i := 16) (v := undef) rfl (by kernel_rfl) (by kernel_rfl) (by kernel_rfl) (fun _ _ _ h => h) (Or.inr ⟨by rfl, rfl⟩) (by assumption) ?_
            change wpAnyH _ _ _ _ _ _ _ (Act.put _ (some 149) _) _
            simp only [Act.put, List.setIfInBounds_toArray, List.set_cons_zero, List.set_cons_succ]
            refine wpAnyH_take (i := 17) (v := ?_) rfl (by kernel_rfl) (by kernel_rfl) (by kernel_rfl) (fun _ _ _ h => h) (Or.inl ⟨by rfl, ?_⟩) (by assumption) ?_
            rotate_left
            · (intro wS hSw; have c16 := hSw.1 16 _ rfl; have c17 := hSw.1 17 _ rfl; have c18 := hSw.1 18 _ rfl; have c19 := hSw.1 19 _ rfl; have c20 := hSw.1 20 _ rfl; have c21 := hSw.1 21 _ rfl; have c0 := hSw.1 0 _ rfl; have c1 := hSw.1 1 _ rfl; have c2 := hSw.1 2 _ rfl; have c3 := hSw.1 3 _ rfl; have c4 := hSw.1 4 _ rfl; have c5 := hSw.1 5 _ rfl; have c6 := hSw.1 6 _ rfl; have c7 := hSw.1 7 _ rfl; have zc := hSw.2.2; go_simp; try with_reducible rfl)
            change wpAnyH _ _ _ _ _ _ _ (Act.put _ (some 150) _) _
            simp only [Act.put, List.setIfInBounds_toArray, List.set_cons_zero, List.set_cons_succ]
            refine wpAnyH_take (i := 18) (v := ?_) rfl (by kernel_rfl) (by kernel_rfl) (by kernel_rfl) (fun _ _ _ h => h) (Or.inl ⟨by rfl, ?_⟩) (by assumption) ?_
            rotate_left
            · (intro wS hSw; have c16 := hSw.1 16 _ rfl; have c17 := hSw.1 17 _ rfl; have c18 := hSw.1 18 _ rfl; have c19 := hSw.1 19 _ rfl; have c20 := hSw.1 20 _ rfl; have c21 := hSw.1 21 _ rfl; have c0 := hSw.1 0 _ rfl; have c1 := hSw.1 1 _ rfl; have c2 := hSw.1 2 _ rfl; have c3 := hSw.1 3 _ rfl; have c4 := hSw.1 4 _ rfl; have c5 := hSw.1 5 _ rfl; have c6 := hSw.1 6 _ rfl; have c7 := hSw.1 7 _ rfl; have zc := hSw.2.2; go_simp; try with_reducible rfl)
            change wpAnyH _ _ _ _ _ _ _ (Act.put _ (some 151) _) _
            simp only [Act.put, List.setIfInBounds_toArray, List.set_cons_zero, List.set_cons_succ]
            refine wpAnyH_take (i := 19) (v := undef) rfl (by kernel_rfl) (by kernel_rfl) (by kernel_rfl) (fun _ _ _ h => h) (Or.inr ⟨by rfl, rfl⟩) (by assumption) ?_
            change wpAnyH _ _ _ _ _ _ _ (Act.put _ (some 152) _) _
            simp only [Act.put, List.setIfInBounds_toArray, List.set_cons_zero, List.set_cons_succ]
            refine wpAnyH_take (i := 20) (v := undef) rfl (by kernel_rfl) (by kernel_rfl) (by kernel_rfl) (fun _ _ _ h => h) (Or.inr ⟨by rfl, rfl⟩) (by assumption) ?_
            change wpAnyH _ _ _ _ _ _ _ (Act.put _ (some 153) _) _
            simp only [Act.put, List.setIfInBounds_toArray, List.set_cons_zero, List.set_cons_succ]
            refine wpAnyH_take (i := 21) (v := undef) rfl (by kernel_rfl) (by kernel_rfl) (by kernel_rfl) (fun _ _ _ h => h) (Or.inr ⟨by rfl, rfl⟩) (by assumption) ?_
            change wpAnyH _ _ _ _ _ _ _ (Act.put _ (some 154) _) _
            simp only [Act.put, List.setIfInBounds_toArray, List.set_cons_zero, List.set_cons_succ]
            refine wpAnyH_take (i := 22) (v := undef) rfl (by kernel_rfl) (by kernel_rfl) (by kernel_rfl) (fun _ _ _ h => h) (Or.inr ⟨by rfl, rfl⟩) (by assumption) ?_
            change wpAnyH _ _ _ _ _ _ _ (Act.put _ (some 155) _) _
            simp only [Act.put, List.setIfInBounds_toArray, List.set_cons_zero, List.set_cons_succ]
            refine wpAnyH_take (i := 23) (v := undef) rfl (by kernel_rfl) (by kernel_rfl) (by kernel_rfl) (fun _ _ _ h => h) (Or.inr ⟨by rfl, rfl⟩) (by assumption) ?_
            change wpAnyH _ _ _ _ _ _ _ (Act.put _ (some 156) _) _
            simp only [Act.put, List.setIfInBounds_toArray, List.set_cons_zero, List.set_cons_succ]
            refine wpAnyH_take (i := 24) (v := undef) rfl (by kernel_rfl) (by kernel_rfl) (by kernel_rfl) (fun _ _ _ h => h) (Or.inr ⟨by rfl, rfl⟩) (by assumption) ?_
            change wpAnyH _ _ _ _ _ _ _ (Act.put _ (some 157) _) _
            simp only [Act.put, List.setIfInBounds_toArray, List.set_cons_zero, List.set_cons_succ]
            refine wpAnyH_take (i := 25) (v := undef) rfl (by kernel_rfl) (by kernel_rfl) (by kernel_rfl) (fun _ _ _ h => h) (Or.inr ⟨by rfl, rfl⟩) (by assumption) ?_
            change wpAnyH _ _ _ _ _ _ _ (Act.put _ (some 158) _) _
            simp only [Act.put, List.setIfInBounds_toArray, List.set_cons_zero, List.set_cons_succ]
            refine wpAnyH_take (i := 26) (v := undef) rfl (by kernel_rfl) (by kernel_rfl) (by kernel_rfl) (fun _ _ _ h => h) (Or.inr ⟨by rfl, rfl⟩) (by assumption) ?_
            change wpAnyH _ _ _ _ _ _ _ (Act.put _ (some 159) _) _
            simp only [Act.put, List.setIfInBounds_toArray, List.set_cons_zero, List.set_cons_succ]
            refine wpAnyH_take (i := 27) (v := ?_) rfl (by kernel_rfl) (by kernel_rfl) (by kernel_rfl) (fun _ _ _ h => h) (Or.inl ⟨by rfl, ?_⟩) (by assumption) ?_
            rotate_left
            · (intro wS hSw; have c16 := hSw.1 16 _ rfl; have c17 := hSw.1 17 _ rfl; have c18 := hSw.1 18 _ rfl; have c19 := hSw.1 19 _ rfl; have c20 := hSw.1 20 _ rfl; have c21 := hSw.1 21 _ rfl; have c0 := hSw.1 0 _ rfl; have c1 := hSw.1 1 _ rfl; have c2 := hSw.1 2 _ rfl; have c3 := hSw.1 3 _ rfl; have c4 := hSw.1 4 _ rfl; have c5 := hSw.1 5 _ rfl; have c6 := hSw.1 6 _ rfl; have c7 := hSw.1 7 _ rfl; have zc := hSw.2.2; go_simp; try with_reducible rfl)
            change wpAnyH _ _ _ _ _ _ _ (Act.put _ (some 160) _) _
            simp only [Act.put, List.setIfInBounds_toArray, List.set_cons_zero, List.set_cons_succ]
            refine wpAnyH_take (i := 28) (v := ?_) rfl (by kernel_rfl) (by kernel_rfl) (by kernel_rfl) (fun _ _ _ h => h) (Or.inl ⟨by rfl, ?_⟩) (by assumption) ?_
            rotate_left
            · (intro wS hSw; have c16 := hSw.1 16 _ rfl; have c17 := hSw.1 17 _ rfl; have c18 := hSw.1 18 _ rfl; have c19 := hSw.1 19 _ rfl; have c20 := hSw.1 20 _ rfl; have c21 := hSw.1 21 _ rfl; have c0 := hSw.1 0 _ rfl; have c1 := hSw.1 1 _ rfl; have c2 := hSw.1 2 _ rfl; have c3 := hSw.1 3 _ rfl; have c4 := hSw.1 4 _ rfl; have c5 := hSw.1 5 _ rfl; have c6 := hSw.1 6 _ rfl; have c7 := hSw.1 7 _ rfl; have zc := hSw.2.2; go_simp; try with_reducible rfl)
            change wpAnyH _ _ _ _ _ _ _ (Act.put _ (some 161) _) _
            simp only [Act.put, List.setIfInBounds_toArray, List.set_cons_zero, List.set_cons_succ]
            refine wpAnyH_done (by kernel_rfl) ?_ _
            refine NoPanic.normal ?_
            (try go_wp2)
            go_meet
            case rel => exact ⟨by first | rfl | (cases eb <;> rfl), F_1.out⟩
      case rest =>
        obtain ⟨rfl, hb⟩ := hcut
        have q11 := Cs.later hb q10
        have r11 := r10.later hb
        have g11 := g10.trans (hb.mono g10.size)
        clear hb q10 r10 g10 EN E2 PM HEN
        obtain ⟨w11, hw11⟩ : ∃ w11, w11 = wc := ⟨_, rfl⟩
        rw [← hw11] at q11 r11 g11 ⊢
        clear hw11
        have c17 := q11.1 17 _ rfl
        have c16 := q11.1 16 _ rfl
        have zc := q11.2.2
        cases right with
        | false =>
          obtain ⟨rfl, rfl⟩ := HPN.out.1 (.inl rfl)
          obtain rfl : n1 = 0 := HN1.out.1.trans (by rw [List.take_nil]; rfl)
          rw [show headI [] = 0 from rfl, show anyL [] = false from rfl]
          go_wp2
          go_ret
          exact ⟨rfl, g11⟩
        | true =>
          by_cases nn : 0 ≤ nodes ∧ nodes ≤ 8
          case neg =>
            obtain ⟨rfl, rfl⟩ := HPN.out.1 (.inr nn)
            obtain rfl : n1 = 0 := HN1.out.1.trans (by rw [List.take_nil]; rfl)
            rw [show headI [] = 0 from rfl, show anyL [] = false from rfl]
            by_cases n0 : nodes < 0
            · clear nn
              go_wp2
              go_ret
              exact ⟨rfl, g11⟩
            · have n8 : 8 < nodes := by omega
              clear nn
              go_wp2
              go_ret
              exact ⟨rfl, g11⟩
          case pos =>
            obtain ⟨hD0, hL0⟩ := HPY.out.1 rfl nn.1 nn.2
            have HD : Hid (D = C.filter (uB held) ∧ True) := ⟨hD0, trivial⟩
            have HL : Hid ((∀ x ∈ C, x < 256) ∧ True) := ⟨hL0, trivial⟩
            have C19' : Hid (∀ w, Calls Try.prog 16 #[frV F, .int .i64 nodes, ndV K] w fun e w' => ∃ v, e = .returned v ∧ RdI w' v (C.map fun x : Nat => (x : Int)) ∧ Below w.heap.size w w') := C19.out rfl nn.1 nn.2
            have n0 : ¬ nodes < 0 := by omega
            have n8 : ¬ 8 < nodes := by omega
            clear nn HPY HPN C19 hD0 hL0
            have c0 := q11.1 0 _ rfl
            have c1 := q11.1 1 _ rfl
            have c2 := q11.1 2 _ rfl
            have c3 := q11.1 3 _ rfl
            have c4 := q11.1 4 _ rfl
            have c5 := q11.1 5 _ rfl
            have c6 := q11.1 6 _ rfl
            have c7 := q11.1 7 _ rfl
            have c18 := q11.1 18 _ rfl
            have c19 := q11.1 19 _ rfl
            have c20 := q11.1 20 _ rfl
            have c21 := q11.1 21 _ rfl
            go_wp2_with (first | (refine ld16 (F := F) (case_free q11) rfl _ rfl rfl ?_) | fail)
            refine (C19'.out _).mono ?_
            rintro e w12 ⟨va, rfl, ra, hb⟩
            have q12 := Cs.later hb q11
            have r12 := r11.later hb
            have g12 := g11.trans (hb.mono g11.size)
            clear hb q11 r11 g11 C19' c0 c1 c2 c3 c4 c5 c6 c7 c16 c17 c18 c19 c20 c21 zc n0 n8
            obtain ⟨ac, cc, rfl, a1, a2, -⟩ := id ra
            rw [List.length_map] at a1 ra ⊢
            obtain ⟨n2, hn2⟩ : ∃ n2, n2 = C.length := ⟨_, rfl⟩
            rw [← hn2] at a1 ra ⊢
            have n2m : n2 ≤ maxLen := by omega
            have MI : min (k : Int) (n2 : Int) = (n1 : Int) := by
              have := HN1.out.1
              rw [List.length_take, ← hn2] at this
              omega
            have N12 : Hid (n1 ≤ n2 ∧ n2 = C.length) := ⟨by
              have := HN1.out.1
              rw [List.length_take, ← hn2] at this
              omega, hn2⟩
            unfold maxLen at n2m
            have HA : Hid (RdI w12 (.slice ac n2 cc) (C.map fun x : Nat => (x : Int))) := ra
            have HR : Hid (RdI w12 (.slice al n1 cl) ((C.take k).map fun x : Nat => (x : Int))) := r12
            clear a1 a2 ra r12 hn2
            go_upto_region 20 with (fail)
            go_cut [227] from 196 to 227 (fun s wc => s = .bool false ∧ wc = w12)
            case first =>
              cases C with
              | nil =>
                obtain rfl : n2 = 0 := N12.out.2
                obtain rfl : n1 = 0 := by have := N12.out.1; omega
                clear N12 HA HR HL HD HN1
                rw [show ((0 : Nat) : Int) = 0 from rfl] at MI
                rw [show headI [] = 0 from rfl, show anyL [] = false from rfl]
                go_wp2_with (fail)
                go_meet
                case rel => exact ⟨rfl, rfl⟩
              | cons m rest =>
                have z2 : (0 : Int) < (n2 : Int) := by have := N12.out.2; rw [List.length_cons] at this; omega
                obtain ⟨ba, off, rfl, ca⟩ : ∃ b' off : Nat, ac = some ⟨b', off, none⟩ ∧ w12.cell? ⟨b', off, none⟩ = some (.int .i64 (m : Int)) := by
                  obtain ⟨a', cap', e, -, -, k3⟩ := HA.out
                  injection e with e1 e2 e3
                  subst e1
                  obtain ⟨b', off, e4, c⟩ := k3 0 _ rfl
                  exact ⟨b', off, e4, by simpa using c⟩
                clear N12 HA HR HL HD HN1
                rw [show headI (m :: rest) = (m : Int) from rfl, show anyL (m :: rest) = true from rfl]
                go_wp2_with (fail)
                go_meet
                case rel => exact ⟨rfl, rfl⟩
            case rest =>
              obtain ⟨rfl, hwc⟩ := hcut
              rw [hwc]
              clear MI hwc
              have HD2 : Hid (∀ (j x : Nat), C[j]? = some x → ∃ b' off : Nat, ac = some ⟨b', off, none⟩ ∧ w12.cell? ⟨b', off + j, none⟩ = some (.int .i64 (x : Int))) := fun j x hx => by
                obtain ⟨a', cap', e, -, -, k3⟩ := HA.out
                injection e with e1 e2 e3
                subst e1
                exact k3 j _ (by rw [List.getElem?_map, hx]; rfl)
              have HR2 : Hid (∀ (j x : Nat), j < n1 → C[j]? = some x → ∃ b' off : Nat, al = some ⟨b', off, none⟩ ∧ w12.cell? ⟨b', off + j, none⟩ = some (.int .i64 (x : Int))) := fun j x hj hx => by
                obtain ⟨a', cap', e, -, -, k3⟩ := HR.out
                injection e with e1 e2 e3
                subst e1
                have hk : j < k := by
                  have := HN1.out.1
                  rw [List.length_take] at this
                  omega
                exact k3 j _ (by rw [List.getElem?_map, List.getElem?_take_of_lt hk, hx]; rfl)
              have n1m : n1 ≤ 9223372036854775807 := by have := N12.out.1; omega
              have n12 : n1 ≤ n2 := N12.out.1
              clear HA HR HN1
              go_wp2
              go_loopw [230] (fun f wr => ∃ j : Nat, f = .int .i64 j ∧ j ≤ n1 ∧ Below w12.heap.size w12 wr) (fun f _ => n1 - (intOf f).toNat)
              case atStart => exact ⟨0, rfl, by omega, Below.refl _ _⟩
              case round =>
                obtain ⟨j, rfl, jl, HB⟩ := hrel
                by_cases cj : j < n1
                · obtain ⟨x, hx⟩ : ∃ x, C[j]? = some x := ⟨C[j]'(by have := N12.out.2; omega), List.getElem?_eq_getElem _⟩
                  obtain ⟨b2, off2, rfl, cx⟩ := HD2.out j x hx
                  obtain ⟨b3, off3, rfl, cy⟩ := HR2.out j x cj hx
                  have c0 := cell_later HB cx
                  have d0 := cell_later HB cy
                  have j0 : (0 : Int) ≤ (j : Int) := by omega
                  have j1 : (j : Int) < (n1 : Int) := by omega
                  have j2 : (j : Int) < (n2 : Int) := by omega
                  clear cx cy hx HD2 HR2
                  go_wp2_with (fail)
                  go_quiet (fail)
                  go_wp2
                  go_roundw
                  case rel => exact ⟨j + 1, by go_num, by omega, below_drewN HB _⟩
                  case measure => simp [intOf]; omega
                · obtain rfl : j = n1 := by omega
                  obtain ⟨h, hh⟩ : ∃ h, h = low held := ⟨_, rfl⟩
                  have OFh : Hid (∀ w, Calls Try.prog 13 #[.int .i64 held] w fun e w' => e = .returned (setV h) ∧ Below w.heap.size w w') := fun w => by rw [hh]; exact rof_v held w
                  have UE0 : Hid (∀ x, x < 256 → uB held x = (okM held && undT h x 8)) := fun x hx => by unfold uB; rw [hh, und_is hx]
                  have HBn := HB
                  clear HR2 hh cj jl HB
                  go_wp2
                  go_loopw [15, 16, 245] (fun o i f wr => ∃ j : Nat, f = .int .i64 j ∧ j ≤ n2 ∧ o = .int .i64 (headI ((C.take j).filter (uB held))) ∧ i = .bool (anyL ((C.take j).filter (uB held))) ∧ Below w12.heap.size w12 wr) (fun _ _ f _ => n2 - (intOf f).toNat)
                  case atStart => exact ⟨0, rfl, by omega, rfl, rfl, HBn⟩
                  case round =>
                    obtain ⟨j, rfl, jl, rfl, rfl, HB⟩ := hrel
                    by_cases cj : j < n2
                    · obtain ⟨x, hx⟩ : ∃ x, C[j]? = some x := ⟨C[j]'(by have := N12.out.2; omega), List.getElem?_eq_getElem _⟩
                      have x8 : x < 256 := HL.out.1 x (List.mem_of_getElem? hx)
                      obtain ⟨b2, off2, rfl, cx⟩ := HD2.out j x hx
                      have c0 := cell_later HB cx
                      have c17 := (Cs.later HB q12).1 17 _ rfl
                      have zc := (Cs.later HB q12).2.2
                      have j0 : (0 : Int) ≤ (j : Int) := by omega
                      have j2 : (j : Int) < (n2 : Int) := by omega
                      have TK : C.take (j + 1) = C.take j ++ [x] := by rw [List.take_add_one, hx]; rfl
                      have UE : Hid (uB held x = (okM held && undT h x 8) ∧ True) := ⟨UE0.out x x8, trivial⟩
                      have TY : Hid (uB held x = true → (C.take (j + 1)).filter (uB held) = (C.take j).filter (uB held) ++ [x]) := fun h => by rw [TK, snoc_yes h]
                      have TN : Hid (uB held x = false → (C.take (j + 1)).filter (uB held) = (C.take j).filter (uB held)) := fun h => by rw [TK, snoc_no h]
                      have OFx : Hid (∀ w, Calls Try.prog 13 #[.int .i64 x] w fun e w' => e = .returned (setV x) ∧ Below w.heap.size w w') := fun w => by
                        have := rof_v x w
                        rwa [low_of x8] at this
                      clear TK hx cx x8 UE0
                      generalize (C.take j).filter (uB held) = l1 at *
                      generalize uB held x = ux at *
                      obtain ⟨okh, hok⟩ : ∃ z, z = okM held := ⟨_, rfl⟩
                      have HO : Hid (okh = okM held ∧ True) := ⟨hok, trivial⟩
                      rw [← hok] at UE
                      clear hok
                      go_upto_region 32 with (fail)
                      obtain ⟨w13, hw13⟩ : ∃ w13, w13 = wr := ⟨_, rfl⟩
                      rw [← hw13] at HB c0 c17 zc ⊢
                      clear hw13
                      go_cut [19] from 249 to 256 (fun s wc => s = .bool okh ∧ wc = w13)
                      case first =>
                        have HO1 := HO.out.1
                        clear HO TY TN UE HD HL HD2 OFx OFh c0
                        by_cases h0 : 0 ≤ held
                        · by_cases h1 : held < 256
                          · obtain rfl : okh = true := HO1.trans (decide_eq_true ⟨h0, by omega⟩)
                            clear HO1
                            go_wp2_with (fail)
                            go_meet
                            case rel => exact ⟨rfl, rfl⟩
                          · obtain rfl : okh = false := HO1.trans (decide_eq_false (by omega))
                            clear HO1
                            go_wp2_with (fail)
                            go_meet
                            case rel => exact ⟨rfl, rfl⟩
                        · obtain rfl : okh = false := HO1.trans (decide_eq_false (by omega))
                          clear HO1
                          go_wp2_with (fail)
                          go_meet
                          case rel => exact ⟨rfl, rfl⟩
                      case rest =>
                        obtain ⟨rfl, hwc⟩ := hcut
                        rw [hwc]
                        clear HO hwc
                        go_wp2_with (fail)
                        refine (OFh.out _).mono ?_
                        rintro e w14 ⟨rfl, hb⟩
                        have HB14 := HB.trans (hb.mono HB.size)
                        clear hb c0 c17 zc
                        go_wp2
                        go_loopw [19, 260] (fun u f wr => ∃ i : Nat, f = .int .i64 i ∧ i ≤ 8 ∧ u = .bool (okh && undT h x i) ∧ Below w12.heap.size w12 wr) (fun _ f _ => 8 - (intOf f).toNat)
                        case atStart => exact ⟨0, rfl, by omega, by rw [show undT h x 0 = true from rfl, Bool.and_true], HB14⟩
                        case round =>
                          obtain ⟨i, rfl, il, rfl, HC⟩ := hrel
                          by_cases ci : i < 8
                          · have i0 : (0 : Int) ≤ (i : Int) := by omega
                            have i1 : (i : Int) < 8 := by omega
                            have ixh := ixS h ci
                            have ixx := ixS x ci
                            have HU : Hid ((okh && undT h x (i + 1)) = ((okh && undT h x i) && (!tb h i || tb x i)) ∧ True) := ⟨by rw [undT_succ, Bool.and_assoc], trivial⟩
                            clear TY TN UE HD HL HD2 OFh
                            generalize (okh && undT h x i) = t1 at *
                            generalize tb h i = t2 at *
                            generalize tb x i = t4 at *
                            cases t1 with
                            | false =>
                              go_wp2
                              go_roundw
                              case rel => exact ⟨i + 1, by go_num, by omega, by rw [HU.out.1]; rfl, HC⟩
                              case measure => simp [intOf]; omega
                            | true =>
                              cases t2 with
                              | false =>
                                go_wp2
                                go_roundw
                                case rel => exact ⟨i + 1, by go_num, by omega, by rw [HU.out.1]; rfl, HC⟩
                                case measure => simp [intOf]; omega
                              | true =>
                                go_wp2_with (fail)
                                refine (OFx.out _).mono ?_
                                rintro e w15 ⟨rfl, hb⟩
                                have HC2 := HC.trans (hb.mono HC.size)
                                clear hb
                                go_wp2
                                go_roundw
                                case rel => exact ⟨i + 1, by go_num, by omega, by rw [HU.out.1]; rfl, HC2⟩
                                case measure => simp [intOf]; omega
                          · obtain rfl : i = 8 := by omega
                            rw [← UE.out.1]
                            clear UE OFh OFx HD HL HD2 ci il
                            cases ux with
                            | false =>
                              have T9 := TN.out rfl
                              have HT : Hid ((C.take (j + 1)).filter (uB held) = l1 ∧ True) := ⟨T9, trivial⟩
                              clear T9 TN TY
                              go_wp2
                              go_roundw
                              case rel => exact ⟨j + 1, by go_num, by omega, by rw [HT.out.1], by rw [HT.out.1], HC⟩
                              case measure => simp [intOf]; omega
                            | true =>
                              have T9 := TY.out rfl
                              obtain ⟨A1, A2⟩ := any_snoc l1 x
                              rw [← T9] at A1 A2
                              have HT : Hid (anyL ((C.take (j + 1)).filter (uB held)) = true ∧ headI ((C.take (j + 1)).filter (uB held)) = if anyL l1 = true then headI l1 else (x : Int)) := ⟨A1, A2⟩
                              clear T9 TN TY A1 A2
                              generalize anyL l1 = a1 at *
                              cases a1 with
                              | false =>
                                go_wp2
                                go_roundw
                                case rel => exact ⟨j + 1, by go_num, by omega, by rw [HT.out.2]; rfl, by rw [HT.out.1], HC⟩
                                case measure => simp [intOf]; omega
                              | true =>
                                go_wp2
                                go_roundw
                                case rel => exact ⟨j + 1, by go_num, by omega, by rw [HT.out.2]; rfl, by rw [HT.out.1], HC⟩
                                case measure => simp [intOf]; omega
                    · obtain rfl : j = n2 := by omega
                      rw [List.take_of_length_le (by have := N12.out.2; omega), ← HD.out.1]
                      have HBE := g12.trans (HB.mono g12.size)
                      clear HL HD HD2 OFh UE0 HB HBn cj jl N12
                      generalize anyL D = d1 at *
                      generalize headI D = d2 at *
                      cases d1 <;>
                        (go_wp2
                         go_ret
                         exact ⟨rfl, HBE⟩)

end Go.Proofs.Ytkjaiahdkolmdaa.Mk
