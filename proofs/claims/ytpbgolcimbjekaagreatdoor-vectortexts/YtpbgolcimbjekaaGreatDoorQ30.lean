/-
  The contract of the document's own answer for an amount's binary text at this program. Conditions: the words are words; it is an amount.
-/
import Derived.Test.YtpbgolcimbjekaaGreatDoorQ28
import Derived.Test.YtpbgolcimbjekaaGreatDoorQ29
namespace Go.Proofs.YtpbgolcimbjekaaGreatDoor
open Go.RowKit

def binW : List Value := [.string ⟨#[]⟩, .string ⟨#[75, 105]⟩, .string ⟨#[77, 105]⟩, .string ⟨#[71, 105]⟩, .string ⟨#[84, 105]⟩, .string ⟨#[80, 105]⟩, .string ⟨#[69, 105]⟩]
def bin7 (t : Nat) : ByteArray := ba (([] :: bins).getD t [])
theorem bin7_at (t : Nat) (h : t < 7) : binW[t]? = some (.string (bin7 t)) := by
  match t, h with
  | 0, _ => rfl
  | 1, _ => rfl
  | 2, _ => rfl
  | 3, _ => rfl
  | 4, _ => rfl
  | 5, _ => rfl
  | 6, _ => rfl
theorem bin7_len (t : Nat) (h : t < 7) : (bin7 t).size ≤ 2 := by
  unfold bin7
  rw [ba_size]
  match t, h with
  | 0, _ => decide
  | 1, _ => decide
  | 2, _ => decide
  | 3, _ => decide
  | 4, _ => decide
  | 5, _ => decide
  | 6, _ => decide
theorem bin7_succ (k : Nat) : bin7 (k + 1) = ba (bins.getD k []) := rfl

/-- A row of the seven suffixes lies at q, once it is made; nothing older has turned. -/
def BS (w : World) (b : Bool) (q : Nat) (W : World) : Prop := Below w.heap.size w W ∧ (b = true → q < W.heap.size ∧ W.rangeAt q 0 binW)
theorem BS.later {w W w1 : World} {b : Bool} {q : Nat} (k : BS w b q W) (hb : Below W.heap.size W w1) : BS w b q w1 :=
  ⟨k.1.trans (hb.mono k.1.size), fun h => ⟨Nat.lt_of_lt_of_le (k.2 h).1 hb.size, range_later (k.2 h).2 hb (k.2 h).1⟩⟩
theorem BS.new {w W : World} (k : Below w.heap.size w W) (b : Bool) (t : TypeId) : BS w b W.heap.size (W.alloc (.cells #[.string ⟨#[]⟩, .string ⟨#[75, 105]⟩, .string ⟨#[77, 105]⟩, .string ⟨#[71, 105]⟩, .string ⟨#[84, 105]⟩, .string ⟨#[80, 105]⟩, .string ⟨#[69, 105]⟩] t)) :=
  ⟨k.alloc k.size _, fun _ => ⟨by simp, fun j v hv => by
    rw [World.cell?_alloc_at _ _ _ _ rfl, Nat.zero_add]
    simpa [binW] using hv⟩⟩

def j_lt (t : Int) : Bool := decide (t < 6)
theorem sh_stop {v x k t : Nat} (h : ¬ x % v = 0) : sh v k x t = (x, t) := by
  cases k with
  | zero => rfl
  | succ k => rw [sh, if_neg h]

set_option maxHeartbeats 1000000 in
set_option maxRecDepth 100000 in
theorem rbinAmount_is {ah al : Int} {a : Nat} (i : Is ah al a) (am : a ≤ most) (w : World) :
    Calls Tryz.prog 18 #[.agg #[.int .u64 ah, .int .u64 al]] w fun e w' => (∃ t : ByteArray, e = .returned (.string t) ∧ t.data.toList = binL a) ∧ Below w.heap.size w w' := by
  have a1 := i.lt
  have un := up_near a am
  have ue := up_eq (a := a) (v := 1000000000) (by omega)
  have p20 := pow20
  obtain ⟨A, hA⟩ : ∃ A : Int, A = (a : Int) := ⟨_, rfl⟩
  obtain ⟨V, hV⟩ : ∃ V : Int, V = ((1000000000 : Nat) : Int) := ⟨_, rfl⟩
  obtain ⟨Q, hQ⟩ : ∃ Q : Int, Q = ((a / 1000000000 : Nat) : Int) := ⟨_, rfl⟩
  obtain ⟨R, hR⟩ : ∃ R : Int, R = ((a % 1000000000 : Nat) : Int) := ⟨_, rfl⟩
  obtain ⟨N, hN⟩ : ∃ N : Nat, N = up a 1000000000 := ⟨_, rfl⟩
  have HRR : Hid (0 ≤ R ∧ R < 65536 ^ 20) := by unfold Hid; omega
  have CO : Hid (∀ w, Calls Tryz.prog 29 #[.agg #[.int .u64 ah, .int .u64 al]] w fun x w' => x = .returned (dv A) ∧ Below w.heap.size w w') := fun w => by rw [hA]; exact rof_is i w
  have CV : Hid (∀ w, Calls Tryz.prog 29 #[.agg #[.int .u64 0, .int .u64 1000000000]] w fun x w' => x = .returned (dv V) ∧ Below w.heap.size w w') := fun w => by rw [hV]; exact rof_is (Is.small (a := 1000000000) rfl (by omega)) w
  have CB : Hid (∀ w, Calls Tryz.prog 33 #[dv A, dv V] w fun x w' => x = .returned (.tuple #[dv Q, dv R]) ∧ Below w.heap.size w w') := fun w => by rw [hA, hV, hQ, hR]; exact by_nat a1 (by omega) (by omega) w
  have CPn : Hid (∀ w, Calls Tryz.prog 32 #[.agg #[.int .u64 ah, .int .u64 al], .int .u64 1000000000] w fun e w' => e = .returned (.tuple #[.int .i64 (N : Int), .bool true]) ∧ Below w.heap.size w w') := fun w => by
    refine (parts_is i (v := 1000000000) rfl (by omega) (by omega) w).mono ?_
    rintro e w' ⟨⟨n, o, rfl, f⟩, hw⟩
    rcases f with ⟨_, _, rfl, rfl⟩ | ⟨f, _⟩
    · rw [hN]; exact ⟨rfl, hw⟩
    · exact absurd ⟨am, un.1⟩ f
  have CT : Hid (∀ w, Calls Tryz.prog 16 #[.agg #[.int .u64 ah, .int .u64 al]] w fun e w' => (∃ t : ByteArray, e = .returned (.string t) ∧ t.data.toList = textL a) ∧ Below w.heap.size w w') := fun w => rtextAmount_is i am w
  have HT : Hid ((R ≠ 0 ∨ N = 0 ∨ ¬ N % 1024 = 0) → binL a = textL a) := by
    intro h
    unfold binL
    rw [if_pos am]
    by_cases z : a % 1000000000 ≠ 0 ∨ a / 1000000000 = 0
    · rw [if_pos z]
    · rw [if_neg z]
      have e : N = a / 1000000000 := by rw [hN, ue, if_pos (by omega)]
      rw [← e, sh_stop (by omega), if_pos rfl]
  have HU : Hid (¬ (R ≠ 0 ∨ N = 0 ∨ ¬ N % 1024 = 0) → binL a = dec (sh 1024 6 N 0).1 ++ (([] :: bins).getD (sh 1024 6 N 0).2 [])) := by
    intro h
    unfold binL
    have r0 : a % 1000000000 = 0 := by omega
    have e : N = a / 1000000000 := by rw [hN, ue, if_pos r0]
    rw [if_pos am, if_neg (by omega), ← e]
    have tz : (sh 1024 6 N 0).2 ≠ 0 := by
      rw [sh, if_pos (by omega)]
      have := (sh_val 1024 (by omega) 5 (N / 1024) (0 + 1)).1
      omega
    rw [if_neg tz]
    obtain ⟨k, hk⟩ : ∃ k, (sh 1024 6 N 0).2 = k + 1 := ⟨(sh 1024 6 N 0).2 - 1, by omega⟩
    rw [hk]
    rfl
  have n1 : N ≤ 1152921504606846976 := by omega
  clear hA hV hQ hR hN un ue a1 p20 i am
  go_enter Tryz.func18, Tryz.ntmps18
  go_wp2_with (fail)
  refine (CPn.out _).mono ?_
  rintro e w1 ⟨rfl, hw1⟩
  have HBw1 : Below w.heap.size w w1 := Below.trans (by go_grown) (hw1.mono (by first | omega | (simp; done) | (simp; omega)))
  have p_a : Box w1 (w.heap.size) (ah) (al) := Box.later hw1 (by repeat (first | assumption | (refine Box.new _ _ _ _ _ ?_; simp; done) | refine Box.alloc ?_ _ | refine Box.drew ?_ | (apply Box.put) | (refine Box.beside ?_ _ _ _ (by omega))))
  have q_a := p_a
  obtain ⟨a0, a1, a2, a3, a4⟩ := p_a
  have hsw1 := hw1.size
  (try simp at hsw1)
  clear hw1
  clear CPn
  go_upto_region 2 with (fail)
  have hz1 : w.heap.size + 1 ≤ w1.heap.size := by omega
  clear a2 a3 a4 hsw1
  refine wp_region_lit ?_
  refine wpList_one fun K' hK' => ?_
  rw [if_pos (by rfl)]
  go_simp
  refine hK'.out _ _ ?_
  clear hK' K'
  refine wpList_one fun K' hK' => ?_
  rw [if_pos (by rfl)]
  go_simp
  refine (CO.out _).mono ?_
  rintro e w2 ⟨rfl, hw2⟩
  have q2 := q_a.later hw2
  have HB2 : Below w.heap.size w w2 := HBw1.trans (hw2.mono (by omega))
  have hz2 := Nat.le_trans hz1 hw2.size
  clear hw2 q_a a0 a1 HBw1 hz1
  (try go_wp2_with (fail))
  refine hK'.out _ _ ?_
  clear hK' K'
  refine wpList_one fun K' hK' => ?_
  rw [if_pos (by rfl)]
  go_simp
  refine hK'.out _ _ ?_
  clear hK' K'
  refine wpList_one fun K' hK' => ?_
  rw [if_pos (by rfl)]
  go_simp
  refine (CV.out _).mono ?_
  rintro e w3 ⟨rfl, hw3⟩
  have q3 := q2.later hw3
  have HB3 : Below w.heap.size w w3 := HB2.trans (hw3.mono (by omega))
  have hz3 := Nat.le_trans hz2 hw3.size
  clear hw3 q2 HB2 hz2
  (try go_wp2_with (fail))
  refine hK'.out _ _ ?_
  clear hK' K'
  refine wpList_one fun K' hK' => ?_
  rw [if_pos (by rfl)]
  go_simp
  refine (CB.out _).mono ?_
  rintro e w4 ⟨rfl, hw4⟩
  have q4 := q3.later hw4
  have HB4 : Below w.heap.size w w4 := HB3.trans (hw4.mono (by omega))
  have hz4 := Nat.le_trans hz3 hw4.size
  clear hw4 q3 HB3 hz3
  (try go_wp2_with (fail))
  refine hK'.out _ _ ?_
  clear hK' K'
  refine wpList_one fun K' hK' => ?_
  rw [if_pos (by rfl)]
  go_simp
  refine hK'.out _ _ ?_
  clear hK' K'
  refine wpList_one fun K' hK' => ?_
  rw [if_pos (by rfl)]
  go_simp
  refine hK'.out _ _ ?_
  clear hK' K'
  refine wpList_one fun K' hK' => ?_
  rw [if_pos (by rfl)]
  go_simp
  refine hK'.out _ _ ?_
  clear hK' K'
  refine wpList_one fun K' hK' => ?_
  rw [if_pos (by rfl)]
  go_simp
  refine hK'.out _ _ ?_
  clear hK' K'
  refine wpList_one fun K' hK' => ?_
  rw [if_pos (by rfl)]
  go_simp
  refine hK'.out _ _ ?_
  clear hK' K'
  have N6 : Num ((w4.alloc (.cells (Array.replicate 20 (.int .u64 0)) 63)).alloc (.cells (Array.replicate 20 (.int .u64 0)) 63)) w4.heap.size 0 := (Num.zeros w4 _ _ rfl).alloc _
  have N7 : Num ((w4.alloc (.cells (Array.replicate 20 (.int .u64 0)) 63)).alloc (.cells (Array.replicate 20 (.int .u64 0)) 63)) (w4.heap.size + 1) 0 := Num.zeros _ _ _ (by simp)
  have q5 := (q4.alloc (.cells (Array.replicate 20 (.int .u64 0)) 63)).alloc (.cells (Array.replicate 20 (.int .u64 0)) 63)
  have HB5 : Below w.heap.size w ((w4.alloc (.cells (Array.replicate 20 (.int .u64 0)) 63)).alloc (.cells (Array.replicate 20 (.int .u64 0)) 63)) := by go_grown
  refine num_store N6 rfl _ _ rfl rfl rfl Q rfl ?_
  refine num_store (N7.beside w4.heap.size _ (by omega)) rfl _ _ rfl rfl rfl R rfl ?_
  refine wpList_to' (Pr := fun W => Hid (PT w ah al (w4.heap.size + 1) R W)) ⟨Box.cells (by omega) _ 0 (Box.cells (by omega) _ 0 q5), (N7.beside w4.heap.size _ (by omega)).put R, by omega, below_cells _ (by omega) _ 0 (below_cells _ (by omega) _ 0 HB5)⟩ ?_
  intro W F
  clear q4 HB4 hz4 N6 N7 q5 HB5 CO CV CB
  generalize w4.heap.size + 1 = p at F ⊢
  generalize w4.heap.size = p6
  clear w4
  go_upto_region 3 with (fail)
  go_cut [32] (fun s32 wc => s32 = .bool (decide (R ≠ 0 ∨ N = 0 ∨ ¬ N % 1024 = 0)) ∧ Hid (PT w ah al p R wc))
  case first =>
    have nm : ((N : Int) % 1024) = ((N % 1024 : Nat) : Int) := by simp
    have nk : Hid ((((N : Int) % 1024 != 0) = true) ↔ ¬ N % 1024 = 0) := by unfold Hid; rw [nm]; simp; omega
    clear nm
    refine wp_region_lit ?_
    refine num_load F.out.2.1 rfl _ rfl rfl ?_
    simp only [Act.put, List.setIfInBounds_toArray, List.set_cons_zero, List.set_cons_succ]
    refine wpList_one fun K' hK' => ?_
    rw [if_pos (by rfl)]
    go_simp
    refine hK'.out _ _ ?_
    clear hK' K'
    refine wpList_one fun K' hK' => ?_
    rw [if_pos (by rfl)]
    rw [zero_dv]
    unfold dv
    go_simp
    rw [run_equal_dv R 0 _ HRR.out.1 HRR.out.2 (by omega) (by decide)]
    go_simp
    refine hK'.out _ _ ?_
    clear hK' K'
    by_cases r0 : R = 0
    · rw [decide_eq_true r0]
      by_cases n0 : N = 0
      · have DD : Hid (true = decide (R ≠ 0 ∨ N = 0 ∨ ¬ N % 1024 = 0)) := (decide_eq_true (Or.inr (Or.inl n0))).symm
        clear nk
        subst n0
        go_wp2_with (fail)
        go_meet
        case rel => exact ⟨congrArg Value.bool DD.out, F⟩
      · have nb : ((N : Int) == 0) = false := by simp; omega
        by_cases m : N % 1024 = 0
        · have mb : ((N : Int) % 1024 != 0) = false := by
            cases h : ((N : Int) % 1024 != 0)
            · rfl
            · exact absurd m (nk.out.1 h)
          have DD : Hid (false = decide (R ≠ 0 ∨ N = 0 ∨ ¬ N % 1024 = 0)) := (decide_eq_false (by omega)).symm
          clear nk
          go_wp2_with (fail)
          go_meet
          case rel => exact ⟨congrArg Value.bool DD.out, F⟩
        · have mb : ((N : Int) % 1024 != 0) = true := nk.out.2 m
          have DD : Hid (true = decide (R ≠ 0 ∨ N = 0 ∨ ¬ N % 1024 = 0)) := (decide_eq_true (Or.inr (Or.inr m))).symm
          clear nk
          go_wp2_with (fail)
          go_meet
          case rel => exact ⟨congrArg Value.bool DD.out, F⟩
    · rw [decide_eq_false r0]
      have DD : Hid (true = decide (R ≠ 0 ∨ N = 0 ∨ ¬ N % 1024 = 0)) := (decide_eq_true (Or.inl r0)).symm
      clear nk
      go_wp2_with (fail)
      go_meet
      case rel => exact ⟨congrArg Value.bool DD.out, F⟩
  case rest =>
    obtain ⟨rfl, F2⟩ := hcut
    clear F HRR
    obtain ⟨⟨b0, b1, -, -, b4⟩, -, -, HBW⟩ := F2.out
    have hsW := HBW.size
    clear F2
    by_cases tt : R ≠ 0 ∨ N = 0 ∨ ¬ N % 1024 = 0
    · have X : Hid (binL a = textL a) := HT.out tt
      rw [decide_eq_true tt]
      clear HT HU tt
      go_wp2_with (fail)
      refine (CT.out _).mono ?_
      rintro e w5 ⟨⟨t, rfl, ht⟩, hw5⟩
      rw [← X.out] at ht
      have HTT : Hid _ := ht
      clear ht
      have HBw5 : Below w.heap.size w w5 := Below.trans (by go_grown) (hw5.mono (by first | omega | (simp; done) | (simp; omega)))
      have hsw5 := hw5.size
      (try simp at hsw5)
      clear hw5
      go_wp2
      go_ret
      exact ⟨⟨_, rfl, HTT.out⟩, by go_grown⟩
    · have X := HU.out tt
      rw [decide_eq_false tt]
      obtain ⟨Rr, t, hR⟩ : ∃ Rr t, sh 1024 6 N 0 = (Rr, t) := ⟨_, _, rfl⟩
      rw [hR] at X
      have HX : Hid (binL a = dec Rr ++ ([] :: bins).getD t []) := X
      have HR : Hid (sh 1024 6 N 0 = (Rr, t)) := hR
      clear X hR HT HU CT b0 b1 b4
      clear tt
      go_wp2
      go_loopw [3, 7] (fun f g wr => ∃ x j : Nat, f = .int .i64 x ∧ g = .int .i64 j ∧ j ≤ 6 ∧ x ≤ 1152921504606846976 ∧ Hid (sh 1024 (6 - j) x j = (Rr, t)) ∧ Below w.heap.size w wr) (fun _ g _ => 6 - (intOf g).toNat)
      case atStart => exact ⟨N, 0, rfl, rfl, by omega, n1, HR, by go_grown⟩
      case round =>
        clear HR n1
        obtain ⟨x, j, rfl, rfl, jl, xl, HR, HB⟩ := hrel
        have hsB := HB.size
        have xm : ((x : Int) % 1024) = ((x % 1024 : Nat) : Int) := by simp
        by_cases c : j < 6 ∧ x % 1024 = 0
        · have E : Hid (sh 1024 (6 - (j + 1)) (x / 1024) (j + 1) = (Rr, t)) := by
            have e := HR.out
            obtain ⟨k, hk⟩ : ∃ k, 6 - j = k + 1 := ⟨6 - j - 1, by omega⟩
            rw [hk, sh, if_pos c.2] at e
            unfold Hid
            rw [show 6 - (j + 1) = k by omega]; exact e
          have xb : (((x : Int) % 1024) == 0) = true := by rw [xm, c.2]; rfl
          have j6 : (j : Int) < 6 := by omega
          obtain ⟨-, -⟩ := c
          clear HR xm
          go_wp2
          go_roundw
          case rel => exact ⟨x / 1024, j + 1, by go_light; refine congrArg (Value.int IntKind.i64) ?_; first | omega | (rw [IntKind.wrap_i64]; omega), by go_num, by omega, by omega, E, HB⟩
          case measure => simp [intOf]; omega
        · have e := HR.out
          have fin : Rr = x ∧ t = j := by
            by_cases d : j < 6
            · rw [sh_stop (by omega)] at e
              injection e with e1 e2; exact ⟨e1.symm, e2.symm⟩
            · rw [show 6 - j = 0 by omega, sh] at e
              injection e with e1 e2; exact ⟨e1.symm, e2.symm⟩
          obtain ⟨rfl, rfl⟩ := fin
          clear e HR
          obtain ⟨D, hD⟩ : ∃ D, D = dec Rr := ⟨_, rfl⟩
          have CTx : Hid (∀ w, Calls Tryz.prog 28 #[.agg #[.int .u64 0, .int .u64 (Rr : Int)]] w fun e w' => e = .returned (.string (ba D)) ∧ Below w.heap.size w w') := fun w => by
            rw [hD]; exact rtext_is (Is.small (a := Rr) rfl (by omega)) w
          rw [← hD] at HX
          have hsz : ¬ 9223372036854775807 < (ba D).size + (bin7 t).size := by
            rw [ba_size, hD]
            have h1 := dec_len Rr
            have h2 := bin7_len t (by omega)
            omega
          clear hD
          have t0 : (0 : Int) ≤ (t : Int) := by omega
          have t1 : (t : Int) < 7 := by omega
          have uw : IntKind.u64.wrap (Rr : Int) = (Rr : Int) := by rw [IntKind.wrap_u64]; omega
          have cc : ((j_lt (t : Int)) = false) ∨ ((j_lt (t : Int)) = true ∧ (((Rr : Int) % 1024) == 0) = false) := by
            unfold j_lt
            by_cases d : (t : Int) < 6
            · right
              refine ⟨decide_eq_true d, ?_⟩
              rw [xm]
              have : ¬ Rr % 1024 = 0 := by omega
              simp; omega
            · left
              exact decide_eq_false d
          clear c xm
          rcases cc with cc | ⟨cc, cd⟩
          all_goals
            unfold j_lt at cc
            go_wp2_with (fail)
            have F0 : BS w (false || false) 0 wr.drew := ⟨HB.drew, fun h => Bool.noConfusion h⟩
            refine wp_region_noPanic ?_
            refine wp_region_held_drew (S := fun _ => True) (by kernel_rfl) ?_ (fun hHeld => ?_)
            · exact trivial
            refine wpAnyH_take (i := 0) (v := ?_) rfl (by kernel_rfl) (by kernel_rfl) (by kernel_rfl) (fun _ _ _ h => h) (Or.inl ⟨by rfl, ?_⟩) (by assumption) ?_
            rotate_left
            · (intro wS hSw; (try dsimp only at hSw); go_simp; try with_reducible rfl)
            change wpAnyH _ _ _ _ _ _ _ (Act.put _ (some 46) _) _
            simp only [Act.put, List.setIfInBounds_toArray, List.set_cons_zero, List.set_cons_succ]
            refine wpAnyH_take (i := 1) (v := ?_) rfl (by kernel_rfl) (by kernel_rfl) (by kernel_rfl) (fun _ _ _ h => h) (Or.inl ⟨by rfl, ?_⟩) (by assumption) ?_
            rotate_left
            · (intro wS hSw; (try dsimp only at hSw); go_simp; try with_reducible rfl)
            change wpAnyH _ _ _ _ _ _ _ (Act.put _ (some 47) _) _
            simp only [Act.put, List.setIfInBounds_toArray, List.set_cons_zero, List.set_cons_succ]
            refine wpAnyH_take (i := 2) (v := ?_) rfl (by kernel_rfl) (by kernel_rfl) (by kernel_rfl) (fun _ _ _ h => h) (Or.inl ⟨by rfl, ?_⟩) (by assumption) ?_
            rotate_left
            · (intro wS hSw; (try dsimp only at hSw); go_simp; try with_reducible rfl)
            change wpAnyH _ _ _ _ _ _ _ (Act.put _ (some 48) _) _
            simp only [Act.put, List.setIfInBounds_toArray, List.set_cons_zero, List.set_cons_succ]
            refine wpAnyH_take (i := 5) (v := ?_) rfl (by kernel_rfl) (by kernel_rfl) (by kernel_rfl) (fun _ _ _ h => h) (Or.inl ⟨by rfl, ?_⟩) (by assumption) ?_
            rotate_left
            · (intro wS hSw; (try dsimp only at hSw); go_simp; try with_reducible rfl)
            change wpAnyH _ _ _ _ _ _ _ (Act.put _ (some 51) _) _
            simp only [Act.put, List.setIfInBounds_toArray, List.set_cons_zero, List.set_cons_succ]
            refine wpAnyH_named ?_
            intro A hA
            clear hHeld
            refine wpAnyH_inv (I := fun L a W => ∃ (c3 c4 c6 c7 c8 c9 : Bool) (s49 s50 s52 s53 s54 s2 : Value) (q : Nat), L = #[true, true, true, c3, c4, true, c6, c7, c8, c9] ∧ a = ((((((A.put (some 49) s49).put (some 50) s50).put (some 52) s52).put (some 53) s53).put (some 54) s54).put (some 2) s2) ∧ Hid (BS w (c6 || c4) q W) ∧ Hid (c3 = true → s49 = .string (ba D)) ∧ Hid (c4 = true → s50 = .slice (some ⟨q, 0, none⟩) 7 7) ∧ Hid (c6 = true → s52 = .pointer (some ⟨q, t, none⟩)) ∧ Hid (c7 = true → s53 = .string (bin7 t)) ∧ Hid (c8 = true → s54 = .string (ba D ++ bin7 t)) ∧ Hid (c9 = true → s2 = .string (ba D ++ bin7 t)) ∧ Hid (c6 = true → c4 = true)) ?hS ?hz (by kernel_rfl) ?hsteps ?hend _ _ _ _ (by decide) ?h0
            case hS => rintro L a W ⟨c3, c4, c6, c7, c8, c9, s49, s50, s52, s53, s54, s2, q, -, -, K, -⟩; exact (fun h => h) (trivial)
            case hz => rintro L a W ⟨c3, c4, c6, c7, c8, c9, s49, s50, s52, s53, s54, s2, q, rfl, -⟩; rfl
            case h0 => exact ⟨false, false, false, false, false, false, A.eval (.tmp 49), A.eval (.tmp 50), A.eval (.tmp 52), A.eval (.tmp 53), A.eval (.tmp 54), A.eval (.tmp 2), 0, rfl, by simp only [put_self], F0, fun h => Bool.noConfusion h, fun h => Bool.noConfusion h, fun h => Bool.noConfusion h, fun h => Bool.noConfusion h, fun h => Bool.noConfusion h, fun h => Bool.noConfusion h, fun h => Bool.noConfusion h⟩
            case hend =>
              rintro L a W ⟨c3, c4, c6, c7, c8, c9, s49, s50, s52, s53, s54, s2, q, rfl, rfl, K, k3, k4, k6, k7, k8, k9, o6_4⟩ hall
              obtain rfl : c3 = true := hall 3
              obtain rfl : c4 = true := hall 4
              obtain rfl : c6 = true := hall 6
              obtain rfl : c7 = true := hall 7
              obtain rfl : c8 = true := hall 8
              obtain rfl : c9 = true := hall 9
              obtain rfl := k3.out rfl
              obtain rfl := k4.out rfl
              obtain rfl := k6.out rfl
              obtain rfl := k7.out rfl
              obtain rfl := k8.out rfl
              obtain rfl := k9.out rfl
              clear k3 k4 k6 k7 k8 k9 o6_4
              refine NoPanic.normal ?_
              subst hA
              simp only [Act.put, List.setIfInBounds_toArray, List.set_cons_zero, List.set_cons_succ]
              have HBZ : Below w.heap.size w W := K.out.1
              clear K
              go_wp2
              go_ret
              exact ⟨⟨_, rfl, by rw [HX.out]; exact ba_append _ _⟩, HBZ⟩
            case hsteps =>
              refine StepsI.skip (i := 0) (by rintro L a W ⟨c3, c4, c6, c7, c8, c9, s49, s50, s52, s53, s54, s2, q, rfl, -⟩; rfl) ?_
              refine StepsI.skip (i := 1) (by rintro L a W ⟨c3, c4, c6, c7, c8, c9, s49, s50, s52, s53, s54, s2, q, rfl, -⟩; rfl) ?_
              refine StepsI.skip (i := 2) (by rintro L a W ⟨c3, c4, c6, c7, c8, c9, s49, s50, s52, s53, s54, s2, q, rfl, -⟩; rfl) ?_
              refine StepsI.cons (i := 3) rfl ?_ ?_
              · rintro L a W ⟨c3, c4, c6, c7, c8, c9, s49, s50, s52, s53, s54, s2, q, rfl, rfl, K, k3, k4, k6, k7, k8, k9, o6_4⟩ h0 hd KK hK
                obtain rfl : c3 = false := h0
                subst hA
                simp only [Act.put, List.setIfInBounds_toArray, List.set_cons_zero, List.set_cons_succ]
                clear hd
                go_simp
                refine (CTx.out _).mono ?_
                rintro e w2 ⟨rfl, hw2⟩
                (try go_wp2_with (fail))
                exact hK.out _ _ ⟨true, c4, c6, c7, c8, c9, .string (ba D), s50, s52, s53, s54, s2, q, rfl, by simp only [Act.put, List.setIfInBounds_toArray, List.set_cons_zero, List.set_cons_succ], K.out.later hw2, fun _ => rfl, k4.out, k6.out, k7.out, k8.out, k9.out, o6_4.out⟩
              refine StepsI.cons (i := 4) rfl ?_ ?_
              · rintro L a W ⟨c3, c4, c6, c7, c8, c9, s49, s50, s52, s53, s54, s2, q, rfl, rfl, K, k3, k4, k6, k7, k8, k9, o6_4⟩ h0 hd KK hK
                obtain rfl : c4 = false := h0
                obtain rfl : c6 = false := by
                  cases c6
                  · rfl
                  · exact absurd (o6_4.out rfl) (by decide)
                subst hA
                simp only [Act.put, List.setIfInBounds_toArray, List.set_cons_zero, List.set_cons_succ]
                clear hd
                go_simp
                exact hK.out _ _ ⟨c3, true, false, c7, c8, c9, s49, .slice (some ⟨W.heap.size, 0, none⟩) 7 7, s52, s53, s54, s2, W.heap.size, rfl, by simp only [Act.put, List.setIfInBounds_toArray, List.set_cons_zero, List.set_cons_succ], BS.new K.out.1 _ _, k3.out, fun _ => rfl, fun h => Bool.noConfusion h, k7.out, k8.out, k9.out, fun _ => rfl⟩
              refine StepsI.skip (i := 5) (by rintro L a W ⟨c3, c4, c6, c7, c8, c9, s49, s50, s52, s53, s54, s2, q, rfl, -⟩; rfl) ?_
              refine StepsI.cons (i := 6) rfl ?_ ?_
              · rintro L a W ⟨c3, c4, c6, c7, c8, c9, s49, s50, s52, s53, s54, s2, q, rfl, rfl, K, k3, k4, k6, k7, k8, k9, o6_4⟩ h0 hd KK hK
                obtain rfl : c6 = false := h0
                obtain rfl : c4 = true := hd ⟨4, .data⟩ (by simp) rfl
                have e4 := k4.out rfl
                subst e4
                subst hA
                simp only [Act.put, List.setIfInBounds_toArray, List.set_cons_zero, List.set_cons_succ]
                clear hd
                go_simp
                exact hK.out _ _ ⟨c3, true, true, c7, c8, c9, s49, .slice (some ⟨q, 0, none⟩) 7 7, .pointer (some ⟨q, t, none⟩), s53, s54, s2, q, rfl, by simp only [Act.put, List.setIfInBounds_toArray, List.set_cons_zero, List.set_cons_succ], K, k3.out, fun _ => rfl, fun _ => rfl, k7.out, k8.out, k9.out, fun _ => rfl⟩
              refine StepsI.cons (i := 7) rfl ?_ ?_
              · rintro L a W ⟨c3, c4, c6, c7, c8, c9, s49, s50, s52, s53, s54, s2, q, rfl, rfl, K, k3, k4, k6, k7, k8, k9, o6_4⟩ h0 hd KK hK
                obtain rfl : c7 = false := h0
                obtain rfl : c6 = true := hd ⟨6, .data⟩ (by simp) rfl
                have e6 := k6.out rfl
                subst e6
                have cq := (K.out.2 rfl).2 t _ (bin7_at t (by omega))
                rw [Nat.zero_add] at cq
                subst hA
                simp only [Act.put, List.setIfInBounds_toArray, List.set_cons_zero, List.set_cons_succ]
                clear hd
                go_simp
                exact hK.out _ _ ⟨c3, c4, true, true, c8, c9, s49, s50, .pointer (some ⟨q, t, none⟩), .string (bin7 t), s54, s2, q, rfl, by simp only [Act.put, List.setIfInBounds_toArray, List.set_cons_zero, List.set_cons_succ], K, k3.out, k4.out, fun _ => rfl, fun _ => rfl, k8.out, k9.out, o6_4.out⟩
              refine StepsI.cons (i := 8) rfl ?_ ?_
              · rintro L a W ⟨c3, c4, c6, c7, c8, c9, s49, s50, s52, s53, s54, s2, q, rfl, rfl, K, k3, k4, k6, k7, k8, k9, o6_4⟩ h0 hd KK hK
                obtain rfl : c8 = false := h0
                obtain rfl : c3 = true := hd ⟨3, .data⟩ (by simp) rfl
                obtain rfl : c7 = true := hd ⟨7, .data⟩ (by simp) rfl
                have e3 := k3.out rfl
                subst e3
                have e7 := k7.out rfl
                subst e7
                subst hA
                simp only [Act.put, List.setIfInBounds_toArray, List.set_cons_zero, List.set_cons_succ]
                clear hd
                go_simp
                exact hK.out _ _ ⟨true, c4, c6, true, true, c9, .string (ba D), s50, s52, .string (bin7 t), .string (ba D ++ bin7 t), s2, q, rfl, by simp only [Act.put, List.setIfInBounds_toArray, List.set_cons_zero, List.set_cons_succ], K, fun _ => rfl, k4.out, k6.out, fun _ => rfl, fun _ => rfl, k9.out, o6_4.out⟩
              refine StepsI.cons (i := 9) rfl ?_ ?_
              · rintro L a W ⟨c3, c4, c6, c7, c8, c9, s49, s50, s52, s53, s54, s2, q, rfl, rfl, K, k3, k4, k6, k7, k8, k9, o6_4⟩ h0 hd KK hK
                obtain rfl : c9 = false := h0
                obtain rfl : c8 = true := hd ⟨8, .data⟩ (by simp) rfl
                have e8 := k8.out rfl
                subst e8
                subst hA
                simp only [Act.put, List.setIfInBounds_toArray, List.set_cons_zero, List.set_cons_succ]
                clear hd
                go_simp
                exact hK.out _ _ ⟨c3, c4, c6, c7, true, true, s49, s50, s52, s53, .string (ba D ++ bin7 t), .string (ba D ++ bin7 t), q, rfl, by simp only [Act.put, List.setIfInBounds_toArray, List.set_cons_zero, List.set_cons_succ], K, k3.out, k4.out, k6.out, k7.out, fun _ => rfl, fun _ => rfl, o6_4.out⟩
              exact StepsI.nil

end Go.Proofs.YtpbgolcimbjekaaGreatDoor
