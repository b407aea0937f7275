/-
  Contract of package vector's Parse at this program. Conditions: the tables of the program lie as its text lays them; the text's length fits the machine.
-/
import Derived.Test.YtpbgolcimbjekaaGreatDoorKE
namespace Go.Proofs.YtpbgolcimbjekaaGreatDoor
open Go.RowKit

def strOf : Value → Nat
  | .string a => a.size
  | _ => 0
def yesOf : Value → Nat
  | .bool true => 1
  | _ => 0
/-- What a round of Parse leaves: nothing, the vector so far, the resources that were there. -/
def PS (w W : World) (v : Int × Int × Int) (t : Bool × Bool × Bool) : Prop := Bx3 W w.heap.size 0 0 0 ∧ Bx3 W (w.heap.size + 1) v.1 v.2.1 v.2.2 ∧ Bb3 W (w.heap.size + 2) t.1 t.2.1 t.2.2 ∧ Below w.heap.size w W
theorem PS.later {w W w1 : World} {v : Int × Int × Int} {t : Bool × Bool × Bool} (k : PS w W v t) (hb : Below W.heap.size W w1) : PS w w1 v t :=
  ⟨k.1.later hb, k.2.1.later hb, k.2.2.1.later hb, k.2.2.2.trans (hb.mono k.2.2.2.size)⟩
theorem more_on {R : (Int × Int × Int) × Int} {v : Int × Int × Int} {t : Bool × Bool × Bool} {a p q : ByteArray} {f : Bool} (h : R = runs v t (if true = true then segs a.data.toList else [])) (k : Cutd 44 a.data.toList p q f) : R = runs v t (p.data.toList :: (if f = true then segs q.data.toList else [])) := by
  obtain ⟨k1, _, ⟨rfl, k2, _⟩ | ⟨rfl, k2, _⟩⟩ := k
  · rw [h, if_pos rfl, if_pos rfl, segs_some k1 k2]
  · rw [h, if_pos rfl, if_neg (by simp), segs_none k1 k2]
theorem cut_sz {d : UInt8} {l : List UInt8} {p q : ByteArray} {f : Bool} (k : Cutd d l p q f) : f = true → q.size < l.length := by
  obtain ⟨_, _, ⟨_, _, k⟩ | ⟨rfl, _⟩⟩ := k
  · exact fun _ => k
  · simp
theorem cut_sz0 {d : UInt8} {l : List UInt8} {p q : ByteArray} {f : Bool} (k : Cutd d l p q f) : q.size ≤ l.length := by
  obtain ⟨_, _, ⟨_, _, k⟩ | ⟨_, _, k⟩⟩ := k
  · omega
  · omega
theorem measure_ok {b s : ByteArray} {f : Bool} (h : f = true → b.size < s.size) : yesOf (.bool f) * (strOf (.string b) + 1) < yesOf (.bool true) * (strOf (.string s) + 1) := by
  cases f
  · simp [yesOf, strOf]
  · have := h rfl
    simp [yesOf, strOf]; omega

set_option maxHeartbeats 2000000 in
theorem vparse_none (w : World) : Calls Tryz.prog 7 #[.string ⟨#[]⟩] w fun e w' => e = .returned (.tuple #[.agg #[.int .i64 0, .int .i64 0, .int .i64 0], .int .i64 10]) ∧ Below w.heap.size w w' := by
  go_enter Tryz.func7, Tryz.ntmps7
  go_wp2
  go_returns
  exact ⟨rfl, by go_grown⟩

set_option maxHeartbeats 2000000 in
theorem vparse_dash (w : World) : Calls Tryz.prog 7 #[.string ⟨#[45]⟩] w fun e w' => e = .returned (.tuple #[.agg #[.int .i64 0, .int .i64 0, .int .i64 0], .int .i64 0]) ∧ Below w.heap.size w w' := by
  go_enter Tryz.func7, Tryz.ntmps7
  go_wp2
  go_returns
  exact ⟨rfl, by go_grown⟩

set_option maxHeartbeats 8000000 in
set_option maxRecDepth 100000 in
theorem vparse_some (s : ByteArray) (hm : s.size ≤ maxLen) (w : World) (hL : LaidV w) (n1 : s.data.toList ≠ []) (n2 : s.data.toList ≠ [45]) :
    Calls Tryz.prog 7 #[.string s] w fun e w' => e = .returned (vev (runs (0, 0, 0) (false, false, false) (segs s.data.toList))) ∧ Below w.heap.size w w' := by
  obtain ⟨R, hR⟩ : ∃ R, R = runs (0, 0, 0) (false, false, false) (segs s.data.toList) := ⟨_, rfl⟩
  rw [← hR]
  have HR : Hid (R = runs (0, 0, 0) (false, false, false) (if true = true then segs s.data.toList else [])) := hR
  have HL : Hid (LaidV w) := hL
  have g1 : (s.toList == ([] : List UInt8)) = false := by rw [ByteArray.toList_eq, beq_dec]; exact decide_eq_false n1
  have g2 : (s.toList == [45]) = false := by rw [ByteArray.toList_eq, beq_dec]; exact decide_eq_false n2
  have g3 : s.toList.isEmpty = false := by rw [empty_iff]; exact decide_eq_false n1
  clear hR hL n1 n2
  have HM : Hid (s.size ≤ maxLen) := hm
  clear hm
  go_enter Tryz.func7, Tryz.ntmps7
  go_wp2
  go_loopw [6, 7] (fun p f wr => ∃ (a : ByteArray) (b : Bool) (v : Int × Int × Int) (t : Bool × Bool × Bool), p = .string a ∧ f = .bool b ∧ Hid (a.size ≤ maxLen) ∧ Hid (R = runs v t (if b = true then segs a.data.toList else [])) ∧ Hid (PS w wr v t)) (fun p f _ => yesOf f * (strOf p + 1))
  case atStart => exact ⟨s, true, (0, 0, 0), (false, false, false), rfl, rfl, HM, HR, ⟨((Bx3.new _ _ _ _ _ _ rfl).alloc _).alloc _, (Bx3.new _ _ _ _ _ _ (by simp)).alloc _, Bb3.new _ _ _ _ _ _ (by simp), by go_grown⟩⟩
  case round =>
    obtain ⟨a, b, ⟨vc, vm, vh⟩, ⟨tc, tm, th⟩, rfl, rfl, AM, RR, K⟩ := hrel
    clear HR HM g1 g2 g3
    match b, RR with
    | false, RR =>
      obtain ⟨⟨r0, r1, r2, r3, r4, r5, r6⟩, ⟨p0, p1, p2, p3, p4, p5, p6⟩, -, HB⟩ := K.out
      simp only at p0 p1 p2
      have nb : w.heap.size + 1 < wr.heap.size := p6
      have X : Hid (R = ((vc, vm, vh), 0)) := by unfold Hid; rw [RR.out]; rfl
      clear RR K
      go_wp2
      refine bodyPost_ret (v := .tuple #[.agg #[.int .i64 vc, .int .i64 vm, .int .i64 vh], .int .i64 0]) (by simp [results, Tryz.results7, go_sem, r0, r1, r2]) rfl ?_
      exact ⟨by rw [X.out]; rfl, by go_grown⟩
    | true, RR =>
      go_wp2_with (fail)
      refine (cut_44 a AM.out _).mono ?_
      rintro e w1 ⟨p, q, f, rfl, hc, hw1⟩
      have R1 : Hid (R = runs (vc, vm, vh) (tc, tm, th) (p.data.toList :: (if f = true then segs q.data.toList else []))) := more_on RR.out hc
      have QS : Hid (f = true → q.size < a.size) := fun h => by have := cut_sz hc h; rwa [ba_len] at this
      have QM : Hid (q.size ≤ maxLen) := Nat.le_trans (by have := cut_sz0 hc; rwa [ba_len] at this) AM.out
      have PM : Hid (p.size ≤ maxLen) := Nat.le_trans (by have := hc.2.1; rwa [ba_len] at this) AM.out
      have K1 : Hid (PS w w1 (vc, vm, vh) (tc, tm, th)) := K.out.later hw1
      clear RR K hc hw1
      go_wp2_with (fail)
      refine (cut_61 p PM.out _).mono ?_
      rintro e w2 ⟨n, x, g, rfl, hc, hw2⟩
      have C : Hid (Cutd 61 p.data.toList n x g) := hc
      have K2 : Hid (PS w w2 (vc, vm, vh) (tc, tm, th)) := K1.out.later hw2
      clear K1 hc hw2
      go_wp2_with (fail)
      refine (resource_is n _ (HL.out.later K2.out.2.2.2)).mono ?_
      rintro e w3 ⟨rfl, rfl⟩
      obtain ⟨⟨r0, r1, r2, r3, r4, r5, r6⟩, ⟨p0, p1, p2, p3, p4, p5, p6⟩, ⟨t0, t1, t2, t3, t4, t5, t6⟩, HB⟩ := K2.out
      simp only at p0 p1 p2 t0 t1 t2
      have nb : w.heap.size + 2 < w2.heap.size := t6
      match g, C with
      | false, C =>
        have X : Hid (R = ((0, 0, 0), 11)) := by
          unfold Hid
          obtain ⟨_, _, ⟨h, _⟩ | ⟨_, h, _⟩⟩ := C.out
          · simp at h
          · rw [R1.out, runs_cut h]
        obtain ⟨o, ho⟩ : ∃ o, o = resL n.data.toList := ⟨_, rfl⟩
        rw [← ho, show resV o = .tuple #[.int .i64 ((o.getD 0 : Nat) : Int), .bool o.isSome] from rfl]
        clear ho R1 C K2
        go_wp2
        refine bodyPost_ret (v := .tuple #[.agg #[.int .i64 0, .int .i64 0, .int .i64 0], .int .i64 11]) (by simp [results, Tryz.results7, go_sem, r0, r1, r2]) rfl ?_
        exact ⟨by rw [X.out]; rfl, by go_grown⟩
      | true, C =>
        obtain ⟨C1, C2⟩ : Hid (n.data.toList = (cutAt 61 p.data.toList).1) ∧ Hid ((cutAt 61 p.data.toList).2 = some x.data.toList ∧ x.size < p.data.toList.length) := by
          obtain ⟨h0, _, ⟨_, h⟩ | ⟨h, _⟩⟩ := C.out
          · exact ⟨h0, h⟩
          · simp at h
        have XM : Hid (x.size ≤ maxLen) := by
          have h := C2.out.2
          rw [ba_len] at h
          exact Nat.le_trans (Nat.le_of_lt h) PM.out
        clear C
        rcases res_cases n.data.toList with hr | hr | hr | hr
        · have X : Hid (R = ((0, 0, 0), 11)) := by unfold Hid; rw [R1.out, runs_res C2.out.1 (by rw [← C1.out, hr])]
          rw [hr, show resV none = .tuple #[.int .i64 0, .bool false] from rfl]
          clear hr R1 K2
          go_wp2
          refine bodyPost_ret (v := .tuple #[.agg #[.int .i64 0, .int .i64 0, .int .i64 0], .int .i64 11]) (by simp [results, Tryz.results7, go_sem, r0, r1, r2]) rfl ?_
          exact ⟨by rw [X.out]; rfl, by go_grown⟩
        · have RE : Hid (resL (cutAt 61 p.data.toList).1 = some 0) := by unfold Hid; rw [← C1.out, hr]
          rw [hr, show resV (some 0) = .tuple #[.int .i64 0, .bool true] from rfl]
          clear hr
          cases tc with
          | true =>
            have X : Hid (R = ((0, 0, 0), 11)) := by unfold Hid; rw [R1.out, runs_thr C2.out.1 RE.out rfl]
            clear R1 K2
            go_wp2
            refine bodyPost_ret (v := .tuple #[.agg #[.int .i64 0, .int .i64 0, .int .i64 0], .int .i64 11]) (by simp [results, Tryz.results7, go_sem, r0, r1, r2]) rfl ?_
            exact ⟨by rw [X.out]; rfl, by go_grown⟩
          | false =>
            go_wp2_with (fail)
            refine (number_0 x XM.out _ (HL.out.later K2.out.2.2.2)).mono ?_
            rintro e w4 ⟨rfl, hw4⟩
            obtain ⟨m, y, hn⟩ : ∃ m y, numL 0 x.data.toList = (m, y) := ⟨_, _, Prod.eta _ |>.symm⟩
            rw [hn, show iiv (m, y) = .tuple #[.int .i64 m, .int .i64 y] from rfl]
            have N : Hid (numL 0 x.data.toList = (m, y)) := hn
            have K3 : Hid (PS w w4 (vc, vm, vh) (false, tm, th)) := K2.out.later hw4
            clear hn hw4 K2 r0 r1 r2 r3 r4 r5 r6 p0 p1 p2 p3 p4 p5 p6 t0 t1 t2 t3 t4 t5 t6 HB nb
            obtain ⟨⟨r0, r1, r2, r3, r4, r5, r6⟩, ⟨p0, p1, p2, p3, p4, p5, p6⟩, ⟨t0, t1, t2, t3, t4, t5, t6⟩, HB⟩ := K3.out
            simp only at p0 p1 p2 t0 t1 t2
            have nb : w.heap.size + 2 < w4.heap.size := t6
            by_cases y0 : y = 0
            · subst y0
              have R2 : Hid (R = runs (m, vm, vh) (true, tm, th) (if f = true then segs q.data.toList else [])) := by unfold Hid; rw [R1.out, runs_on C2.out.1 RE.out rfl N.out]; rfl
              clear R1 N
              go_wp2_with (fail)
              refine (with_any vc vm vh 0 m _).mono ?_
              rintro e w5 ⟨rfl, hw5⟩
              rw [show vv (withv vc vm vh 0 m) = .agg #[.int .i64 m, .int .i64 vm, .int .i64 vh] from rfl]
              have k_r : Bx3 w5 w.heap.size 0 0 0 := (K3.out.1.beside _ _ (by omega)).later hw5
              have k_p : Bx3 w5 (w.heap.size + 1) vc vm vh := (K3.out.2.1.beside _ _ (by omega)).later hw5
              have k_t : Bb3 w5 (w.heap.size + 2) true tm th := (Bb3.put0 K3.out.2.2.1).later hw5
              have HB5 : Below w.heap.size w w5 := Below.trans (show Below w.heap.size w _ by go_grown) (hw5.mono (by simp; omega))
              clear K3 r0 r1 r2 r3 r4 r5 r6 p0 p1 p2 p3 p4 p5 p6 t0 t1 t2 t3 t4 t5 t6 HB nb hw5
              obtain ⟨p0, p1, p2, p3, p4, p5, p6⟩ := id k_p
              have hs := HB5.size
              have KE : Hid (PS w (((w5.setCell ⟨w.heap.size + 1, 0, none⟩ (.int .i64 m)).setCell ⟨w.heap.size + 1, 1, none⟩ (.int .i64 vm)).setCell ⟨w.heap.size + 1, 2, none⟩ (.int .i64 vh)) (m, vm, vh) (true, tm, th)) := ⟨((k_r.beside _ _ (by omega)).beside _ _ (by omega)).beside _ _ (by omega), k_p.put _ _ _, ((k_t.beside _ _ (by omega)).beside _ _ (by omega)).beside _ _ (by omega), by go_grown⟩
              clear k_r k_p k_t
              go_wp2
              go_roundw
              case rel => exact ⟨q, f, (m, vm, vh), (true, tm, th), rfl, rfl, QM, R2, KE⟩
              case measure => exact measure_ok QS.out
            · have X : Hid (R = ((0, 0, 0), y)) := by unfold Hid; rw [R1.out, runs_err C2.out.1 RE.out rfl N.out y0]
              have y1 : (y != 0) = true := by simp [y0]
              clear R1 K3 N
              go_wp2
              refine bodyPost_ret (v := .tuple #[.agg #[.int .i64 0, .int .i64 0, .int .i64 0], .int .i64 y]) (by simp [results, Tryz.results7, go_sem, r0, r1, r2]) rfl ?_
              exact ⟨by rw [X.out]; rfl, by go_grown⟩
        · have RE : Hid (resL (cutAt 61 p.data.toList).1 = some 1) := by unfold Hid; rw [← C1.out, hr]
          rw [hr, show resV (some 1) = .tuple #[.int .i64 1, .bool true] from rfl]
          clear hr
          cases tm with
          | true =>
            have X : Hid (R = ((0, 0, 0), 11)) := by unfold Hid; rw [R1.out, runs_thr C2.out.1 RE.out rfl]
            clear R1 K2
            go_wp2
            refine bodyPost_ret (v := .tuple #[.agg #[.int .i64 0, .int .i64 0, .int .i64 0], .int .i64 11]) (by simp [results, Tryz.results7, go_sem, r0, r1, r2]) rfl ?_
            exact ⟨by rw [X.out]; rfl, by go_grown⟩
          | false =>
            go_wp2_with (fail)
            refine (number_1 x XM.out _ (HL.out.later K2.out.2.2.2)).mono ?_
            rintro e w4 ⟨rfl, hw4⟩
            obtain ⟨m, y, hn⟩ : ∃ m y, numL 1 x.data.toList = (m, y) := ⟨_, _, Prod.eta _ |>.symm⟩
            rw [hn, show iiv (m, y) = .tuple #[.int .i64 m, .int .i64 y] from rfl]
            have N : Hid (numL 1 x.data.toList = (m, y)) := hn
            have K3 : Hid (PS w w4 (vc, vm, vh) (tc, false, th)) := K2.out.later hw4
            clear hn hw4 K2 r0 r1 r2 r3 r4 r5 r6 p0 p1 p2 p3 p4 p5 p6 t0 t1 t2 t3 t4 t5 t6 HB nb
            obtain ⟨⟨r0, r1, r2, r3, r4, r5, r6⟩, ⟨p0, p1, p2, p3, p4, p5, p6⟩, ⟨t0, t1, t2, t3, t4, t5, t6⟩, HB⟩ := K3.out
            simp only at p0 p1 p2 t0 t1 t2
            have nb : w.heap.size + 2 < w4.heap.size := t6
            by_cases y0 : y = 0
            · subst y0
              have R2 : Hid (R = runs (vc, m, vh) (tc, true, th) (if f = true then segs q.data.toList else [])) := by unfold Hid; rw [R1.out, runs_on C2.out.1 RE.out rfl N.out]; rfl
              clear R1 N
              go_wp2_with (fail)
              refine (with_any vc vm vh 1 m _).mono ?_
              rintro e w5 ⟨rfl, hw5⟩
              rw [show vv (withv vc vm vh 1 m) = .agg #[.int .i64 vc, .int .i64 m, .int .i64 vh] from rfl]
              have k_r : Bx3 w5 w.heap.size 0 0 0 := (K3.out.1.beside _ _ (by omega)).later hw5
              have k_p : Bx3 w5 (w.heap.size + 1) vc vm vh := (K3.out.2.1.beside _ _ (by omega)).later hw5
              have k_t : Bb3 w5 (w.heap.size + 2) tc true th := (Bb3.put1 K3.out.2.2.1).later hw5
              have HB5 : Below w.heap.size w w5 := Below.trans (show Below w.heap.size w _ by go_grown) (hw5.mono (by simp; omega))
              clear K3 r0 r1 r2 r3 r4 r5 r6 p0 p1 p2 p3 p4 p5 p6 t0 t1 t2 t3 t4 t5 t6 HB nb hw5
              obtain ⟨p0, p1, p2, p3, p4, p5, p6⟩ := id k_p
              have hs := HB5.size
              have KE : Hid (PS w (((w5.setCell ⟨w.heap.size + 1, 0, none⟩ (.int .i64 vc)).setCell ⟨w.heap.size + 1, 1, none⟩ (.int .i64 m)).setCell ⟨w.heap.size + 1, 2, none⟩ (.int .i64 vh)) (vc, m, vh) (tc, true, th)) := ⟨((k_r.beside _ _ (by omega)).beside _ _ (by omega)).beside _ _ (by omega), k_p.put _ _ _, ((k_t.beside _ _ (by omega)).beside _ _ (by omega)).beside _ _ (by omega), by go_grown⟩
              clear k_r k_p k_t
              go_wp2
              go_roundw
              case rel => exact ⟨q, f, (vc, m, vh), (tc, true, th), rfl, rfl, QM, R2, KE⟩
              case measure => exact measure_ok QS.out
            · have X : Hid (R = ((0, 0, 0), y)) := by unfold Hid; rw [R1.out, runs_err C2.out.1 RE.out rfl N.out y0]
              have y1 : (y != 0) = true := by simp [y0]
              clear R1 K3 N
              go_wp2
              refine bodyPost_ret (v := .tuple #[.agg #[.int .i64 0, .int .i64 0, .int .i64 0], .int .i64 y]) (by simp [results, Tryz.results7, go_sem, r0, r1, r2]) rfl ?_
              exact ⟨by rw [X.out]; rfl, by go_grown⟩
        · have RE : Hid (resL (cutAt 61 p.data.toList).1 = some 2) := by unfold Hid; rw [← C1.out, hr]
          rw [hr, show resV (some 2) = .tuple #[.int .i64 2, .bool true] from rfl]
          clear hr
          cases th with
          | true =>
            have X : Hid (R = ((0, 0, 0), 11)) := by unfold Hid; rw [R1.out, runs_thr C2.out.1 RE.out rfl]
            clear R1 K2
            go_wp2
            refine bodyPost_ret (v := .tuple #[.agg #[.int .i64 0, .int .i64 0, .int .i64 0], .int .i64 11]) (by simp [results, Tryz.results7, go_sem, r0, r1, r2]) rfl ?_
            exact ⟨by rw [X.out]; rfl, by go_grown⟩
          | false =>
            go_wp2_with (fail)
            refine (number_2 x XM.out _ (HL.out.later K2.out.2.2.2)).mono ?_
            rintro e w4 ⟨rfl, hw4⟩
            obtain ⟨m, y, hn⟩ : ∃ m y, numL 2 x.data.toList = (m, y) := ⟨_, _, Prod.eta _ |>.symm⟩
            rw [hn, show iiv (m, y) = .tuple #[.int .i64 m, .int .i64 y] from rfl]
            have N : Hid (numL 2 x.data.toList = (m, y)) := hn
            have K3 : Hid (PS w w4 (vc, vm, vh) (tc, tm, false)) := K2.out.later hw4
            clear hn hw4 K2 r0 r1 r2 r3 r4 r5 r6 p0 p1 p2 p3 p4 p5 p6 t0 t1 t2 t3 t4 t5 t6 HB nb
            obtain ⟨⟨r0, r1, r2, r3, r4, r5, r6⟩, ⟨p0, p1, p2, p3, p4, p5, p6⟩, ⟨t0, t1, t2, t3, t4, t5, t6⟩, HB⟩ := K3.out
            simp only at p0 p1 p2 t0 t1 t2
            have nb : w.heap.size + 2 < w4.heap.size := t6
            by_cases y0 : y = 0
            · subst y0
              have R2 : Hid (R = runs (vc, vm, m) (tc, tm, true) (if f = true then segs q.data.toList else [])) := by unfold Hid; rw [R1.out, runs_on C2.out.1 RE.out rfl N.out]; rfl
              clear R1 N
              go_wp2_with (fail)
              refine (with_any vc vm vh 2 m _).mono ?_
              rintro e w5 ⟨rfl, hw5⟩
              rw [show vv (withv vc vm vh 2 m) = .agg #[.int .i64 vc, .int .i64 vm, .int .i64 m] from rfl]
              have k_r : Bx3 w5 w.heap.size 0 0 0 := (K3.out.1.beside _ _ (by omega)).later hw5
              have k_p : Bx3 w5 (w.heap.size + 1) vc vm vh := (K3.out.2.1.beside _ _ (by omega)).later hw5
              have k_t : Bb3 w5 (w.heap.size + 2) tc tm true := (Bb3.put2 K3.out.2.2.1).later hw5
              have HB5 : Below w.heap.size w w5 := Below.trans (show Below w.heap.size w _ by go_grown) (hw5.mono (by simp; omega))
              clear K3 r0 r1 r2 r3 r4 r5 r6 p0 p1 p2 p3 p4 p5 p6 t0 t1 t2 t3 t4 t5 t6 HB nb hw5
              obtain ⟨p0, p1, p2, p3, p4, p5, p6⟩ := id k_p
              have hs := HB5.size
              have KE : Hid (PS w (((w5.setCell ⟨w.heap.size + 1, 0, none⟩ (.int .i64 vc)).setCell ⟨w.heap.size + 1, 1, none⟩ (.int .i64 vm)).setCell ⟨w.heap.size + 1, 2, none⟩ (.int .i64 m)) (vc, vm, m) (tc, tm, true)) := ⟨((k_r.beside _ _ (by omega)).beside _ _ (by omega)).beside _ _ (by omega), k_p.put _ _ _, ((k_t.beside _ _ (by omega)).beside _ _ (by omega)).beside _ _ (by omega), by go_grown⟩
              clear k_r k_p k_t
              go_wp2
              go_roundw
              case rel => exact ⟨q, f, (vc, vm, m), (tc, tm, true), rfl, rfl, QM, R2, KE⟩
              case measure => exact measure_ok QS.out
            · have X : Hid (R = ((0, 0, 0), y)) := by unfold Hid; rw [R1.out, runs_err C2.out.1 RE.out rfl N.out y0]
              have y1 : (y != 0) = true := by simp [y0]
              clear R1 K3 N
              go_wp2
              refine bodyPost_ret (v := .tuple #[.agg #[.int .i64 0, .int .i64 0, .int .i64 0], .int .i64 y]) (by simp [results, Tryz.results7, go_sem, r0, r1, r2]) rfl ?_
              exact ⟨by rw [X.out]; rfl, by go_grown⟩

theorem vparse_is (s : ByteArray) (hm : s.size ≤ maxLen) (w : World) (hL : LaidV w) :
    Calls Tryz.prog 7 #[.string s] w fun e w' => e = .returned (vev (parseV s.data.toList)) ∧ Below w.heap.size w w' := by
  unfold parseV
  by_cases a : s.data.toList = []
  · rw [if_pos a]
    obtain rfl := ba_eq a
    exact vparse_none w
  by_cases b : s.data.toList = [45]
  · rw [if_neg a, if_pos b]
    obtain rfl := ba_eq b
    exact vparse_dash w
  · rw [if_neg a, if_neg b]
    exact vparse_some s hm w hL a b

end Go.Proofs.YtpbgolcimbjekaaGreatDoor
