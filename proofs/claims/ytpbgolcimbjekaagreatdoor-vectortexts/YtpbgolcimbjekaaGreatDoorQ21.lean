/-
  Contract of package vector's Parse at this program. Conditions: the tables of the program lie as its text lays them; the text's length fits the machine.
  The walk of the statement AmountOrders at this program: it returns true. Conditions: the words are words, n is a number of the machine, the two tables of suffixes lie as the program's text lays them.
  The text of a right vector means that vector: plain facts on lists of letters. No program is spoken of.
-/
import Derived.Test.YtpbgolcimbjekaaGreatDoorQ20
import Derived.Test.YtpbgolcimbjekaaGreatDoorQ16
namespace Go.Proofs.YtpbgolcimbjekaaGreatDoor
open Go.RowKit

def strOf : Value → Nat
  | .string a => a.size
  | _ => 0
def yesOf : Value → Nat
  | .bool true => 1
  | _ => 0
/-- What a round of Parse leaves: nothing, the vector so far, the resources that were there. -/
def PS (w W : World) (v : Int × Int × Int) (t : Bool × Bool × Bool) : Prop := Bx3 W w.heap.size 0 0 0 ∧ Bx3 W (w.heap.size + 1) v.1 v.2.1 v.2.2 ∧ Bb3 W (w.heap.size + 2) t.1 t.2.1 t.2.2 ∧ Below w.heap.size w W
theorem PS.later {w W w1 : World} {v : Int × Int × Int} {t : Bool × Bool × Bool} (k : PS w W v t) (hb : Below W.heap.size W w1) : PS w w1 v t :=
  ⟨k.1.later hb, k.2.1.later hb, k.2.2.1.later hb, k.2.2.2.trans (hb.mono k.2.2.2.size)⟩
theorem more_on {R : (Int × Int × Int) × Int} {v : Int × Int × Int} {t : Bool × Bool × Bool} {a p q : ByteArray} {f : Bool} (h : R = runs v t (if true = true then segs a.data.toList else [])) (k : Cutd 44 a.data.toList p q f) : R = runs v t (p.data.toList :: (if f = true then segs q.data.toList else [])) := by
  obtain ⟨k1, _, ⟨rfl, k2, _⟩ | ⟨rfl, k2, _⟩⟩ := k
  · rw [h, if_pos rfl, if_pos rfl, segs_some k1 k2]
  · rw [h, if_pos rfl, if_neg (by simp), segs_none k1 k2]
theorem cut_sz {d : UInt8} {l : List UInt8} {p q : ByteArray} {f : Bool} (k : Cutd d l p q f) : f = true → q.size < l.length := by
  obtain ⟨_, _, ⟨_, _, k⟩ | ⟨rfl, _⟩⟩ := k
  · exact fun _ => k
  · simp
theorem cut_sz0 {d : UInt8} {l : List UInt8} {p q : ByteArray} {f : Bool} (k : Cutd d l p q f) : q.size ≤ l.length := by
  obtain ⟨_, _, ⟨_, _, k⟩ | ⟨_, _, k⟩⟩ := k
  · omega
  · omega
theorem measure_ok {b s : ByteArray} {f : Bool} (h : f = true → b.size < s.size) : yesOf (.bool f) * (strOf (.string b) + 1) < yesOf (.bool true) * (strOf (.string s) + 1) := by
  cases f
  · simp [yesOf, strOf]
  · have := h rfl
    simp [yesOf, strOf]; omega

set_option maxHeartbeats 2000000 in
theorem vparse_none (w : World) : Calls Tryz.prog 7 #[.string ⟨#[]⟩] w fun e w' => e = .returned (.tuple #[.agg #[.int .i64 0, .int .i64 0, .int .i64 0], .int .i64 10]) ∧ Below w.heap.size w w' := by
  go_enter Tryz.func7, Tryz.ntmps7
  go_wp2
  go_returns
  exact ⟨rfl, by go_grown⟩

set_option maxHeartbeats 2000000 in
theorem vparse_dash (w : World) : Calls Tryz.prog 7 #[.string ⟨#[45]⟩] w fun e w' => e = .returned (.tuple #[.agg #[.int .i64 0, .int .i64 0, .int .i64 0], .int .i64 0]) ∧ Below w.heap.size w w' := by
  go_enter Tryz.func7, Tryz.ntmps7
  go_wp2
  go_returns
  exact ⟨rfl, by go_grown⟩

set_option maxHeartbeats 8000000 in
set_option maxRecDepth 100000 in
theorem vparse_some (s : ByteArray) (hm : s.size ≤ maxLen) (w : World) (hL : LaidV w) (n1 : s.data.toList ≠ []) (n2 : s.data.toList ≠ [45]) :
    Calls Tryz.prog 7 #[.string s] w fun e w' => e = .returned (vev (runs (0, 0, 0) (false, false, false) (segs s.data.toList))) ∧ Below w.heap.size w w' := by
  obtain ⟨R, hR⟩ : ∃ R, R = runs (0, 0, 0) (false, false, false) (segs s.data.toList) := ⟨_, rfl⟩
  rw [← hR]
  have HR : Hid (R = runs (0, 0, 0) (false, false, false) (if true = true then segs s.data.toList else [])) := hR
  have HL : Hid (LaidV w) := hL
  have g1 : (s.toList == ([] : List UInt8)) = false := by rw [ByteArray.toList_eq, beq_dec]; exact decide_eq_false n1
  have g2 : (s.toList == [45]) = false := by rw [ByteArray.toList_eq, beq_dec]; exact decide_eq_false n2
  have g3 : s.toList.isEmpty = false := by rw [empty_iff]; exact decide_eq_false n1
  clear hR hL n1 n2
  have HM : Hid (s.size ≤ maxLen) := hm
  clear hm
  go_enter Tryz.func7, Tryz.ntmps7
  go_wp2
  go_loopw [6, 7] (fun p f wr => ∃ (a : ByteArray) (b : Bool) (v : Int × Int × Int) (t : Bool × Bool × Bool), p = .string a ∧ f = .bool b ∧ Hid (a.size ≤ maxLen) ∧ Hid (R = runs v t (if b = true then segs a.data.toList else [])) ∧ Hid (PS w wr v t)) (fun p f _ => yesOf f * (strOf p + 1))
  case atStart => exact ⟨s, true, (0, 0, 0), (false, false, false), rfl, rfl, HM, HR, ⟨((Bx3.new _ _ _ _ _ _ rfl).alloc _).alloc _, (Bx3.new _ _ _ _ _ _ (by simp)).alloc _, Bb3.new _ _ _ _ _ _ (by simp), by go_grown⟩⟩
  case round =>
    obtain ⟨a, b, ⟨vc, vm, vh⟩, ⟨tc, tm, th⟩, rfl, rfl, AM, RR, K⟩ := hrel
    clear HR HM g1 g2 g3
    match b, RR with
    | false, RR =>
      obtain ⟨⟨r0, r1, r2, r3, r4, r5, r6⟩, ⟨p0, p1, p2, p3, p4, p5, p6⟩, -, HB⟩ := K.out
      simp only at p0 p1 p2
      have nb : w.heap.size + 1 < wr.heap.size := p6
      have X : Hid (R = ((vc, vm, vh), 0)) := by unfold Hid; rw [RR.out]; rfl
      clear RR K
      go_wp2
      refine bodyPost_ret (v := .tuple #[.agg #[.int .i64 vc, .int .i64 vm, .int .i64 vh], .int .i64 0]) (by simp [results, Tryz.results7, go_sem, r0, r1, r2]) rfl ?_
      exact ⟨by rw [X.out]; rfl, by go_grown⟩
    | true, RR =>
      go_wp2_with (fail)
      refine (cut_44 a AM.out _).mono ?_
      rintro e w1 ⟨p, q, f, rfl, hc, hw1⟩
      have R1 : Hid (R = runs (vc, vm, vh) (tc, tm, th) (p.data.toList :: (if f = true then segs q.data.toList else []))) := more_on RR.out hc
      have QS : Hid (f = true → q.size < a.size) := fun h => by have := cut_sz hc h; rwa [ba_len] at this
      have QM : Hid (q.size ≤ maxLen) := Nat.le_trans (by have := cut_sz0 hc; rwa [ba_len] at this) AM.out
      have PM : Hid (p.size ≤ maxLen) := Nat.le_trans (by have := hc.2.1; rwa [ba_len] at this) AM.out
      have K1 : Hid (PS w w1 (vc, vm, vh) (tc, tm, th)) := K.out.later hw1
      clear RR K hc hw1
      go_wp2_with (fail)
      refine (cut_61 p PM.out _).mono ?_
      rintro e w2 ⟨n, x, g, rfl, hc, hw2⟩
      have C : Hid (Cutd 61 p.data.toList n x g) := hc
      have K2 : Hid (PS w w2 (vc, vm, vh) (tc, tm, th)) := K1.out.later hw2
      clear K1 hc hw2
      go_wp2_with (fail)
      refine (resource_is n _ (HL.out.later K2.out.2.2.2)).mono ?_
      rintro e w3 ⟨rfl, rfl⟩
      obtain ⟨⟨r0, r1, r2, r3, r4, r5, r6⟩, ⟨p0, p1, p2, p3, p4, p5, p6⟩, ⟨t0, t1, t2, t3, t4, t5, t6⟩, HB⟩ := K2.out
      simp only at p0 p1 p2 t0 t1 t2
      have nb : w.heap.size + 2 < w2.heap.size := t6
      match g, C with
      | false, C =>
        have X : Hid (R = ((0, 0, 0), 11)) := by
          unfold Hid
          obtain ⟨_, _, ⟨h, _⟩ | ⟨_, h, _⟩⟩ := C.out
          · simp at h
          · rw [R1.out, runs_cut h]
        obtain ⟨o, ho⟩ : ∃ o, o = resL n.data.toList := ⟨_, rfl⟩
        rw [← ho, show resV o = .tuple #[.int .i64 ((o.getD 0 : Nat) : Int), .bool o.isSome] from rfl]
        clear ho R1 C K2
        go_wp2
        refine bodyPost_ret (v := .tuple #[.agg #[.int .i64 0, .int .i64 0, .int .i64 0], .int .i64 11]) (by simp [results, Tryz.results7, go_sem, r0, r1, r2]) rfl ?_
        exact ⟨by rw [X.out]; rfl, by go_grown⟩
      | true, C =>
        obtain ⟨C1, C2⟩ : Hid (n.data.toList = (cutAt 61 p.data.toList).1) ∧ Hid ((cutAt 61 p.data.toList).2 = some x.data.toList ∧ x.size < p.data.toList.length) := by
          obtain ⟨h0, _, ⟨_, h⟩ | ⟨h, _⟩⟩ := C.out
          · exact ⟨h0, h⟩
          · simp at h
        have XM : Hid (x.size ≤ maxLen) := by
          have h := C2.out.2
          rw [ba_len] at h
          exact Nat.le_trans (Nat.le_of_lt h) PM.out
        clear C
        rcases res_cases n.data.toList with hr | hr | hr | hr
        · have X : Hid (R = ((0, 0, 0), 11)) := by unfold Hid; rw [R1.out, runs_res C2.out.1 (by rw [← C1.out, hr])]
          rw [hr, show resV none = .tuple #[.int .i64 0, .bool false] from rfl]
          clear hr R1 K2
          go_wp2
          refine bodyPost_ret (v := .tuple #[.agg #[.int .i64 0, .int .i64 0, .int .i64 0], .int .i64 11]) (by simp [results, Tryz.results7, go_sem, r0, r1, r2]) rfl ?_
          exact ⟨by rw [X.out]; rfl, by go_grown⟩
        · have RE : Hid (resL (cutAt 61 p.data.toList).1 = some 0) := by unfold Hid; rw [← C1.out, hr]
          rw [hr, show resV (some 0) = .tuple #[.int .i64 0, .bool true] from rfl]
          clear hr
          cases tc with
          | true =>
            have X : Hid (R = ((0, 0, 0), 11)) := by unfold Hid; rw [R1.out, runs_thr C2.out.1 RE.out rfl]
            clear R1 K2
            go_wp2
            refine bodyPost_ret (v := .tuple #[.agg #[.int .i64 0, .int .i64 0, .int .i64 0], .int .i64 11]) (by simp [results, Tryz.results7, go_sem, r0, r1, r2]) rfl ?_
            exact ⟨by rw [X.out]; rfl, by go_grown⟩
          | false =>
            go_wp2_with (fail)
            refine (number_0 x XM.out _ (HL.out.later K2.out.2.2.2)).mono ?_
            rintro e w4 ⟨rfl, hw4⟩
            obtain ⟨m, y, hn⟩ : ∃ m y, numL 0 x.data.toList = (m, y) := ⟨_, _, Prod.eta _ |>.symm⟩
            rw [hn, show iiv (m, y) = .tuple #[.int .i64 m, .int .i64 y] from rfl]
            have N : Hid (numL 0 x.data.toList = (m, y)) := hn
            have K3 : Hid (PS w w4 (vc, vm, vh) (false, tm, th)) := K2.out.later hw4
            clear hn hw4 K2 r0 r1 r2 r3 r4 r5 r6 p0 p1 p2 p3 p4 p5 p6 t0 t1 t2 t3 t4 t5 t6 HB nb
            obtain ⟨⟨r0, r1, r2, r3, r4, r5, r6⟩, ⟨p0, p1, p2, p3, p4, p5, p6⟩, ⟨t0, t1, t2, t3, t4, t5, t6⟩, HB⟩ := K3.out
            simp only at p0 p1 p2 t0 t1 t2
            have nb : w.heap.size + 2 < w4.heap.size := t6
            by_cases y0 : y = 0
            · subst y0
              have R2 : Hid (R = runs (m, vm, vh) (true, tm, th) (if f = true then segs q.data.toList else [])) := by unfold Hid; rw [R1.out, runs_on C2.out.1 RE.out rfl N.out]; rfl
              clear R1 N
              go_wp2_with (fail)
              refine (with_any vc vm vh 0 m _).mono ?_
              rintro e w5 ⟨rfl, hw5⟩
              rw [show vv (withv vc vm vh 0 m) = .agg #[.int .i64 m, .int .i64 vm, .int .i64 vh] from rfl]
              have k_r : Bx3 w5 w.heap.size 0 0 0 := (K3.out.1.beside _ _ (by omega)).later hw5
              have k_p : Bx3 w5 (w.heap.size + 1) vc vm vh := (K3.out.2.1.beside _ _ (by omega)).later hw5
              have k_t : Bb3 w5 (w.heap.size + 2) true tm th := (Bb3.put0 K3.out.2.2.1).later hw5
              have HB5 : Below w.heap.size w w5 := Below.trans (show Below w.heap.size w _ by go_grown) (hw5.mono (by simp; omega))
              clear K3 r0 r1 r2 r3 r4 r5 r6 p0 p1 p2 p3 p4 p5 p6 t0 t1 t2 t3 t4 t5 t6 HB nb hw5
              obtain ⟨p0, p1, p2, p3, p4, p5, p6⟩ := id k_p
              have hs := HB5.size
              have KE : Hid (PS w (((w5.setCell ⟨w.heap.size + 1, 0, none⟩ (.int .i64 m)).setCell ⟨w.heap.size + 1, 1, none⟩ (.int .i64 vm)).setCell ⟨w.heap.size + 1, 2, none⟩ (.int .i64 vh)) (m, vm, vh) (true, tm, th)) := ⟨((k_r.beside _ _ (by omega)).beside _ _ (by omega)).beside _ _ (by omega), k_p.put _ _ _, ((k_t.beside _ _ (by omega)).beside _ _ (by omega)).beside _ _ (by omega), by go_grown⟩
              clear k_r k_p k_t
              go_wp2
              go_roundw
              case rel => exact ⟨q, f, (m, vm, vh), (true, tm, th), rfl, rfl, QM, R2, KE⟩
              case measure => exact measure_ok QS.out
            · have X : Hid (R = ((0, 0, 0), y)) := by unfold Hid; rw [R1.out, runs_err C2.out.1 RE.out rfl N.out y0]
              have y1 : (y != 0) = true := by simp [y0]
              clear R1 K3 N
              go_wp2
              refine bodyPost_ret (v := .tuple #[.agg #[.int .i64 0, .int .i64 0, .int .i64 0], .int .i64 y]) (by simp [results, Tryz.results7, go_sem, r0, r1, r2]) rfl ?_
              exact ⟨by rw [X.out]; rfl, by go_grown⟩
        · have RE : Hid (resL (cutAt 61 p.data.toList).1 = some 1) := by unfold Hid; rw [← C1.out, hr]
          rw [hr, show resV (some 1) = .tuple #[.int .i64 1, .bool true] from rfl]
          clear hr
          cases tm with
          | true =>
            have X : Hid (R = ((0, 0, 0), 11)) := by unfold Hid; rw [R1.out, runs_thr C2.out.1 RE.out rfl]
            clear R1 K2
            go_wp2
            refine bodyPost_ret (v := .tuple #[.agg #[.int .i64 0, .int .i64 0, .int .i64 0], .int .i64 11]) (by simp [results, Tryz.results7, go_sem, r0, r1, r2]) rfl ?_
            exact ⟨by rw [X.out]; rfl, by go_grown⟩
          | false =>
            go_wp2_with (fail)
            refine (number_1 x XM.out _ (HL.out.later K2.out.2.2.2)).mono ?_
            rintro e w4 ⟨rfl, hw4⟩
            obtain ⟨m, y, hn⟩ : ∃ m y, numL 1 x.data.toList = (m, y) := ⟨_, _, Prod.eta _ |>.symm⟩
            rw [hn, show iiv (m, y) = .tuple #[.int .i64 m, .int .i64 y] from rfl]
            have N : Hid (numL 1 x.data.toList = (m, y)) := hn
            have K3 : Hid (PS w w4 (vc, vm, vh) (tc, false, th)) := K2.out.later hw4
            clear hn hw4 K2 r0 r1 r2 r3 r4 r5 r6 p0 p1 p2 p3 p4 p5 p6 t0 t1 t2 t3 t4 t5 t6 HB nb
            obtain ⟨⟨r0, r1, r2, r3, r4, r5, r6⟩, ⟨p0, p1, p2, p3, p4, p5, p6⟩, ⟨t0, t1, t2, t3, t4, t5, t6⟩, HB⟩ := K3.out
            simp only at p0 p1 p2 t0 t1 t2
            have nb : w.heap.size + 2 < w4.heap.size := t6
            by_cases y0 : y = 0
            · subst y0
              have R2 : Hid (R = runs (vc, m, vh) (tc, true, th) (if f = true then segs q.data.toList else [])) := by unfold Hid; rw [R1.out, runs_on C2.out.1 RE.out rfl N.out]; rfl
              clear R1 N
              go_wp2_with (fail)
              refine (with_any vc vm vh 1 m _).mono ?_
              rintro e w5 ⟨rfl, hw5⟩
              rw [show vv (withv vc vm vh 1 m) = .agg #[.int .i64 vc, .int .i64 m, .int .i64 vh] from rfl]
              have k_r : Bx3 w5 w.heap.size 0 0 0 := (K3.out.1.beside _ _ (by omega)).later hw5
              have k_p : Bx3 w5 (w.heap.size + 1) vc vm vh := (K3.out.2.1.beside _ _ (by omega)).later hw5
              have k_t : Bb3 w5 (w.heap.size + 2) tc true th := (Bb3.put1 K3.out.2.2.1).later hw5
              have HB5 : Below w.heap.size w w5 := Below.trans (show Below w.heap.size w _ by go_grown) (hw5.mono (by simp; omega))
              clear K3 r0 r1 r2 r3 r4 r5 r6 p0 p1 p2 p3 p4 p5 p6 t0 t1 t2 t3 t4 t5 t6 HB nb hw5
              obtain ⟨p0, p1, p2, p3, p4, p5, p6⟩ := id k_p
              have hs := HB5.size
              have KE : Hid (PS w (((w5.setCell ⟨w.heap.size + 1, 0, none⟩ (.int .i64 vc)).setCell ⟨w.heap.size + 1, 1, none⟩ (.int .i64 m)).setCell ⟨w.heap.size + 1, 2, none⟩ (.int .i64 vh)) (vc, m, vh) (tc, true, th)) := ⟨((k_r.beside _ _ (by omega)).beside _ _ (by omega)).beside _ _ (by omega), k_p.put _ _ _, ((k_t.beside _ _ (by omega)).beside _ _ (by omega)).beside _ _ (by omega), by go_grown⟩
              clear k_r k_p k_t
              go_wp2
              go_roundw
              case rel => exact ⟨q, f, (vc, m, vh), (tc, true, th), rfl, rfl, QM, R2, KE⟩
              case measure => exact measure_ok QS.out
            · have X : Hid (R = ((0, 0, 0), y)) := by unfold Hid; rw [R1.out, runs_err C2.out.1 RE.out rfl N.out y0]
              have y1 : (y != 0) = true := by simp [y0]
              clear R1 K3 N
              go_wp2
              refine bodyPost_ret (v := .tuple #[.agg #[.int .i64 0, .int .i64 0, .int .i64 0], .int .i64 y]) (by simp [results, Tryz.results7, go_sem, r0, r1, r2]) rfl ?_
              exact ⟨by rw [X.out]; rfl, by go_grown⟩
        · have RE : Hid (resL (cutAt 61 p.data.toList).1 = some 2) := by unfold Hid; rw [← C1.out, hr]
          rw [hr, show resV (some 2) = .tuple #[.int .i64 2, .bool true] from rfl]
          clear hr
          cases th with
          | true =>
            have X : Hid (R = ((0, 0, 0), 11)) := by unfold Hid; rw [R1.out, runs_thr C2.out.1 RE.out rfl]
            clear R1 K2
            go_wp2
            refine bodyPost_ret (v := .tuple #[.agg #[.int .i64 0, .int .i64 0, .int .i64 0], .int .i64 11]) (by simp [results, Tryz.results7, go_sem, r0, r1, r2]) rfl ?_
            exact ⟨by rw [X.out]; rfl, by go_grown⟩
          | false =>
            go_wp2_with (fail)
            refine (number_2 x XM.out _ (HL.out.later K2.out.2.2.2)).mono ?_
            rintro e w4 ⟨rfl, hw4⟩
            obtain ⟨m, y, hn⟩ : ∃ m y, numL 2 x.data.toList = (m, y) := ⟨_, _, Prod.eta _ |>.symm⟩
            rw [hn, show iiv (m, y) = .tuple #[.int .i64 m, .int .i64 y] from rfl]
            have N : Hid (numL 2 x.data.toList = (m, y)) := hn
            have K3 : Hid (PS w w4 (vc, vm, vh) (tc, tm, false)) := K2.out.later hw4
            clear hn hw4 K2 r0 r1 r2 r3 r4 r5 r6 p0 p1 p2 p3 p4 p5 p6 t0 t1 t2 t3 t4 t5 t6 HB nb
            obtain ⟨⟨r0, r1, r2, r3, r4, r5, r6⟩, ⟨p0, p1, p2, p3, p4, p5, p6⟩, ⟨t0, t1, t2, t3, t4, t5, t6⟩, HB⟩ := K3.out
            simp only at p0 p1 p2 t0 t1 t2
            have nb : w.heap.size + 2 < w4.heap.size := t6
            by_cases y0 : y = 0
            · subst y0
              have R2 : Hid (R = runs (vc, vm, m) (tc, tm, true) (if f = true then segs q.data.toList else [])) := by unfold Hid; rw [R1.out, runs_on C2.out.1 RE.out rfl N.out]; rfl
              clear R1 N
              go_wp2_with (fail)
              refine (with_any vc vm vh 2 m _).mono ?_
              rintro e w5 ⟨rfl, hw5⟩
              rw [show vv (withv vc vm vh 2 m) = .agg #[.int .i64 vc, .int .i64 vm, .int .i64 m] from rfl]
              have k_r : Bx3 w5 w.heap.size 0 0 0 := (K3.out.1.beside _ _ (by omega)).later hw5
              have k_p : Bx3 w5 (w.heap.size + 1) vc vm vh := (K3.out.2.1.beside _ _ (by omega)).later hw5
              have k_t : Bb3 w5 (w.heap.size + 2) tc tm true := (Bb3.put2 K3.out.2.2.1).later hw5
              have HB5 : Below w.heap.size w w5 := Below.trans (show Below w.heap.size w _ by go_grown) (hw5.mono (by simp; omega))
              clear K3 r0 r1 r2 r3 r4 r5 r6 p0 p1 p2 p3 p4 p5 p6 t0 t1 t2 t3 t4 t5 t6 HB nb hw5
              obtain ⟨p0, p1, p2, p3, p4, p5, p6⟩ := id k_p
              have hs := HB5.size
              have KE : Hid (PS w (((w5.setCell ⟨w.heap.size + 1, 0, none⟩ (.int .i64 vc)).setCell ⟨w.heap.size + 1, 1, none⟩ (.int .i64 vm)).setCell ⟨w.heap.size + 1, 2, none⟩ (.int .i64 m)) (vc, vm, m) (tc, tm, true)) := ⟨((k_r.beside _ _ (by omega)).beside _ _ (by omega)).beside _ _ (by omega), k_p.put _ _ _, ((k_t.beside _ _ (by omega)).beside _ _ (by omega)).beside _ _ (by omega), by go_grown⟩
              clear k_r k_p k_t
              go_wp2
              go_roundw
              case rel => exact ⟨q, f, (vc, vm, m), (tc, tm, true), rfl, rfl, QM, R2, KE⟩
              case measure => exact measure_ok QS.out
            · have X : Hid (R = ((0, 0, 0), y)) := by unfold Hid; rw [R1.out, runs_err C2.out.1 RE.out rfl N.out y0]
              have y1 : (y != 0) = true := by simp [y0]
              clear R1 K3 N
              go_wp2
              refine bodyPost_ret (v := .tuple #[.agg #[.int .i64 0, .int .i64 0, .int .i64 0], .int .i64 y]) (by simp [results, Tryz.results7, go_sem, r0, r1, r2]) rfl ?_
              exact ⟨by rw [X.out]; rfl, by go_grown⟩

theorem vparse_is (s : ByteArray) (hm : s.size ≤ maxLen) (w : World) (hL : LaidV w) :
    Calls Tryz.prog 7 #[.string s] w fun e w' => e = .returned (vev (parseV s.data.toList)) ∧ Below w.heap.size w w' := by
  unfold parseV
  by_cases a : s.data.toList = []
  · rw [if_pos a]
    obtain rfl := ba_eq a
    exact vparse_none w
  by_cases b : s.data.toList = [45]
  · rw [if_neg a, if_pos b]
    obtain rfl := ba_eq b
    exact vparse_dash w
  · rw [if_neg a, if_neg b]
    exact vparse_some s hm w hL a b

end Go.Proofs.YtpbgolcimbjekaaGreatDoor

namespace Go.Proofs.YtpbgolcimbjekaaGreatDoor
open Go.RowKit

theorem up_mono {a b v : Nat} (h : a ≤ b) : up a v ≤ up b v := Nat.div_le_div_right (by omega)
theorem up_mul {n v : Nat} (v0 : 1 < v) : up (n * v) v = n := by
  rw [← up_whole v0 (by simp), Nat.mul_div_cancel _ (by omega)]
theorem counted_two {a b v : Nat} {x y g h : Int} (ab : a ≤ b)
    (f : (up a v ≤ 1152921504606846976 ∧ x = (up a v : Nat) ∧ g = 0) ∨ (1152921504606846976 < up a v ∧ x = 0 ∧ g = 15))
    (k : (up b v ≤ 1152921504606846976 ∧ y = (up b v : Nat) ∧ h = 0) ∨ (1152921504606846976 < up b v ∧ y = 0 ∧ h = 15)) :
    (h = 0 ∧ g = 0 ∧ x ≤ y) ∨ h = 15 := by
  have := up_mono (v := v) ab
  omega
theorem cmp_pos {a b : Nat} (h : a ≤ b) : cmp (a : Int) (b : Int) ≤ 0 := by
  have := cmp_le a b
  rw [decide_eq_true h] at this
  exact of_decide_eq_true this
theorem cmp_neg {a b : Nat} (h : ¬ a ≤ b) : ¬ cmp (a : Int) (b : Int) ≤ 0 := by
  have := cmp_le a b
  rw [decide_eq_false h] at this
  exact of_decide_eq_false this

/-- What comes of so many, and back. -/
theorem back_units {n : Int} {h l g : Int}
    (f : (n < 0 ∧ h = 0 ∧ l = 0 ∧ g = 2) ∨ (1152921504606846976 < n ∧ h = 0 ∧ l = 0 ∧ g = 15) ∨ (0 ≤ n ∧ n ≤ 1152921504606846976 ∧ Is h l (n.toNat * 1000000000) ∧ g = 0)) :
    (g = 2 ∨ g = 15) ∨ (g = 0 ∧ ∀ w, Calls Tryz.prog 57 #[.agg #[.int .u64 h, .int .u64 l]] w fun e w' => e = .returned (.tuple #[.int .i64 n, .int .i64 0]) ∧ Below w.heap.size w w') := by
  rcases f with ⟨_, _, _, rfl⟩ | ⟨_, _, _, rfl⟩ | ⟨n0, n1, i, rfl⟩
  · exact Or.inl (Or.inl rfl)
  · exact Or.inl (Or.inr rfl)
  · refine Or.inr ⟨rfl, fun w => (units_is i w).mono ?_⟩
    rintro e w' ⟨⟨m, g, rfl, f⟩, hw⟩
    rw [up_mul (by omega)] at f
    rcases f with ⟨_, rfl, rfl⟩ | ⟨f, _⟩
    · rw [show ((n.toNat : Nat) : Int) = n by omega]; exact ⟨rfl, hw⟩
    · omega
theorem back_milli {n : Int} {h l g : Int}
    (f : (n < 0 ∧ h = 0 ∧ l = 0 ∧ g = 2) ∨ (1152921504606846976 < n ∧ h = 0 ∧ l = 0 ∧ g = 15) ∨ (0 ≤ n ∧ n ≤ 1152921504606846976 ∧ Is h l (n.toNat * 1000000) ∧ g = 0)) :
    (g = 2 ∨ g = 15) ∨ (g = 0 ∧ ∀ w, Calls Tryz.prog 56 #[.agg #[.int .u64 h, .int .u64 l]] w fun e w' => e = .returned (.tuple #[.int .i64 n, .int .i64 0]) ∧ Below w.heap.size w w') := by
  rcases f with ⟨_, _, _, rfl⟩ | ⟨_, _, _, rfl⟩ | ⟨n0, n1, i, rfl⟩
  · exact Or.inl (Or.inl rfl)
  · exact Or.inl (Or.inr rfl)
  · refine Or.inr ⟨rfl, fun w => (milli_is i w).mono ?_⟩
    rintro e w' ⟨⟨m, g, rfl, f⟩, hw⟩
    rw [up_mul (by omega)] at f
    rcases f with ⟨_, rfl, rfl⟩ | ⟨f, _⟩
    · rw [show ((n.toNat : Nat) : Int) = n by omega]; exact ⟨rfl, hw⟩
    · omega

end Go.Proofs.YtpbgolcimbjekaaGreatDoor

namespace Go.Proofs.YtpbgolcimbjekaaGreatDoor
open Go.RowKit

/-- Neither a comma nor an equals sign. -/
def okc (c : UInt8) : Bool := decide (c ≠ 44 ∧ c ≠ 61)
theorem okc_D {c : UInt8} (h : isD c = true) : okc c = true := by
  unfold isD at h
  unfold okc
  have := of_decide_eq_true h
  refine decide_eq_true ⟨?_, ?_⟩
  · rintro rfl; simp at this
  · rintro rfl; simp at this
theorem okc_dec (a : Nat) : ∀ c ∈ dec a, okc c = true := fun c h => okc_D (dec_digits a c h)
theorem okc_decs (t : Nat) (h : t < 10) : ∀ c ∈ decs.getD t [], okc c = true := by
  match t, h with
  | 0, _ => decide
  | 1, _ => decide
  | 2, _ => decide
  | 3, _ => decide
  | 4, _ => decide
  | 5, _ => decide
  | 6, _ => decide
  | 7, _ => decide
  | 8, _ => decide
  | 9, _ => decide
theorem okc_bins (t : Nat) (h : t < 6) : ∀ c ∈ bins.getD t [], okc c = true := by
  match t, h with
  | 0, _ => decide
  | 1, _ => decide
  | 2, _ => decide
  | 3, _ => decide
  | 4, _ => decide
  | 5, _ => decide
theorem okc_app {a b : List UInt8} (ha : ∀ c ∈ a, okc c = true) (hb : ∀ c ∈ b, okc c = true) : ∀ c ∈ a ++ b, okc c = true := fun c h => (List.mem_append.1 h).elim (ha c) (hb c)
theorem okc_text (a : Nat) : ∀ c ∈ textL a, okc c = true := by
  unfold textL
  split
  · split
    · decide
    · exact okc_app (okc_dec _) (okc_decs _ (by have := sh_le 1000 9 a 0; omega))
  · simp
theorem okc_bin (a : Nat) : ∀ c ∈ binL a, okc c = true := by
  unfold binL
  split
  · split
    · exact okc_text a
    · split
      · exact okc_text a
      · exact okc_app (okc_dec _) (okc_bins _ (by have := sh_le 1024 6 (a / 1000000000) 0; omega))
  · simp
theorem okc_amt (r : Nat) (n : Int) : ∀ c ∈ amtL r n, okc c = true := by
  unfold amtL
  split
  · exact okc_text _
  · exact okc_bin _

/-! ### Cutting -/
theorem cutn_none {d : UInt8} : ∀ l : List UInt8, (∀ c ∈ l, c ≠ d) → cutAt d l = (l, none)
  | [], _ => rfl
  | c :: r, h => by rw [cutAt, if_neg (h c (by simp)), cutn_none r (fun x hx => h x (by simp [hx]))]
theorem cut_at {d : UInt8} : ∀ (l q : List UInt8), (∀ c ∈ l, c ≠ d) → cutAt d (l ++ d :: q) = (l, some q)
  | [], q, _ => by rw [List.nil_append, cutAt, if_pos rfl]
  | c :: r, q, h => by rw [List.cons_append, cutAt, if_neg (h c (by simp)), cut_at r q (fun x hx => h x (by simp [hx]))]
theorem segs_plain {l : List UInt8} (h : ∀ c ∈ l, c ≠ 44) : segs l = [l] := by
  have e := cutn_none l h
  exact segs_none (by rw [e]) (by rw [e])
theorem segs_more {l q : List UInt8} (h : ∀ c ∈ l, c ≠ 44) : segs (l ++ 44 :: q) = l :: segs q := by
  have e := cut_at l q h
  exact segs_some (by rw [e]) (by rw [e])

/-! ### A resource's text -/
def nmL (r : Nat) : List UInt8 := if r = 0 then cpuL else if r = 1 then memL else hugL
def partL (r : Nat) (n : Int) : List UInt8 := nmL r ++ 61 :: amtL r n
theorem part_44 {r : Nat} (hr : r < 3) (n : Int) : ∀ c ∈ partL r n, c ≠ 44 := by
  intro c hc
  unfold partL at hc
  rcases List.mem_append.1 hc with h | h
  · have : ∀ r : Nat, r < 3 → ∀ c ∈ nmL r, c ≠ 44 := by decide
    exact this r hr c h
  · rcases List.mem_cons.1 h with rfl | h
    · decide
    · have := of_decide_eq_true (okc_amt r n c h)
      exact this.1
theorem part_cut {r : Nat} (hr : r < 3) (n : Int) : cutAt 61 (partL r n) = (nmL r, some (amtL r n)) := by
  have : ∀ r : Nat, r < 3 → ∀ c ∈ nmL r, c ≠ 61 := by decide
  exact cut_at _ _ (this r hr)
theorem res_nm {r : Nat} (hr : r < 3) : resL (nmL r) = some r := by
  have : ∀ r : Nat, r < 3 → resL (nmL r) = some r := by decide
  exact this r hr
/-- What is right of a resource. -/
def rightAt (r : Nat) (n : Int) : Prop := 0 ≤ n ∧ n ≤ bnd r ∧ (r = 2 → n % 2097152 = 0)
theorem num_amt {r : Nat} {n : Int} (h : rightAt r n) : numL r (amtL r n) = (n, 0) := by
  obtain ⟨n0, n1, n2⟩ := h
  obtain ⟨k, rfl⟩ : ∃ k : Nat, n = (k : Int) := ⟨n.toNat, by omega⟩
  have k1 : k ≤ bnd r := by omega
  have e1 : 1 < each r := by unfold each; split <;> omega
  have b1 : bnd r ≤ 1125899906842624 := by unfold bnd; split <;> omega
  have ke : k * each r ≤ most := by
    unfold bnd at k1
    unfold each most
    split
    · rename_i e
      rw [if_pos e] at k1
      omega
    · rename_i e
      rw [if_neg e] at k1
      omega
  have hp : parseL (amtL r k) = (k * each r, 0) := by
    unfold amtL
    unfold each at ke ⊢
    by_cases e : r = 0
    · rw [if_pos e] at ke ⊢
      rw [if_pos e]
      simpa using (text_back _ ke).1
    · rw [if_neg e] at ke ⊢
      rw [if_neg e]
      simpa using bin_back _ ke
  have hc : cntL r (k * each r) = ((k : Int), 0) := by
    unfold cntL
    rw [up_mul e1, if_pos (by omega)]
  unfold numL numP
  rw [hp]
  simp only [hc]
  rw [if_neg (by simp), if_neg (by simp), if_neg (by omega), if_neg]
  intro h
  exact h.2 (n2 h.1)

/-- The parts of a vector's text, from a resource on. -/
def pts (v : Int × Int × Int) : List (List UInt8) := (if v.1 = 0 then [] else [partL 0 v.1]) ++ ((if v.2.1 = 0 then [] else [partL 1 v.2.1]) ++ (if v.2.2 = 0 then [] else [partL 2 v.2.2]))
def joinL : List (List UInt8) → List UInt8
  | [] => []
  | [p] => p
  | p :: q :: r => p ++ 44 :: joinL (q :: r)
/-- A right vector's text. -/
def textV (v : Int × Int × Int) : List UInt8 := if Rt v.1 v.2.1 v.2.2 then (if pts v = [] then [45] else joinL (pts v)) else []

theorem segs_join : ∀ ps : List (List UInt8), ps ≠ [] → (∀ p ∈ ps, ∀ c ∈ p, c ≠ 44) → segs (joinL ps) = ps
  | [], h, _ => absurd rfl h
  | [p], _, h => segs_plain (h p (by simp))
  | p :: q :: r, _, h => by
    rw [joinL, segs_more (h p (by simp)), segs_join (q :: r) (by simp) (fun x hx => h x (by simp [hx]))]
theorem pts_44 (v : Int × Int × Int) : ∀ p ∈ pts v, ∀ c ∈ p, c ≠ 44 := by
  intro p hp
  unfold pts at hp
  rcases List.mem_append.1 hp with h | h
  · split at h
    · simp at h
    · rw [List.mem_singleton.1 h]; exact part_44 (by omega) _
  · rcases List.mem_append.1 h with h | h
    · split at h
      · simp at h
      · rw [List.mem_singleton.1 h]; exact part_44 (by omega) _
    · split at h
      · simp at h
      · rw [List.mem_singleton.1 h]; exact part_44 (by omega) _
theorem runs_part {v : Int × Int × Int} {t : Bool × Bool × Bool} {r : Nat} (hr : r < 3) {n : Int} (hn : rightAt r n) (ht : thr t r = false) (ps : List (List UInt8)) : runs v t (partL r n :: ps) = runs (withv v.1 v.2.1 v.2.2 r n) (sett t r) ps := by
  have e := part_cut hr n
  exact runs_on (by rw [e]) (by rw [e]; exact res_nm hr) ht (num_amt hn)
theorem right_at {c m h : Int} (k : Rt c m h) : rightAt 0 c ∧ rightAt 1 m ∧ rightAt 2 h := by
  obtain ⟨a, b, c, d, e, f, g⟩ := k
  refine ⟨⟨a, by simpa [bnd] using b, by omega⟩, ⟨c, by simpa [bnd] using d, by omega⟩, ⟨e, by simpa [bnd] using f, fun _ => g⟩⟩
theorem runs_pts {c m h : Int} (k : Rt c m h) : runs (0, 0, 0) (false, false, false) (pts (c, m, h)) = ((c, m, h), 0) := by
  obtain ⟨k0, k1, k2⟩ := right_at k
  unfold pts
  have s2 : ∀ (x y : Int) (a b : Bool), runs (x, y, 0) (a, b, false) (if h = 0 then [] else [partL 2 h]) = ((x, y, h), 0) := by
    intro x y a b
    by_cases e : h = 0
    · rw [if_pos e, e]; rfl
    · rw [if_neg e, runs_part (by omega) k2 rfl]; rfl
  have s1 : ∀ (x : Int) (a : Bool), runs (x, 0, 0) (a, false, false) ((if m = 0 then [] else [partL 1 m]) ++ (if h = 0 then [] else [partL 2 h])) = ((x, m, h), 0) := by
    intro x a
    by_cases e : m = 0
    · rw [if_pos e, e, List.nil_append]; exact s2 _ _ _ _
    · rw [if_neg e, List.cons_append, List.nil_append, runs_part (by omega) k1 rfl]; exact s2 _ _ _ _
  by_cases e : c = 0
  · simp only [e, if_pos, List.nil_append]; exact s1 _ _
  · simp only [e, if_false, List.cons_append, List.nil_append]
    rw [runs_part (by omega) k0 rfl]; exact s1 _ _
theorem part_len {r : Nat} (n : Int) : 2 ≤ (partL r n).length := by
  unfold partL nmL
  split
  · simp [cpuL]
  · split
    · simp [memL]
    · simp [hugL]
theorem pts_len (v : Int × Int × Int) : ∀ p ∈ pts v, 2 ≤ p.length := by
  intro p hp
  unfold pts at hp
  rcases List.mem_append.1 hp with h | h
  · split at h
    · simp at h
    · rw [List.mem_singleton.1 h]; exact part_len _
  · rcases List.mem_append.1 h with h | h
    · split at h
      · simp at h
      · rw [List.mem_singleton.1 h]; exact part_len _
    · split at h
      · simp at h
      · rw [List.mem_singleton.1 h]; exact part_len _
theorem join_len : ∀ ps : List (List UInt8), ps ≠ [] → (∀ p ∈ ps, 2 ≤ p.length) → 2 ≤ (joinL ps).length
  | [], h, _ => absurd rfl h
  | [p], _, h => h p (by simp)
  | p :: q :: r, _, h => by
    have := h p (by simp)
    rw [joinL]; simp; omega
theorem text_vec {c m h : Int} (k : Rt c m h) : parseV (textV (c, m, h)) = ((c, m, h), 0) := by
  unfold textV
  rw [if_pos k]
  by_cases e : pts (c, m, h) = []
  · rw [if_pos e]
    have := runs_pts k
    rw [e] at this
    have e2 : (c, m, h) = ((0, 0, 0) : Int × Int × Int) := by
      have := congrArg Prod.fst this
      exact this.symm
    rw [e2]
    rfl
  · rw [if_neg e]
    have l := join_len _ e (pts_len (c, m, h))
    unfold parseV
    rw [if_neg (by intro h; rw [h] at l; simp at l), if_neg (by intro h; rw [h] at l; simp at l), segs_join _ e (pts_44 _)]
    exact runs_pts k
theorem text_wrong {c m h : Int} (k : ¬ Rt c m h) : textV (c, m, h) = [] := if_neg k

end Go.Proofs.YtpbgolcimbjekaaGreatDoor
